/- The walk of TallyTurns. -/
import Derived.Test.YtfbebnddedkcbaaPartsW
import Derived.Test.YtfbebnddedkcbaaMath2
import Derived.Deep.CutRange
namespace Go.Proofs.Ytfbebnddedkcbaa
open Go.RowKit
set_option linter.unusedVariables false
attribute [local go_sem ↓] Go.wp_at_zero Go.wp_at_succ

theorem Try.info5 : (Try.prog.info? 5).map (fun i => (i.zero, i.size, i.bytes)) = some (some (.int .u8 0), 1, 1) := by kernel_rfl

theorem rowA_bys {w : World} {A : Option Addr} {bs : List Int} (h : BysA w A bs) : RowA w A (bs.map (Value.int .u8)) := by
  intro hne
  obtain ⟨b, off, ha, hc⟩ := h (by rintro rfl; simp at hne)
  refine ⟨b, off, ha, fun j u hj => ?_⟩
  rw [List.getElem?_map] at hj
  have hjl : j < bs.length := by
    rcases Nat.lt_or_ge j bs.length with h | h
    · exact h
    · rw [List.getElem?_eq_none h] at hj; cases hj
  rw [hc j hjl, ← hj, List.getD_eq_getElem?_getD, List.getElem?_eq_getElem hjl]; rfl

theorem bys_rowA {w : World} {A : Option Addr} {bs : List Int} (h : RowA w A (bs.map (Value.int .u8))) : BysA w A bs := by
  intro hne
  obtain ⟨b, off, ha, hc⟩ := h (by simpa using hne)
  refine ⟨b, off, ha, fun j hj => ?_⟩
  rw [hc j (.int .u8 (bs.getD j 0))]
  rw [List.getElem?_map, List.getD_eq_getElem?_getD, List.getElem?_eq_getElem hj]; rfl

theorem one_u8 (bs : List Int) : ∀ u ∈ bs.map (Value.int .u8), u.oneCell' = true := by
  intro u hu
  obtain ⟨x, _, rfl⟩ := List.mem_map.1 hu
  rfl

/-- 'append([]byte{}, b...)': a copy of b, in a block of its own. -/
theorem wpList_copy {w0 W : World} {ops : Array Oper} {rest : List Oper} {o : Oper} {a : Act} {Q : Exit → Act → World → Prop} (hgd : o.guard = none) (s x : Operand)
    (ho : o.op = .call { callee := .builtin .append, args := #[s, x], argTypes := #[26, 26] }) (N : Nat) (hN : N = W.heap.size)
    (hs : a.eval s = .slice (some ⟨N, 0, none⟩) 0 0) (A : Option Addr) (c : Nat) (bs : List Int) (hx : a.eval x = .slice A bs.length c) (hR : BysA w0 A bs) (hw : Below w0.heap.size w0 W)
    (hlen : bs.length ≤ 20000) (hpos : 0 < bs.length)
    (h : ∀ g cap W', w0.heap.size ≤ g → W.heap.size ≤ g → bs.length ≤ cap → Below w0.heap.size w0 W' → Blk W' 5 g cap (bs.map (Value.int .u8)) → Below W.heap.size W W' → wpList Try.prog ops Q rest (a.put o.dst (.slice (some ⟨g, 0, none⟩) bs.length cap)) W') :
    wpList Try.prog ops Q (o :: rest) a (W.alloc (.cells #[] 5)) := by
  subst hN
  obtain ⟨i0, hi, hz0, hz1, hz2⟩ := info_parts Try.info5
  have hown : (W.alloc (.cells #[] 5)).ownsRow W.heap.size 5 1 (.slice (some ⟨W.heap.size, 0, none⟩) 0 0) 0 [] :=
    World.ownsRow_lit W #[] 0 (Nat.le_refl _) (by simp) (by simp)
  refine wpList_append_row hgd s x 26 ho W.heap.size 5 i0 (.int .u8 0) 1 1 Try.underlying26 hi hz0 hz1 hz2 rfl (by decide) (by decide) _ 0 [] hs hown A bs.length c (bs.map (Value.int .u8)) hx (by simp)
    (rowA_below (rowA_bys hR) (below_alloc hw _)) (one_u8 bs) (by omega) (by simp) ?_
  intro v' W' hown' hgrow hat
  obtain ⟨g, cap, rfl, hg, hcap, _, hblk⟩ := own_blk hown' (by omega)
  have hbel : Below W.heap.size W W' := (below_alloc (Below.refl _ _) _).grown hgrow (by simp) (fun k hk => by simp [Value.ownBlock] at hk; omega)
  rw [Nat.zero_add, List.nil_append] at *
  exact h g cap W' (Nat.le_trans hw.size hg) hg hcap (below_then hw hbel) hblk hbel

theorem map_get {bs : List Int} {i : Nat} (h : i < bs.length) : (bs.map (Value.int .u8))[i]? = some (.int .u8 (bs.getD i 0)) := by
  rw [List.getElem?_map, List.getD_eq_getElem?_getD, List.getElem?_eq_getElem h]; rfl

theorem byt_set {bs : List Int} (h : Byt bs) (i : Nat) (v : Int) (hv : 0 ≤ v ∧ v ≤ 255) : Byt (bs.set i v) := by
  intro k
  have := h k
  rw [List.getD_eq_getElem?_getD] at this ⊢
  rw [List.getElem?_set]
  split
  · split
    · exact hv
    · simp
  · exact this

/-- The sum of one slice, in every world behind w1: for the regions that draw their order. -/
theorem sumIn {w1 : World} {A : Option Addr} {bs : List Int} (hb : BysA w1 A bs) (hB : Byt bs) (hl : bs.length ≤ 20000) (c : Nat) (W : World) (N : Nat) (hN : N = W.heap.size) (hW : Below w1.heap.size w1 W) :
    Calls Try.prog 11 #[.slice (some ⟨N, 0, none⟩) 1 1] (W.alloc (.cells #[.slice A bs.length c] 26)) fun e w' => e = .returned (.int .u32 (sums 1 [bs])) ∧ Below w1.heap.size w1 w' := by
  refine (sum1 hB hl _ N (parts_new (cs := [_]) hN (fun i hi => ?_))).mono ?_
  · have : i = 0 := by simpa using hi
    subst this
    exact ⟨A, c, rfl, bysA_below hb hW⟩
  · rintro e w' ⟨he, rfl⟩
    exact ⟨he, below_alloc hW _⟩

/-- The sum of one slice whose header lies in cell N of the world at hand. -/
theorem sumAt {w1 : World} {A : Option Addr} {bs : List Int} (hb : BysA w1 A bs) (hB : Byt bs) (hl : bs.length ≤ 20000) (n c : Nat) (hn : n = bs.length) (W : World) (N : Nat) (hW : Below w1.heap.size w1 W)
    (hc : W.cell? ⟨N, 0, none⟩ = some (.slice A n c)) :
    Calls Try.prog 11 #[.slice (some ⟨N, 0, none⟩) 1 1] W fun e w' => e = .returned (.int .u32 (sums 1 [bs])) ∧ w' = W := by
  subst hn
  exact sum1 hB hl W N (one_part hc (bysA_below hb hW))

set_option maxHeartbeats 400000 in
theorem turns_walk (b off : Nat) (bs : List Int) (cap0 : Nat) (n0 n1 v : Int) (h0 : -9223372036854775808 ≤ n0 ∧ n0 ≤ 9223372036854775807) (h1 : -9223372036854775808 ≤ n1 ∧ n1 ≤ 9223372036854775807) (hv : 0 ≤ v ∧ v ≤ 255) (w : World) (hb : BysA w (some ⟨b, off, none⟩) bs) (hB : Byt bs) (h : bs.length ≤ 20000) (h2 : 2 ≤ bs.length) (hc : bs.length ≤ cap0) (hm : cap0 ≤ maxLen) :
    Calls Try.prog 5 #[.slice (some ⟨b, off, none⟩) bs.length cap0, .agg #[.int .i64 n0, .int .i64 n1], .int .u8 v] w fun e w' => e = .returned (.bool true) ∧ Below w.heap.size w w' := by
  have hml : maxLen = 9223372036854775807 := rfl
  rw [hml] at hm
  clear hml
  have g1 : ¬ (20000 : Int) < (bs.length : Int) := by omega
  have g2 : ¬ (bs.length : Int) < 2 := by omega
  have hlc : (bs.length : Int) ≤ (cap0 : Int) := by omega
  obtain ⟨i, hi, hil⟩ : ∃ k : Nat, n0 % (bs.length : Int) = (k : Int) ∧ k < bs.length := by
    have h1 := Int.emod_nonneg n0 (show (bs.length : Int) ≠ 0 by omega)
    have h2 := Int.emod_lt_of_pos n0 (show 0 < (bs.length : Int) by omega)
    exact ⟨(n0 % (bs.length : Int)).toNat, by omega, by omega⟩
  obtain ⟨j, hj, hjl⟩ : ∃ k : Nat, n1 % (bs.length : Int) = (k : Int) ∧ k < bs.length := by
    have h1 := Int.emod_nonneg n1 (show (bs.length : Int) ≠ 0 by omega)
    have h2 := Int.emod_lt_of_pos n1 (show 0 < (bs.length : Int) by omega)
    exact ⟨(n1 % (bs.length : Int)).toNat, by omega, by omega⟩
  have M0 : ∀ w, Calls Try.prog 14 #[.int .i64 n0, .int .i64 bs.length] w fun e w' => e = .returned (.int .i64 i) ∧ w' = w := fun w => by
    rw [← hi]; exact mod_any n0 bs.length h0 (by omega) w
  have M1 : ∀ w, Calls Try.prog 14 #[.int .i64 n1, .int .i64 bs.length] w fun e w' => e = .returned (.int .i64 j) ∧ w' = w := fun w => by
    rw [← hj]; exact mod_any n1 bs.length h1 (by omega) w
  have M0 := hide M0
  have M1 := hide M1
  clear hi hj
  go_enter Try.func5, Try.ntmps5
  go_wp2_with fail
  go_quiet (first | (go_at_call_of 14 n0; exact Calls.quiet_of_same (unhide M0 _)) | (go_at_call_of 14 n1; exact Calls.quiet_of_same (unhide M1 _)))
  have b1 : Below w.heap.size w ((w.alloc (Obj.cells #[Value.int IntKind.i64 n0, Value.int IntKind.i64 n1] 34)).drewN nq) := below_drewN (below_alloc (Below.refl _ _) _) _
  generalize (w.alloc (Obj.cells #[Value.int IntKind.i64 n0, Value.int IntKind.i64 n1] 34)).drewN nq = w1 at b1 ⊢
  have HB := hide hb
  clear hb
  go_wp2_with (at_builtin; refine wpList_copy (w0 := w) (W := w1) rfl _ _ rfl _ rfl rfl _ _ bs rfl (unhide HB) b1 h (by omega) ?_; intro g cap w2 hg hg' hcap b2 hblk hb12; have hfz := hblk.frozen i; have hcl := hblk.cell (map_get hil); have hci : (i : Int) < (cap : Int) := by omega)
  have b3 : Below w.heap.size w (w2.setCell ⟨g, i, none⟩ (.int .u8 v)) := below_set b2 _ _ _ hg
  have hk3 := hblk.set (j := i) (.int .u8 v) (by simpa using hil)
  generalize w2.setCell ⟨g, i, none⟩ (.int .u8 v) = w3 at b3 hk3 ⊢
  obtain ⟨t, ht⟩ : ∃ t, t = sums 1 [bs] := ⟨_, rfl⟩
  obtain ⟨t1, ht1⟩ : ∃ t, t = sums 1 [bs.set i v] := ⟨_, rfl⟩
  have hq : (t1 == t) = (v == bs.getD i 0) := by rw [ht, ht1]; exact turn_eq bs i v hil hv (hB i)
  have hcx : w3.cell? ⟨b, off + i, none⟩ = some (.int .u8 (bs.getD i 0)) := by
    obtain ⟨b', off', ha, hc⟩ := (bysA_below (unhide HB) b3) (by rintro rfl; simp at hil)
    cases ha
    exact hc i hil
  rw [← List.map_set] at hk3
  have CA := hide (sumAt (bys_rowA hk3.row) (byt_set hB i v hv) (by simpa using h) bs.length cap (by simp))
  have CB := hide (sumAt (bysA_below (unhide HB) b3) hB h bs.length cap0 rfl)
  rw [← ht1] at CA
  rw [← ht] at CB
  have hblt : b < w3.heap.size := World.block_lt_of_cell? _ _ hcx
  generalize bs.getD i 0 = x at hq hcx
  have HT := hide (And.intro ht ht1)
  clear ht ht1 hcl hfz hblk
  go_cut [50] from 37 (fun s50 wr => s50 = .bool false ∧ Below w.heap.size w wr)
  case first =>
    go_region_held3 (fun W => Below w3.heap.size w3 W ∧ W.cell? ⟨b, off + i, none⟩ = some (.int .u8 x)) ((go_split_ands; exact ⟨by repeat (first | assumption | exact Below.refl _ _ | apply Below.drew | apply below_alloc), by go_simp⟩))
      (first
        | (go_at_call 11; go_split_ands; refine (unhide CA _ _ ?_ ?_).mono ?_; (focus (repeat (first | assumption | exact Below.refl _ _ | apply Below.drew | apply below_alloc))); (focus (go_simp; done)); (rintro e w' ⟨rfl, rfl⟩))
        | (go_at_call 11; go_split_ands; refine (unhide CB _ _ ?_ ?_).mono ?_; (focus (repeat (first | assumption | exact Below.refl _ _ | apply Below.drew | apply below_alloc))); (focus (go_simp; done)); (rintro e w' ⟨rfl, rfl⟩)))
    all_goals
      go_wp2_with fail
      go_meet
      case rel => exact ⟨rfl, by repeat (first | assumption | apply Below.drew | apply below_alloc)⟩
  case rest =>
    obtain ⟨rfl, bc⟩ := hcut
    clear hk3 CA CB hcx hq b3 b2 b1 hb12 hci
    go_wp2_with (at_builtin; refine wpList_copy (w0 := w) (W := wc) rfl _ _ rfl _ rfl rfl _ _ bs rfl (unhide HB) bc h (by omega) ?_; intro g' cap' w4 hg2 hg2' hcap' b4 hblk' hb4; have hfi := hblk'.frozen i; have hcli := hblk'.cell (map_get hil); have hfj := hblk'.frozen j; have hclj := hblk'.cell (map_get hjl); have hci : (i : Int) < (cap' : Int) := (by omega); have hcj : (j : Int) < (cap' : Int) := (by omega))
    go_cut [] from 54 (fun wr => Below w.heap.size w wr ∧ Blk wr 5 g' cap' (((bs.set i (bs.getD j 0)).set j (bs.getD i 0)).map (Value.int .u8)))
    case first =>
      have HK := hide (show Blk (((w4.setCell ⟨g', i, none⟩ (.int .u8 (bs.getD j 0))).setCell ⟨g', j, none⟩ (.int .u8 (bs.getD i 0))).drew) 5 g' cap' (((bs.set i (bs.getD j 0)).set j (bs.getD i 0)).map (Value.int .u8)) by
        rw [List.map_set, List.map_set]
        exact ((hblk'.set (j := i) _ (by simpa using hil)).set (j := j) _ (by simpa using hjl)).drew)
      have HL := hide (((below_set (below_set b4 g' i (.int .u8 (bs.getD j 0)) hg2) g' j (.int .u8 (bs.getD i 0)) hg2)).drew)
      by_cases hij : i = j
      · subst hij
        generalize bs.getD i 0 = x at *
        have hcs : (w4.setCell ⟨g', i, none⟩ (.int .u8 x)).cell? ⟨g', i, none⟩ = some (.int .u8 x) := World.cell?_setCell_same _ _ _ hcli
        go_region
        all_goals
          go_wp2_with fail
          go_meet
          case rel => exact ⟨unhide HL, unhide HK⟩
      · generalize bs.getD i 0 = x at *
        generalize bs.getD j 0 = y at *
        go_region
        all_goals
          go_wp2_with fail
          go_meet
          case rel => exact ⟨unhide HL, unhide HK⟩
    case rest =>
      obtain ⟨bc2, hk2⟩ := hcut
      clear hblk' hb4 b4 hfi hcli hfj hclj hci hcj
      obtain ⟨ht, ht1⟩ := unhide HT
      clear ht1 HT
      obtain ⟨t2, ht2⟩ : ∃ t2, t2 = sums 1 [(bs.set i (bs.getD j 0)).set j (bs.getD i 0)] := ⟨_, rfl⟩
      have hq : (t2 == t) = (bs.getD i 0 == bs.getD j 0) := by rw [ht, ht2]; exact swap_eq bs i j hil hjl h (hB i) (hB j)
      have hcxy : wc.cell? ⟨b, off + i, none⟩ = some (.int .u8 (bs.getD i 0)) ∧ wc.cell? ⟨b, off + j, none⟩ = some (.int .u8 (bs.getD j 0)) := by
        obtain ⟨b', off', ha, hc⟩ := (bysA_below (unhide HB) bc2) (by rintro rfl; simp at hil)
        cases ha
        exact ⟨hc i hil, hc j hjl⟩
      obtain ⟨hcx, hcy⟩ := hcxy
      have CA := hide (sumAt (bys_rowA hk2.row) (byt_set (byt_set hB i _ (hB j)) j _ (hB i)) (by simpa using h) bs.length cap' (by simp))
      have CB := hide (sumAt (bysA_below (unhide HB) bc2) hB h bs.length cap0 rfl)
      rw [← ht2] at CA
      rw [← ht] at CB
      have hblt2 : b < wc.heap.size := World.block_lt_of_cell? _ _ hcx
      clear ht ht2 hk2
      generalize bs.getD i 0 = x at hq hcx
      generalize bs.getD j 0 = y at hq hcy
      have CW := hide (fun W (hW : Below wc.heap.size wc W) => (wakes_any W).mono (fun e w' hh => (⟨hh.1, below_then hW hh.2, ((below_then hW hh.2).cell (p := ⟨b, off + i, none⟩) hblt2).trans hcx, ((below_then hW hh.2).cell (p := ⟨b, off + j, none⟩) hblt2).trans hcy⟩ : _ ∧ Below wc.heap.size wc w' ∧ w'.cell? ⟨b, off + i, none⟩ = some (.int .u8 x) ∧ w'.cell? ⟨b, off + j, none⟩ = some (.int .u8 y))))
      have hli : (i : Int) < (bs.length : Int) := by omega
      have hlj : (j : Int) < (bs.length : Int) := by omega
      go_wp2_with fail
      go_region_held3 (fun W => Below wc.heap.size wc W ∧ W.cell? ⟨b, off + i, none⟩ = some (.int .u8 x) ∧ W.cell? ⟨b, off + j, none⟩ = some (.int .u8 y)) ((go_split_ands; exact ⟨by repeat (first | assumption | exact Below.refl _ _ | apply Below.drew | apply below_alloc), by go_simp, by go_simp⟩))
        (first
          | (go_at_call 11; go_split_ands; refine (unhide CA _ _ ?_ ?_).mono ?_; (focus (repeat (first | assumption | exact Below.refl _ _ | apply Below.drew | apply below_alloc))); (focus (go_simp; done)); (rintro e w' ⟨rfl, rfl⟩))
          | (go_at_call 11; go_split_ands; refine (unhide CB _ _ ?_ ?_).mono ?_; (focus (repeat (first | assumption | exact Below.refl _ _ | apply Below.drew | apply below_alloc))); (focus (go_simp; done)); (rintro e w' ⟨rfl, rfl⟩))
          | (go_at_call 8; go_split_ands; refine (unhide CW _ ?_).mono ?_; (focus (repeat (first | assumption | exact Below.refl _ _ | apply Below.drew | apply below_alloc))); (rintro e w' ⟨rfl, hbel, hbx, hby⟩)))
      all_goals go_wp2
      all_goals go_ret
      all_goals exact ⟨rfl, below_then bc2 (by assumption)⟩

set_option maxHeartbeats 400000 in
theorem turns_out (a0 : Option Addr) (len0 cap0 : Nat) (n0 n1 v : Int) (w : World) (h : 20000 < len0 ∨ len0 < 2) (hm : len0 ≤ maxLen) :
    Calls Try.prog 5 #[.slice a0 len0 cap0, .agg #[.int .i64 n0, .int .i64 n1], .int .u8 v] w fun e w' => e = .returned (.bool true) ∧ Below w.heap.size w w' := by
  have hml : maxLen = 9223372036854775807 := rfl
  rw [hml] at hm
  clear hml
  rcases h with h | h
  · have h' : (20000 : Int) < (len0 : Int) := by omega
    go_enter Try.func5, Try.ntmps5
    go_wp2_with fail
    refine (wakes_any _).mono ?_
    rintro e w' ⟨rfl, hb⟩
    go_wp2
    go_ret
    exact ⟨rfl, below_then (below_alloc (Below.refl _ _) _) hb⟩
  · have h' : ¬ (20000 : Int) < (len0 : Int) := by omega
    have h2 : (len0 : Int) < 2 := by omega
    go_enter Try.func5, Try.ntmps5
    go_wp2_with fail
    refine (wakes_any _).mono ?_
    rintro e w' ⟨rfl, hb⟩
    go_wp2
    go_ret
    exact ⟨rfl, below_then (below_alloc (Below.refl _ _) _) hb⟩
end Go.Proofs.Ytfbebnddedkcbaa
