/- Own texts in one: SLeaf, SStep, SNew, SDo, SBuild, SWrite, SMath, SRead, SFlush. -/
import Derived.Test.YtfceileohkngnaaProg
import Derived.Test.YtfceileohkngnaaMB
import Derived.WalkKit
import Derived.WalkSpells
import Derived.LoopTactic
import Derived.Laws.Closers25b
import Derived.Deep.RegionHeld3
import Derived.Deep.RegionLaw
/- Contracts of the leaves: full, Mod, Len, Pending, has. -/
namespace Go.Proofs.Ytfceileohkngnaa
open Go.RowKit
set_option linter.unusedVariables false

theorem dsk_cells {tD tW : TypeId} {w : World} {base g gs : Nat} {S : List Sct} {P : List (Nat × Sct)} (h : Dsk tD tW w base g gs S P) :
    ∃ pv A cap, pv = .slice A P.length cap ∧ w.cell? ⟨g, 0, none⟩ = some (.slice (some ⟨gs, 0, none⟩) S.length S.length) ∧ w.cell? ⟨g, 1, none⟩ = some pv ∧ w.ownsRow base tW 65 pv P.length (flatP P) := by
  obtain ⟨pv, hg, _, _, _, hP, _⟩ := h
  rcases hP.2 with ⟨h1, h0⟩ | ⟨gp, cap, cur, hv, _⟩
  · exact ⟨pv, none, 0, by rw [h0]; exact h1, by rw [cell_of_row w g 0 _ _ _ hg]; rfl, by rw [cell_of_row w g 1 _ _ _ hg]; rfl, hP⟩
  · exact ⟨pv, _, cap, hv, by rw [cell_of_row w g 0 _ _ _ hg]; rfl, by rw [cell_of_row w g 1 _ _ _ hg]; rfl, hP⟩

theorem len_any {base g gs : Nat} {S : List Sct} {P : List (Nat × Sct)} (w : World) (h : Dsk 102 120 w base g gs S P) :
    Calls Try.prog 45 #[.pointer (some ⟨g, 0, none⟩)] w fun e w' => e = .returned (.int .i64 S.length) ∧ w' = w := by
  obtain ⟨pv, A, cap, rfl, h0, h1, _⟩ := dsk_cells h
  go_enter Try.func45, Try.ntmps45
  go_wp2
  go_ret
  exact ⟨rfl, rfl⟩

theorem len_nil (w : World) : Calls Try.prog 45 #[.pointer none] w fun e w' => e = .returned (.int .i64 0) ∧ w' = w := by
  go_enter Try.func45, Try.ntmps45
  go_wp2
  go_ret
  exact ⟨rfl, rfl⟩

theorem pending_any {base g gs : Nat} {S : List Sct} {P : List (Nat × Sct)} (w : World) (h : Dsk 102 120 w base g gs S P) :
    Calls Try.prog 32 #[.pointer (some ⟨g, 0, none⟩)] w fun e w' => e = .returned (.int .i64 P.length) ∧ w' = w := by
  obtain ⟨pv, A, cap, rfl, h0, h1, _⟩ := dsk_cells h
  go_enter Try.func32, Try.ntmps32
  go_wp2
  go_ret
  exact ⟨rfl, rfl⟩

theorem pending_nil (w : World) : Calls Try.prog 32 #[.pointer none] w fun e w' => e = .returned (.int .i64 0) ∧ w' = w := by
  go_enter Try.func32, Try.ntmps32
  go_wp2
  go_ret
  exact ⟨rfl, rfl⟩

theorem has_yes {base g gs : Nat} {S : List Sct} {P : List (Nat × Sct)} (w : World) (h : Dsk 102 120 w base g gs S P) (i : Nat) (hi : i < S.length) :
    Calls Try.prog 54 #[.pointer (some ⟨g, 0, none⟩), .int .i64 i] w fun e w' => e = .returned (.bool true) ∧ w' = w := by
  have H := hide (len_any w h)
  have hi' : (i : Int) < (S.length : Int) := by omega
  go_enter Try.func54, Try.ntmps54
  go_wp2_with (go_at_call 45; refine (unhide H).mono ?_; rintro e w' ⟨rfl, rfl⟩)
  go_ret
  exact ⟨rfl, rfl⟩

theorem has_no {base g gs : Nat} {S : List Sct} {P : List (Nat × Sct)} (w : World) (h : Dsk 102 120 w base g gs S P) (i : Int) (hi : i < 0 ∨ (S.length : Int) ≤ i) :
    Calls Try.prog 54 #[.pointer (some ⟨g, 0, none⟩), .int .i64 i] w fun e w' => e = .returned (.bool false) ∧ w' = w := by
  have H := hide (len_any w h)
  by_cases h0 : i < 0
  · have h1 : ¬ 0 ≤ i := by omega
    go_enter Try.func54, Try.ntmps54
    go_wp2_with (go_at_call 45; refine (unhide H).mono ?_; rintro e w' ⟨rfl, rfl⟩)
    go_ret
    exact ⟨rfl, rfl⟩
  · have h1 : 0 ≤ i := by omega
    have h2 := hide (show ¬ i < (S.length : Int) by omega)
    go_enter Try.func54, Try.ntmps54
    go_wp2_with (go_at_call 45; refine (unhide H).mono ?_; rintro e w' ⟨rfl, rfl⟩)
    go_ret
    exact ⟨ret_bool (decide_eq_false (by have := unhide h2; omega)), rfl⟩

theorem has_nil (w : World) (i : Int) :
    Calls Try.prog 54 #[.pointer none, .int .i64 i] w fun e w' => e = .returned (.bool false) ∧ w' = w := by
  by_cases h1 : 0 ≤ i
  · have h2 := hide (show ¬ i < 0 by omega)
    go_enter Try.func54, Try.ntmps54
    go_wp2_with (go_at_call 45; refine (len_nil _).mono ?_; rintro e w' ⟨rfl, rfl⟩)
    go_ret
    exact ⟨ret_bool (decide_eq_false (by have := unhide h2; omega)), rfl⟩
  · go_enter Try.func54, Try.ntmps54
    go_wp2_with (go_at_call 45; refine (len_nil _).mono ?_; rintro e w' ⟨rfl, rfl⟩)
    go_ret
    exact ⟨rfl, rfl⟩

end Go.Proofs.Ytfceileohkngnaa

/- Contracts: the sector of a step; a new disk. -/
namespace Go.Proofs.Ytfceileohkngnaa
open Go.RowKit
set_option linter.unusedVariables false

/-- A new variable of a sector, with its first store. -/
theorem var_put {w2 w3 w4 : World} {s t : Sct} {e : TypeId} (hb3 : Below w2.heap.size w2 w3) (hs3 : w3.heap.size = w2.heap.size + 1) (hg3 : w3.heap[w2.heap.size]? = some (Obj.cells (sv s).cells e)) (H4 : Hid (w4 = w3.setCells w2.heap.size 0 (bytes t))) :
    Below w2.heap.size w2 w4 ∧ w4.heap.size = w2.heap.size + 1 ∧ SecsAt w4 e w2.heap.size [t] := by
  rw [unhide H4]
  exact ⟨below_sets hb3 _ _ _ (Nat.le_refl _), by rw [size_setCells, hs3], secs_store (secs_new hg3) t⟩

theorem xo_lim (v : Int) : 0 ≤ bits .xor .u8 v 85 ∧ bits .xor .u8 v 85 ≤ 255 := bits_within .xor .u8 v 85
/-- The sector that a step writes. -/
def stepS (v at_ : Int) : Sct := if h : 0 ≤ v ∧ v ≤ 255 then setS (fullS v h) (at_ % 64).toNat (bits .xor .u8 v 85) (xo_lim v) else zeroS
theorem stepS_eq (v at_ : Int) (h : 0 ≤ v ∧ v ≤ 255) (j : Nat) (hj : at_ % 64 = (j : Int)) : stepS v at_ = setS (fullS v h) j (bits .xor .u8 v 85) (xo_lim v) := by
  unfold stepS
  rw [dif_pos h]
  congr 1
  omega
theorem full_get (v : Int) (h : 0 ≤ v ∧ v ≤ 255) (j : Nat) (hj : j < 64) : (fullS v h).1.getD j 0 = v := by
  unfold fullS
  rw [List.getD_eq_getElem?_getD, List.getElem?_replicate, if_pos hj]; rfl

end Go.Proofs.Ytfceileohkngnaa

/- Contracts: a new disk, of the program and of the reference. -/
namespace Go.Proofs.Ytfceileohkngnaa
open Go.RowKit
set_option linter.unusedVariables false

theorem ret_pair {x y : Value} {a b : Value} (h : x = a) (k : y = b) : Ending.returned (.tuple #[x, y]) = .returned (.tuple #[a, b]) := by rw [h, k]

theorem made_get (n k : Nat) (h : k < n * 64) : (madeCells (sv zeroS).cells (n * 64)).toList[k]? = some (.int .u8 0) := by
  have hs : (sv zeroS).cells = Array.replicate 64 (.int .u8 0) := by rw [sv_cells]; unfold zeroS; rw [bytes_full, List.toArray_replicate]
  rw [hs]
  unfold madeCells
  rw [Array.getElem?_toList, Array.getElem?_map, Array.getElem?_range, if_pos h]
  have h64 : k % 64 < 64 := Nat.mod_lt _ (by omega)
  simp only [Option.map_some, Array.size_replicate, Option.some.injEq]
  rw [getElem!_pos _ _ (by rw [Array.size_replicate]; exact h64), Array.getElem_replicate]

/-- The row that 'make' has made: n sectors of 0. -/
theorem secs_made {w : World} {base g n : Nat} (h : w.ownsRow base 75 64 (.slice (some ⟨g, 0, none⟩) n n) n (madeCells (sv zeroS).cells (n * 64)).toList) : SecsAt w 75 g (List.replicate n zeroS) := by
  rcases h.2 with ⟨h1, _⟩ | ⟨g', cap, cur, hv, hb, hg, hnc, hcm, hcs, htk⟩
  · cases h1
  · obtain ⟨rfl, rfl⟩ : g' = g ∧ cap = n := by
      simp only [Value.slice.injEq, Option.some.injEq, Addr.mk.injEq] at hv
      exact ⟨hv.1.1.symm, hv.2.2.symm⟩
    refine ⟨⟨cur, hg, by rw [List.length_replicate]; exact hcs⟩, fun i s hs => ?_⟩
    have hi : i < cap := by have := (List.getElem?_eq_some_iff.1 hs).1; simpa using this
    obtain rfl : s = zeroS := by rw [List.getElem?_replicate, if_pos hi] at hs; exact (Option.some.inj hs).symm
    intro j v hv
    have hj : j < 64 := by have := (List.getElem?_eq_some_iff.1 hv).1; rwa [bytes_len] at this
    rw [cell_of_row w g' (i * 64 + j) cur 75 (0, 0) hg]
    have h2 := made_get cap (i * 64 + j) (by omega)
    rw [← htk, List.getElem?_take] at h2
    have hlt : i * 64 + j < cap * 64 := by omega
    rw [if_pos hlt] at h2
    have h3 : v = .int .u8 0 := by
      unfold zeroS at hv
      rw [bytes_full, List.getElem?_replicate, if_pos hj] at hv
      exact (Option.some.inj hv).symm
    rw [h3]
    simpa using h2

theorem dsk_new {tD tW : TypeId} {w w1 : World} {n : Nat} (hn : n ≤ 4096) (ho : w1.ownsRow w.heap.size 75 64 (.slice (some ⟨w.heap.size, 0, none⟩) n n) n (madeCells (sv zeroS).cells (n * 64)).toList) (hg : w.grownBy w1 none) :
    Dsk tD tW (w1.alloc (.cells #[.slice (some ⟨w.heap.size, 0, none⟩) n n, .slice none 0 0] tD)) w.heap.size w1.heap.size w.heap.size (List.replicate n zeroS) [] ∧ Below w.heap.size w (w1.alloc (.cells #[.slice (some ⟨w.heap.size, 0, none⟩) n n, .slice none 0 0] tD)) := by
  have hs := secs_made ho
  refine ⟨⟨.slice none 0 0, ?_, hg.size, Nat.le_refl _, hs.below (below_alloc (Below.refl _ _) _), World.ownsRow_nil _ _ _ _, by simp, by simpa using hn⟩, ?_⟩
  · rw [List.length_replicate]; exact heap_alloc_last _ _
  · refine ⟨hg.os, hg.tape, hg.output, by have := hg.size; simp; omega, fun k hk => ?_⟩
    rw [Below.heap_alloc _ _ _ (by have := hg.size; omega)]
    exact hg.block k hk (by simp)

theorem new_yes (n : Nat) (h1 : 1 ≤ n) (h2 : n ≤ 4096) (w : World) :
    Calls Try.prog 17 #[.int .i64 n] w fun e w' => ∃ g gs, e = .returned (.tuple #[.pointer (some ⟨g, 0, none⟩), .int .i64 0]) ∧ Dsk 102 120 w' w.heap.size g gs (List.replicate n zeroS) [] ∧ Below w.heap.size w w' := by
  obtain ⟨i36, hi36, hz0, hz1, hz2⟩ := info_parts Try.info75
  obtain ⟨i', hi', hz36⟩ := Try.zero75
  obtain rfl : i' = i36 := by rw [hi36] at hi'; exact (Option.some.inj hi').symm
  clear hi' hz0
  have g1 : ¬ (n : Int) < 1 := by omega
  have g2 : ¬ (4096 : Int) < (n : Int) := by omega
  go_enter Try.func17, Try.ntmps17
  go_wp2_with (first
    | (at_make; refine wpList_make_full _ rfl _ _ 26 rfl w.heap.size 75 i' (sv zeroS) 64 Try.underlying26 hi36 hz36 hz1 _ _ _ _ n rfl rfl rfl rfl (by rw [hz2]; omega) (maxLen_ge _ (by omega)) (Nat.le_refl _) ?_; intro w1 hown hgrow))
  go_ret2
  exact ⟨_, rfl, ⟨_, (dsk_new h2 hown hgrow).1⟩, (dsk_new (tW := 120) h2 hown hgrow).2⟩

theorem new_no (n : Int) (h : n < 1 ∨ 4096 < n) (w : World) :
    Calls Try.prog 17 #[.int .i64 n] w fun e w' => e = .returned (.tuple #[.pointer none, .int .i64 1]) ∧ w' = w := by
  by_cases h1 : n < 1
  · go_enter Try.func17, Try.ntmps17
    go_wp2
    go_ret2
    exact ⟨rfl, rfl⟩
  · have h2 : 4096 < n := by omega
    go_enter Try.func17, Try.ntmps17
    go_wp2
    go_ret2
    exact ⟨rfl, rfl⟩

theorem rnew_yes (n : Nat) (h1 : 1 ≤ n) (h2 : n ≤ 4096) (w : World) :
    Calls Try.prog 18 #[.int .i64 n] w fun e w' => ∃ g gs, e = .returned (.tuple #[.pointer (some ⟨g, 0, none⟩), .int .i64 0]) ∧ Dsk 74 117 w' w.heap.size g gs (List.replicate n zeroS) [] ∧ Below w.heap.size w w' := by
  obtain ⟨i36, hi36, hz0, hz1, hz2⟩ := info_parts Try.info75
  obtain ⟨i', hi', hz36⟩ := Try.zero75
  obtain rfl : i' = i36 := by rw [hi36] at hi'; exact (Option.some.inj hi').symm
  clear hi' hz0
  have g1 : ¬ (n : Int) < 1 := by omega
  have g2 : ¬ (4096 : Int) < (n : Int) := by omega
  go_enter Try.func18, Try.ntmps18
  go_wp2_with (first
    | (at_make; refine wpList_make_full _ rfl _ _ 26 rfl w.heap.size 75 i' (sv zeroS) 64 Try.underlying26 hi36 hz36 hz1 _ _ _ _ n rfl rfl rfl rfl (by rw [hz2]; omega) (maxLen_ge _ (by omega)) (Nat.le_refl _) ?_; intro w1 hown hgrow))
  go_ret2
  exact ⟨_, rfl, ⟨_, (dsk_new h2 hown hgrow).1⟩, (dsk_new (tW := 117) h2 hown hgrow).2⟩

theorem rnew_no (n : Int) (h : n < 1 ∨ 4096 < n) (w : World) :
    Calls Try.prog 18 #[.int .i64 n] w fun e w' => e = .returned (.tuple #[.pointer none, .int .i64 1]) ∧ w' = w := by
  by_cases h1 : n < 1
  · go_enter Try.func18, Try.ntmps18
    go_wp2
    go_ret2
    exact ⟨rfl, rfl⟩
  · have h2 : 4096 < n := by omega
    go_enter Try.func18, Try.ntmps18
    go_wp2
    go_ret2
    exact ⟨rfl, rfl⟩
end Go.Proofs.Ytfceileohkngnaa

/- Contract: one pending write is done. -/
namespace Go.Proofs.Ytfceileohkngnaa
open Go.RowKit
set_option linter.unusedVariables false
set_option maxRecDepth 4000

theorem Try.size120 : (Try.prog.info? 120).map (·.size) = some 65 := by kernel_rfl
theorem Try.zero120 : ∃ i, Try.prog.info? 120 = some i ∧ i.zero = some (wv (0, zeroS)) := by
  have h : (Try.prog.info? 120).map (fun i => (i.zero, i.size, i.bytes)) = some (some (.agg (.int .i64 0 :: List.replicate 64 (.int .u8 0)).toArray), 65, 72) := by kernel_rfl
  obtain ⟨i, hi, hz, _⟩ := info_parts h
  refine ⟨i, hi, hz.trans ?_⟩
  unfold wv wcells zeroS; rw [bytes_full]; rfl

section
variable {P : Program} {ops : Array Oper} {rest : List Oper} {a : Act} {w : World} {Q : Exit → Act → World → Prop} {dst : Option Tmp} {ty : TypeId} {pos : String} {af : Array Edge}

theorem wpList_loadW (t : TypeId) (d : TypeDesc) (hu : P.underlying t = some d) (hd : d.isRow = true) (hi : (P.info? t).map (·.size) = some 65) (x : Operand) (b o : Nat) (p : Nat × Sct) (hx : a.eval x = .pointer (some ⟨b, o, none⟩)) (hc : w.rangeAt b o (wcells p))
    (h : wpList P ops Q rest (a.put dst (wv p)) w) : wpList P ops Q (⟨dst, .load t x, ty, pos, af, none⟩ :: rest) a w :=
  wpList_load_mid rfl t x rfl b o hx (wcells p) _ hc hu hd (by rw [wcells_len]; exact hi) h

theorem wpList_storeW (t : TypeId) (hi : (P.info? t).map (·.size) = some 65) (x y : Operand) (b o : Nat) (p : Nat × Sct) (hx : a.eval x = .pointer (some ⟨b, o, none⟩)) (hy : a.eval y = wv p) (ht : w.there b o 65)
    (h : ∀ w1, Hid (w1 = w.setCells b o (wcells p)) → wpList P ops Q rest (a.put dst undef) w1) : wpList P ops Q (⟨dst, .store t x y, ty, pos, af, none⟩ :: rest) a w := by
  have hz : (wcells p).toArray.size = 65 := by rw [List.size_toArray, wcells_len]
  exact wpList_store_mid rfl t x y rfl b o (wcells p).toArray hx hy (by rw [hz]; exact ht) (by rw [hz]; exact hi) (all_oneCell_toArray (wcells_one p)) (h _ rfl)
end

theorem row_new {w1 : World} {t : TypeId} {g : Nat} {p : Nat × Sct} (h : w1.heap[g]? = some (.cells (wv p).cells t (0, 0))) : Row w1 t g 65 := ⟨_, h, by rw [wv_cells, List.size_toArray, wcells_len]⟩

/-- A new variable of a write, with its first store. -/
theorem wvar_put {w2 w3 w4 : World} {p q : Nat × Sct} {e : TypeId} (hb3 : Below w2.heap.size w2 w3) (hs3 : w3.heap.size = w2.heap.size + 1) (hg3 : w3.heap[w2.heap.size]? = some (Obj.cells (wv p).cells e)) (H4 : Hid (w4 = w3.setCells w2.heap.size 0 (wcells q))) :
    Below w2.heap.size w2 w4 ∧ w4.heap.size = w2.heap.size + 1 ∧ w4.rangeAt w2.heap.size 0 (wcells q) := by
  rw [unhide H4]
  exact ⟨below_sets hb3 _ _ _ (Nat.le_refl _), by rw [size_setCells, hs3], World.rangeAt_setCells_same _ _ _ _ ((row_new hg3).there _ _ (by rw [wcells_len]; omega))⟩

theorem results_none {fn : Func} (h : fn.results = #[]) (tmps : Array Value) (P : Program) (w : World) : (results fn tmps).run P w = .ok (.tuple #[]) w := by
  simp [results, h]

set_option maxHeartbeats 400000 in
theorem do_any {base g gs : Nat} {S : List Sct} {P : List (Nat × Sct)} (w : World) (h : Dsk 102 120 w base g gs S P) (k : Nat) (p : Nat × Sct) (hk : P[k]? = some p) :
    Calls Try.prog 53 #[.pointer (some ⟨g, 0, none⟩), .int .i64 k] w fun e w' => e = .returned (.tuple #[]) ∧ Dsk 102 120 w' base g gs (S.set p.1 p.2) P ∧ Turned 120 base g gs w w' := by
  obtain ⟨i65, hi65, hz65⟩ := Try.zero120
  obtain ⟨pv, A, cap, rfl, h0, h1, hP⟩ := dsk_cells h
  obtain ⟨gp, cap', hpv, hgp, hcap, hcur, hr⟩ := own_at hP hk
  obtain ⟨rfl, rfl⟩ : A = some ⟨gp, 0, none⟩ ∧ cap = cap' := by simpa using hpv
  have hkl : k < P.length := (List.getElem?_eq_some_iff.1 hk).1
  have hkl' : (k : Int) < (P.length : Int) := by omega
  have HD := hide h
  have HK := hide hk
  have HP := hide hP
  clear hpv hk h hP hcur
  go_enter Try.func53, Try.ntmps53
  go_wp2_with (first
    | ((with_reducible refine wpList_loadW 120 _ Try.underlying120 rfl Try.size120 _ gp (k * 65) p ?_ hr ?_); (focus rfl))
    | (with_reducible refine wpList_allocT 120 i65 (wv (0, zeroS)) hi65 hz65 ?_; intro w3 hb3 hs3 hg3)
    | ((with_reducible refine wpList_storeW 120 Try.size120 _ _ w.heap.size 0 p ?_ ?_ ((row_new hg3).there _ _ (by omega)) ?_); (focus rfl); (focus rfl); intro w4 H4))
  obtain ⟨hb4, hs4, hr4⟩ := wvar_put hb3 hs3 hg3 H4
  clear hb3 hs3 hg3 H4
  have hD4 := (unhide HD).below hb4
  have hglt : g < w.heap.size := (unhide HD).lt.1
  have hgslt : gs < w.heap.size := (unhide HD).lt.2.1
  have c0 : w4.cell? ⟨g, 0, none⟩ = some (.slice (some ⟨gs, 0, none⟩) S.length S.length) := (hb4.cell (p := ⟨g, 0, none⟩) hglt).trans h0
  have ci := range_head hr4
  have rs := range_tail hr4
  have hpi : p.1 < S.length := by
    obtain ⟨_, _, _, _, _, _, hin, _⟩ := unhide HD
    exact hin p (List.mem_of_getElem? (unhide HK))
  have hpi' : (p.1 : Int) < (S.length : Int) := by omega
  have th : w4.there gs (p.1 * 64) 64 := by
    obtain ⟨_, _, _, _, hS, _⟩ := hD4
    exact hS.there hpi
  have HD4 := hide hD4
  have HR4 := hide hr4
  have hu36 := Try.underlying75
  have hz36 : (Try.prog.info? 75).map (·.size) = some (bytes p.2).length := by rw [bytes_len]; exact Try.size75
  have hl36 := bytes_len p.2
  have ho36 := bytes_one p.2
  clear hD4 hr4 hr h0 h1
  rw [Nat.zero_add] at rs
  have hgne : g ≠ gs := (unhide HD).ne (by decide)
  have hwne : w.heap.size ≠ gs := by omega
  go_region_held3 (fun W => W.cell? ⟨g, 0, none⟩ = some (.slice (some ⟨gs, 0, none⟩) S.length S.length) ∧ W.cell? ⟨w.heap.size, 0, none⟩ = some (.int .i64 p.1) ∧ W.rangeAt w.heap.size 1 (bytes p.2) ∧ W.there gs (p.1 * 64) 64)
    ((go_split_ands; (refine ⟨?_, ?_, ?_, ?_⟩) <;> first | assumption | (rw [cell_sets_other _ _ _ _ _ _ hgne]; assumption) | (rw [cell_sets_other _ _ _ _ _ _ hwne]; assumption) | (refine World.there_setCells ?_ _ _ _; assumption) | (refine World.rangeAt_setCells_apart ?_ _ _ _ (.inl hwne); assumption))) (fail)
  all_goals
    go_wp2
    obtain ⟨d1, d2⟩ := Dsk.did (unhide HD4).drew (by decide) (by decide) hpi p.2
    exact bodyPost_end (results_none rfl _ _ _) rfl ⟨rfl, d1, (Turned.of_below hb4).drew.trans d2⟩
end Go.Proofs.Ytfceileohkngnaa

/- A pending write is built, as a value and as a row of one. -/
namespace Go.Proofs.Ytfceileohkngnaa
open Go.RowKit
set_option linter.unusedVariables false
set_option maxRecDepth 4000

/-- Behind the append: the new row's header is stored into the disk. -/
theorem dsk_pushed {tD tW : TypeId} (t1 : tD ≠ 75) (t2 : tW ≠ 75) (t3 : tD ≠ tW) {W w' : World} {base g gs : Nat} {S : List Sct} {P : List (Nat × Sct)} {pv v' : Value} {i : Nat} {s : Sct} (h : Dsk tD tW W base g gs S P) (hc : W.cell? ⟨g, 1, none⟩ = some pv)
    (ho : w'.ownsRow base tW 65 v' (P.length + 1) (flatP P ++ wcells (i, s))) (hgr : W.grownBy w' pv.ownBlock) (hi : i < S.length) :
    (Dsk tD tW (w'.setCell ⟨g, 1, none⟩ v') base g gs S (P ++ [(i, s)]) ∧ Turned tW base g gs W (w'.setCell ⟨g, 1, none⟩ v')) ∧ w'.cell? ⟨g, 1, none⟩ = some pv ∧ w'.frozen? ⟨g, 1, none⟩ = false := by
  have hne := h.ne t1
  obtain ⟨pv', hg, h1, h2, hS, hP, h3, h4⟩ := h
  have e : pv' = pv := by
    rw [cell_of_row W g 1 _ _ _ hg] at hc
    simpa using hc
  subst e
  have hglt := lt_of_get hg
  have hown : ∀ k, pv'.ownBlock = some k → base ≤ k ∧ ∃ cur, W.heap[k]? = some (.cells cur tW (0, 0)) := fun k hk => own_block hP hk
  have hg' : w'.heap[g]? = some (.cells #[.slice (some ⟨gs, 0, none⟩) S.length S.length, pv'] tD (0, 0)) := by
    rw [hgr.block g hglt ?_, hg]
    intro e
    obtain ⟨_, cur, hk⟩ := hown g e.symm
    rw [hg] at hk
    cases hk
    exact t3 rfl
  have hgs' : w'.heap[gs]? = W.heap[gs]? := by
    refine hgr.block gs hS.lt ?_
    intro e
    obtain ⟨_, cur, hk⟩ := hown gs e.symm
    obtain ⟨⟨cur', hs', _⟩, _⟩ := hS
    rw [hs'] at hk
    cases hk
    exact t2 rfl
  refine ⟨⟨⟨v', ?_, h1, h2, (hS.of_block hgs').of_block (Below.heap_setCell _ _ _ _ (fun e => hne e.symm)), ?_, ?_, h4⟩, ?_⟩, ?_, ?_⟩
  · simp only [World.setCell, Array.getElem?_modify, if_true, hg', Option.map_some]
    rfl
  · rw [List.length_append, flatP_app]
    have e2 : flatP [(i, s)] = wcells (i, s) := by simp [flatP]
    rw [e2]
    refine own_of_block ho (fun k hk => Below.heap_setCell _ _ _ _ ?_)
    intro e
    obtain ⟨_, cur, hk'⟩ := own_block ho hk
    rw [show k = g from e, hg'] at hk'
    cases hk'
    exact t3 rfl
  · intro p hp
    rcases List.mem_append.1 hp with hp | hp
    · exact h3 p hp
    · rw [List.mem_singleton] at hp; subst hp; exact hi
  · refine ⟨hgr.os, hgr.tape, hgr.output, by simp only [World.setCell, Array.size_modify]; exact hgr.size, fun b hb e1 e2 e3 => ?_⟩
    rw [Below.heap_setCell _ _ _ _ (show b ≠ g from e1)]
    refine hgr.block b hb ?_
    intro e
    obtain ⟨hbb, cur, hk⟩ := hown b e.symm
    rcases e3 with e3 | e3
    · omega
    · exact e3 _ _ hk
  · rw [cell_of_row w' g 1 _ _ _ hg']; rfl
  · simp [World.frozen?, hg']

end Go.Proofs.Ytfceileohkngnaa

/- Contract: Write. -/
namespace Go.Proofs.Ytfceileohkngnaa
open Go.RowKit
set_option linter.unusedVariables false
set_option maxRecDepth 4000

theorem Try.info120 : ∃ i, Try.prog.info? 120 = some i ∧ i.zero = some (wv (0, zeroS)) ∧ i.size = 65 ∧ i.bytes = 72 := by
  have h : (Try.prog.info? 120).map (fun i => (i.zero, i.size, i.bytes)) = some (some (.agg (.int .i64 0 :: List.replicate 64 (.int .u8 0)).toArray), 65, 72) := by kernel_rfl
  obtain ⟨i, hi, hz, hs⟩ := info_parts h
  refine ⟨i, hi, hz.trans ?_, hs⟩
  unfold wv wcells zeroS; rw [bytes_full]; rfl
theorem Try.size3 : (Try.prog.info? 3).map (·.size) = some 1 := by kernel_rfl

theorem bld_of (f : Nat × Operand → Nat × Value) (a b : Nat × Operand) : Instr.build 120 (Array.map f #[a, b]) = bld 120 (f a) (f b) := by
  unfold bld; simp only [List.map_toArray, List.map_cons, List.map_nil]
theorem bld_of' (a b : Nat × Value) : Instr.build 120 #[a, b] = bld 120 a b := rfl
theorem bsl_of (f : Nat × Operand → Nat × Value) (a : Nat × Operand) : Instr.buildSlice 100 1 (Array.map f #[a]) = bsl 100 (f a) := by
  unfold bsl; simp only [List.map_toArray, List.map_cons, List.map_nil]
theorem bsl_of' (a : Nat × Value) : Instr.buildSlice 100 1 #[a] = bsl 100 a := rfl
theorem bld_is (i : Nat) (s : Sct) (w : World) : (bld 120 (0, .int .i64 i) (1, .agg (bytes s).toArray)).run Try.prog w = .ok (wv (i, s)) w := by
  obtain ⟨j, hi, hz, _⟩ := Try.info120
  exact run_buildW hi hz Try.underlying120 rfl rfl Try.size3 Try.size75 (i, s) w
theorem bsl_is (p : Nat × Sct) (w : World) : (bsl 100 (0, wv p)).run Try.prog w = .ok (.slice (some ⟨w.heap.size, 0, none⟩) 1 1) (w.alloc (.cells (wcells p).toArray 120)) := by
  obtain ⟨j, hi, hz, hs, _⟩ := Try.info120
  exact run_buildSliceW Try.underlying100 hi hz hs p w

attribute [local go_sem ↓] ldS_of bld_of bsl_of bld_of' bsl_of' box_sv
attribute [local go_sem] bld_is bsl_is

theorem own_shape {w : World} {base : Nat} {e : TypeId} {size : Nat} {v : Value} {n : Nat} {xs : List Value} (h : w.ownsRow base e size v n xs) : ∃ A cap, v = .slice A n cap := by
  rcases h.2 with ⟨rfl, rfl⟩ | ⟨g, cap, cur, rfl, _⟩
  · exact ⟨none, 0, rfl⟩
  · exact ⟨_, cap, rfl⟩

set_option maxHeartbeats 400000 in
theorem write_yes {base g gs : Nat} {S : List Sct} {P : List (Nat × Sct)} (w : World) (h : Dsk 102 120 w base g gs S P) (i : Nat) (hi : i < S.length) (s : Sct) (hP : P.length ≤ 100000) :
    Calls Try.prog 35 #[.pointer (some ⟨g, 0, none⟩), .int .i64 i, sv s] w fun e w' => e = .returned (.int .i64 0) ∧ Dsk 102 120 w' base g gs S (P ++ [(i, s)]) ∧ Turned 120 base g gs w w' := by
  obtain ⟨i65, hi65, hz65, hs65, hy65⟩ := Try.info120
  have hglt := h.lt
  obtain ⟨hglt, hgslt, hbg, hbgs⟩ := hglt
  have HD := hide (h.below (below_alloc (Below.refl _ _) (.cells (bytes s).toArray 75)))
  obtain ⟨pv, A, cap, rfl, h0, h1, hPr⟩ := dsk_cells (unhide HD)
  have hi' : (i : Int) < (S.length : Int) := by omega
  have HH := hide (has_yes _ (unhide HD) i hi)
  have hrs := secs_range (secs_box w 75 s)
  have HP := hide hPr
  have HS := hide h
  clear h hPr h0
  go_enter Try.func35, Try.ntmps35
  go_wp2_with (go_at_call 54; refine (unhide HH).mono ?_; rintro e w' ⟨rfl, rfl⟩)
  have hbel : Below w.heap.size w (w.alloc (.cells (bytes s).toArray 75)) := below_alloc (Below.refl _ _) _
  generalize w.alloc (.cells (bytes s).toArray 75) = w1 at *
  clear HH
  have hld := ldS_is w.heap.size 0 s w1.drew (by simpa using hrs)
  have hg1 : g < w1.heap.size := (unhide HD).lt.1
  have HD2 := hide ((unhide HD).drew.below (below_alloc (Below.refl _ _) (.cells (wcells (i, s)).toArray 120)))
  have HC2 : Hid ((w1.drew.alloc (.cells (wcells (i, s)).toArray 120)).cell? ⟨g, 1, none⟩ = some (.slice A P.length cap)) := by
    show _ = _
    rw [World.cell?_alloc_lt _ _ _ hg1]; exact h1
  have HP2 := hide (own_of_block (unhide HP) (w' := w1.drew.alloc (.cells (wcells (i, s)).toArray 120)) (fun k hk => Below.heap_alloc _ _ _ (by obtain ⟨_, cur, hc⟩ := own_block (unhide HP) hk; exact lt_of_get hc)))
  have HR2 := hide (row_box w1.drew 120 (i, s))
  have hbase : base ≤ w1.heap.size := by omega
  have HZ : Hid (base ≤ (w1.drew.alloc (.cells (wcells (i, s)).toArray 120)).heap.size) := by
    show _ ≤ _
    have : (w1.drew.alloc (.cells (wcells (i, s)).toArray 120)).heap.size = w1.heap.size + 1 := by simp
    omega
  clear hrs
  go_region_law ((refine step_append_row rfl _ _ 100 rfl base 120 i65 (wv (0, zeroS)) 65 72 Try.underlying100 hi65 hz65 hs65 hy65 (by rw [wv_cells, List.size_toArray, wcells_len]) (by omega) (by omega) (.slice A P.length cap) P.length (flatP P) rfl (unhide HP2) _ 1 1 (wcells (i, s)) rfl (by rw [wcells_len]) (unhide HR2) (wcells_one _) (by omega) (unhide HZ) ?_; intro v3 w3 hown3 hgrow3 hat3; obtain ⟨A3, cap3, rfl⟩ := own_shape hown3; obtain ⟨HF, hc3, hf3⟩ := dsk_pushed (by decide) (by decide) (by decide) (unhide HD2) (unhide HC2) hown3 hgrow3 hi))
  all_goals
    go_wp2
    go_ret
    exact ⟨rfl, HF.1, (Turned.of_below hbel).trans ((Turned.of_below (below_alloc (Below.drew (Below.refl _ _)) _)).trans HF.2)⟩

theorem write_no {base g gs : Nat} {S : List Sct} {P : List (Nat × Sct)} (w : World) (h : Dsk 102 120 w base g gs S P) (i : Int) (hi : i < 0 ∨ (S.length : Int) ≤ i) (s : Sct) :
    Calls Try.prog 35 #[.pointer (some ⟨g, 0, none⟩), .int .i64 i, sv s] w fun e w' => e = .returned (.int .i64 1) ∧ Below w.heap.size w w' := by
  have HD := hide (h.below (below_alloc (Below.refl _ _) (.cells (bytes s).toArray 75)))
  have HH := hide (has_no _ (unhide HD) i hi)
  clear hi
  go_enter Try.func35, Try.ntmps35
  go_wp2_with (go_at_call 54; refine (unhide HH).mono ?_; rintro e w' ⟨rfl, rfl⟩)
  go_ret
  exact ⟨rfl, below_alloc (Below.refl _ _) _⟩

theorem write_nil (w : World) (i : Int) (s : Sct) :
    Calls Try.prog 35 #[.pointer none, .int .i64 i, sv s] w fun e w' => e = .returned (.int .i64 1) ∧ Below w.heap.size w w' := by
  go_enter Try.func35, Try.ntmps35
  go_wp2_with (go_at_call 54; refine (has_nil _ i).mono ?_; rintro e w' ⟨rfl, rfl⟩)
  go_ret
  exact ⟨rfl, below_alloc (Below.refl _ _) _⟩
end Go.Proofs.Ytfceileohkngnaa

/- What is read, flushed and left by a crash, on lists. -/
namespace Go.Proofs.Ytfceileohkngnaa

def readS (S : List Sct) (P : List (Nat × Sct)) (i : Nat) : Sct := P.foldl (fun s p => if p.1 = i then p.2 else s) (S.getD i zeroS)
def flushS (S : List Sct) (P : List (Nat × Sct)) : List Sct := P.foldl (fun S p => S.set p.1 p.2) S
/-- The pending writes that are kept. -/
def keptP : List (Nat × Sct) → List Bool → List (Nat × Sct)
  | p :: P, b :: K => if b then p :: keptP P K else keptP P K
  | _, _ => []

theorem foldl_none (i : Nat) : ∀ (P : List (Nat × Sct)) (s : Sct), (∀ p ∈ P, p.1 ≠ i) → P.foldl (fun s p => if p.1 = i then p.2 else s) s = s
  | [], _, _ => rfl
  | p :: P, s, h => by
    rw [List.foldl_cons, if_neg (h p (by simp))]
    exact foldl_none i P s (fun q hq => h q (by simp [hq]))
theorem readS_miss (S : List Sct) (P : List (Nat × Sct)) (i : Nat) (h : ∀ (j : Nat) (q : Nat × Sct), P[j]? = some q → q.1 ≠ i) : readS S P i = S.getD i zeroS :=
  foldl_none i P _ (fun p hp => by obtain ⟨j, hj⟩ := List.getElem?_of_mem hp; exact h j p hj)
theorem readS_hit (S : List Sct) (P : List (Nat × Sct)) (i k : Nat) (p : Nat × Sct) (hk : P[k]? = some p) (hp : p.1 = i) (h : ∀ (j : Nat) (q : Nat × Sct), k < j → P[j]? = some q → q.1 ≠ i) : readS S P i = p.2 := by
  have hkl := (List.getElem?_eq_some_iff.1 hk).1
  have e : P = P.take k ++ (p :: P.drop (k + 1)) := by
    rw [List.getElem?_eq_getElem hkl, Option.some.injEq] at hk
    rw [← hk, List.getElem_cons_drop hkl, List.take_append_drop]
  unfold readS
  rw [e, List.foldl_append, List.foldl_cons, if_pos hp]
  refine foldl_none i _ _ (fun q hq => ?_)
  obtain ⟨j, hj⟩ := List.getElem?_of_mem hq
  rw [List.getElem?_drop] at hj
  exact h (k + 1 + j) q (by omega) hj

theorem flushS_len (P : List (Nat × Sct)) : ∀ S : List Sct, (flushS S P).length = S.length := by
  induction P with
  | nil => intro S; rfl
  | cons p P ih => intro S; show (flushS (S.set p.1 p.2) P).length = _; rw [ih, List.length_set]
theorem flushS_snoc (S : List Sct) (P : List (Nat × Sct)) (p : Nat × Sct) : flushS S (P ++ [p]) = (flushS S P).set p.1 p.2 := by unfold flushS; rw [List.foldl_append]; rfl
/-- What is flushed is what was read. -/
theorem flush_read (i : Nat) : ∀ (P : List (Nat × Sct)) (S : List Sct), i < S.length → (flushS S P).getD i zeroS = readS S P i
  | [], S, _ => rfl
  | p :: P, S, h => by
    show (flushS (S.set p.1 p.2) P).getD i zeroS = P.foldl _ (if p.1 = i then p.2 else S.getD i zeroS)
    rw [flush_read i P (S.set p.1 p.2) (by rw [List.length_set]; exact h)]
    unfold readS
    congr 1
    rw [List.getD_eq_getElem?_getD, List.getElem?_set]
    by_cases hp : p.1 = i
    · rw [if_pos hp, if_pos hp, if_pos (by omega)]; rfl
    · rw [if_neg hp, if_neg hp, List.getD_eq_getElem?_getD]
theorem readS_nil (S : List Sct) (i : Nat) : readS S [] i = S.getD i zeroS := rfl
theorem readS_snoc (S : List Sct) (P : List (Nat × Sct)) (p : Nat × Sct) (i : Nat) : readS S (P ++ [p]) i = if p.1 = i then p.2 else readS S P i := by unfold readS; rw [List.foldl_append]; rfl

theorem kept_snoc : ∀ (P : List (Nat × Sct)) (K : List Bool) (k : Nat) (p : Nat × Sct) (b : Bool), P[k]? = some p → K[k]? = some b → keptP (P.take (k + 1)) (K.take (k + 1)) = keptP (P.take k) (K.take k) ++ (if b then [p] else [])
  | [], _, _, _, _, h, _ => by simp at h
  | _ :: _, [], _, _, _, _, h => by simp at h
  | q :: P, c :: K, 0, p, b, h1, h2 => by
    simp only [List.getElem?_cons_zero, Option.some.injEq] at h1 h2
    subst h1 h2
    simp [keptP]
  | q :: P, c :: K, k + 1, p, b, h1, h2 => by
    rw [List.getElem?_cons_succ] at h1 h2
    have := kept_snoc P K k p b h1 h2
    simp only [List.take_succ_cons, keptP] at this ⊢
    by_cases hc : c = true
    · rw [if_pos hc, if_pos hc, this, List.cons_append]
    · rw [if_neg hc, if_neg hc, this]
theorem kept_short : ∀ (P : List (Nat × Sct)) (K : List Bool) (m : Nat), m = min K.length P.length → keptP (P.take m) (K.take m) = keptP P K
  | [], K, m, h => by simp [keptP]
  | p :: P, [], m, h => by
    have : m = 0 := by simpa using h
    subst this
    simp [keptP]
  | p :: P, c :: K, m, h => by
    obtain ⟨k, rfl⟩ : ∃ k, m = k + 1 := ⟨m - 1, by simp at h; omega⟩
    have := kept_short P K k (by simp at h; omega)
    simp only [List.take_succ_cons, keptP, this]
theorem kept_mem : ∀ (P : List (Nat × Sct)) (K : List Bool) (p : Nat × Sct), p ∈ keptP P K → p ∈ P
  | [], _, _, h => by simp [keptP] at h
  | _ :: _, [], _, h => by simp [keptP] at h
  | q :: P, c :: K, p, h => by
    unfold keptP at h
    by_cases hc : c = true
    · rw [if_pos hc] at h
      rcases List.mem_cons.1 h with h | h
      · exact List.mem_cons.2 (.inl h)
      · exact List.mem_cons.2 (.inr (kept_mem P K p h))
    · rw [if_neg hc] at h
      exact List.mem_cons.2 (.inr (kept_mem P K p h))
theorem foldl_some (i : Nat) : ∀ (P : List (Nat × Sct)) (s : Sct), P.foldl (fun s p => if p.1 = i then p.2 else s) s = s ∨ ∃ p ∈ P, p.1 = i ∧ P.foldl (fun s p => if p.1 = i then p.2 else s) s = p.2
  | [], s => .inl rfl
  | p :: P, s => by
    rw [List.foldl_cons]
    rcases foldl_some i P (if p.1 = i then p.2 else s) with h | ⟨q, hq, h1, h2⟩
    · by_cases hp : p.1 = i
      · rw [if_pos hp] at h ⊢
        exact .inr ⟨p, by simp, hp, h⟩
      · rw [if_neg hp] at h ⊢
        exact .inl h
    · exact .inr ⟨q, by simp [hq], h1, h2⟩
end Go.Proofs.Ytfceileohkngnaa

/- Contract: Read. -/
namespace Go.Proofs.Ytfceileohkngnaa
open Go.RowKit
set_option linter.unusedVariables false
set_option maxRecDepth 4000

theorem ret_tup {x y : Value} (h : x = y) (k : Value) : Ending.returned (.tuple #[x, k]) = .returned (.tuple #[y, k]) := by rw [h]

section
variable {ops : Array Oper} {rest : List Oper} {a : Act} {w : World} {Q : Exit → Act → World → Prop} {dst : Option Tmp} {ty : TypeId} {pos : String} {af : Array Edge}
/-- '[64]byte{}'. -/
theorem wpList_buildZ (h : wpList Try.prog ops Q rest (a.put dst (sv zeroS)) w) : wpList Try.prog ops Q (⟨dst, .build 75 #[], ty, pos, af, none⟩ :: rest) a w := by
  obtain ⟨i36, hi36, hz36⟩ := Try.zero75
  have hs : i36.size = 64 := by have := Try.size75; rw [hi36] at this; simpa using this
  have h5 : (Try.prog.info? 5).map (·.size) = some 1 := by kernel_rfl
  obtain ⟨j5, hj5, hs5⟩ := Option.map_eq_some_iff.1 h5
  refine wpList_plain rfl fun K hK => ?_
  have hr : (Instr.build 75 #[]).run Try.prog w = .ok (sv zeroS) w := by
    simp only [Instr.build, zeroValue, typeInfo, Sem.run_bind, run_program, hi36, hz36, Sem.run_pure, Result.andThen_ok, run_underlying Try.underlying75, sizeOf, hj5, Instr.fill]
    rfl
  unfold Oper.wp execOp
  simp only [List.map_toArray, List.map_nil, Sem.run_bind, hr, Result.andThen_ok, Sem.run_pure]
  exact hK _ _ h
end

set_option maxHeartbeats 400000 in
theorem read_yes {base g gs : Nat} {S : List Sct} {P : List (Nat × Sct)} (w : World) (h : Dsk 102 120 w base g gs S P) (i : Nat) (hi : i < S.length) (hP : P.length ≤ 100001) :
    Calls Try.prog 33 #[.pointer (some ⟨g, 0, none⟩), .int .i64 i] w fun e w' => e = .returned (.tuple #[sv (readS S P i), .int .i64 0]) ∧ Below w.heap.size w w' := by
  obtain ⟨i36, hi36, hz36⟩ := Try.zero75
  have HD0 := hide h
  have hi' : (i : Int) < (S.length : Int) := by omega
  clear h
  go_enter Try.func33, Try.ntmps33
  go_wp2_with (first
    | (with_reducible refine wpList_allocT 75 i36 (sv zeroS) hi36 hz36 ?_; intro w1 hb1 hs1 hg1; have HD1 := hide ((unhide HD0).below hb1); obtain ⟨pv, A, cap, rfl, h0, h1, hPr⟩ := dsk_cells (unhide HD1); have HP := hide hPr; clear hPr)
    | (go_at_call 54; refine (has_yes _ (unhide HD1) i hi).mono ?_; rintro e w' ⟨rfl, rfl⟩))
  have hlt0 : w.heap.size < w'.heap.size := by omega
  have hX := secs_new hg1
  have HX := hide hX
  have hgs : SecsAt w' 75 gs S := by obtain ⟨_, _, _, _, hS, _⟩ := unhide HD1; exact hS
  have HG := hide hgs
  clear hX hgs hg1 hs1
  go_loop [6] (fun t => ∃ m : Nat, m ≤ P.length ∧ t = .int .i64 ((m : Int) - 1) ∧ ∀ (j : Nat) (q : Nat × Sct), m ≤ j → P[j]? = some q → q.1 ≠ i) (fun t => (intOf t + 1).toNat)
  case atStart => exact ⟨P.length, Nat.le_refl _, rfl, fun j q hj hq => by have := (List.getElem?_eq_some_iff.1 hq).1; omega⟩
  case round =>
    obtain ⟨m, hm, rfl, hno⟩ := hrel
    have HN := hide hno
    clear hno
    cases m with
    | zero =>
      have HE : Hid (readS S P i = S.getD i zeroS) := readS_miss S P i (fun j q hq => unhide HN j q (by omega) hq)
      have hrr : w'.rangeAt gs (i * 64) (bytes (S.getD i zeroS)) := by
        refine (unhide HG).2 i _ ?_
        rw [List.getD_eq_getElem?_getD, List.getElem?_eq_getElem hi]; rfl
      go_wp2_with (first
        | ((with_reducible refine wpList_loadS Try.underlying75 Try.size75 _ gs (i * 64) (S.getD i zeroS) ?_ hrr ?_); (focus rfl))
        | ((with_reducible refine wpList_storeS Try.size75 _ _ w.heap.size 0 (S.getD i zeroS) ?_ ?_ (secs_there (unhide HX)) ?_); (focus rfl); (focus rfl); intro w3 H3))
      have hX3 := secs_store (unhide HX) (S.getD i zeroS)
      rw [← unhide H3] at hX3
      refine ret_cellS2 rfl rfl rfl rfl (secs_range hX3) ⟨ret_tup (by rw [unhide HE]) _, ?_⟩
      rw [unhide H3]
      exact below_sets hb1 _ _ _ (Nat.le_refl _)
    | succ k =>
      have hk : k < P.length := by omega
      have hk' : (k : Int) < (P.length : Int) := by omega
      rw [show ((k + 1 : Nat) : Int) - 1 = (k : Int) by omega]
      obtain ⟨p, hp⟩ : ∃ p, P[k]? = some p := ⟨P[k], List.getElem?_eq_getElem hk⟩
      obtain ⟨gp, cap', hpv, hgp, hcap, _, hr⟩ := own_at (unhide HP) hp
      obtain ⟨rfl, rfl⟩ : A = some ⟨gp, 0, none⟩ ∧ cap = cap' := by simpa using hpv
      have hc := range_head hr
      have hrt := range_tail hr
      have HQ := hide hp
      clear hpv hp hr
      by_cases hpi : p.1 = i
      · have HE : Hid (readS S P i = p.2) := readS_hit S P i k p (unhide HQ) hpi (fun j q hj hq => unhide HN j q (by omega) hq)
        subst hpi
        go_wp2_with (first
          | ((with_reducible refine wpList_loadS Try.underlying75 Try.size75 _ gp (k * 65 + 1) p.2 ?_ hrt ?_); (focus rfl))
          | ((with_reducible refine wpList_storeS Try.size75 _ _ w.heap.size 0 p.2 ?_ ?_ (secs_there (unhide HX)) ?_); (focus rfl); (focus rfl); intro w3 H3))
        have hX3 := secs_store (unhide HX) p.2
        rw [← unhide H3] at hX3
        refine ret_cellS2 rfl rfl rfl rfl (secs_range hX3) ⟨ret_tup (by rw [unhide HE]) _, ?_⟩
        rw [unhide H3]
        exact below_sets hb1 _ _ _ (Nat.le_refl _)
      · have hpi' : ¬ (p.1 : Int) = (i : Int) := by omega
        go_wp2
        go_round
        case rel => exact ⟨k, by omega, rfl, fun j q hj hq => by
          by_cases hjk : j = k
          · subst hjk
            rw [unhide HQ, Option.some.injEq] at hq
            rw [← hq]; exact hpi
          · exact unhide HN j q (by omega) hq⟩
        case measure => simp [intOf]

theorem read_no {base g gs : Nat} {S : List Sct} {P : List (Nat × Sct)} (w : World) (h : Dsk 102 120 w base g gs S P) (i : Int) (hi : i < 0 ∨ (S.length : Int) ≤ i) :
    Calls Try.prog 33 #[.pointer (some ⟨g, 0, none⟩), .int .i64 i] w fun e w' => e = .returned (.tuple #[sv zeroS, .int .i64 1]) ∧ Below w.heap.size w w' := by
  obtain ⟨i36, hi36, hz36⟩ := Try.zero75
  have HD0 := hide h
  have HI := hide hi
  clear h hi
  go_enter Try.func33, Try.ntmps33
  go_wp2_with (first
    | (with_reducible refine wpList_allocT 75 i36 (sv zeroS) hi36 hz36 ?_; intro w1 hb1 hs1 hg1; have HD1 := hide ((unhide HD0).below hb1))
    | (go_at_call 54; refine (has_no _ (unhide HD1) i (unhide HI)).mono ?_; rintro e w' ⟨rfl, rfl⟩)
    | (with_reducible refine wpList_buildZ ?_)
    | ((with_reducible refine wpList_storeS Try.size75 _ _ w.heap.size 0 zeroS ?_ ?_ (secs_there (secs_new hg1)) ?_); (focus rfl); (focus rfl); intro w3 H3))
  have hX3 := secs_store (secs_new hg1) zeroS
  rw [← unhide H3] at hX3
  refine ret_cellS2 rfl rfl rfl rfl (secs_range hX3) ⟨rfl, ?_⟩
  rw [unhide H3]
  exact below_sets hb1 _ _ _ (Nat.le_refl _)

theorem read_nil (w : World) (i : Int) :
    Calls Try.prog 33 #[.pointer none, .int .i64 i] w fun e w' => e = .returned (.tuple #[sv zeroS, .int .i64 1]) ∧ Below w.heap.size w w' := by
  obtain ⟨i36, hi36, hz36⟩ := Try.zero75
  go_enter Try.func33, Try.ntmps33
  go_wp2_with (first
    | (with_reducible refine wpList_allocT 75 i36 (sv zeroS) hi36 hz36 ?_; intro w1 hb1 hs1 hg1)
    | (go_at_call 54; refine (has_nil _ i).mono ?_; rintro e w' ⟨rfl, rfl⟩)
    | (with_reducible refine wpList_buildZ ?_)
    | ((with_reducible refine wpList_storeS Try.size75 _ _ w.heap.size 0 zeroS ?_ ?_ (secs_there (secs_new hg1)) ?_); (focus rfl); (focus rfl); intro w3 H3))
  have hX3 := secs_store (secs_new hg1) zeroS
  rw [← unhide H3] at hX3
  refine ret_cellS2 rfl rfl rfl rfl (secs_range hX3) ⟨rfl, ?_⟩
  rw [unhide H3]
  exact below_sets hb1 _ _ _ (Nat.le_refl _)
end Go.Proofs.Ytfceileohkngnaa

/- Contracts: Flush, Crash. -/
namespace Go.Proofs.Ytfceileohkngnaa
open Go.RowKit
set_option linter.unusedVariables false
set_option maxRecDepth 4000

/-- No write is pending any more. -/
theorem dsk_clear {tD tW : TypeId} (t1 : tD ≠ 75) {W : World} {base g gs : Nat} {S : List Sct} {P : List (Nat × Sct)} (h : Dsk tD tW W base g gs S P) :
    Dsk tD tW (W.setCell ⟨g, 1, none⟩ (.slice none 0 0)) base g gs S [] ∧ Turned tW base g gs W (W.setCell ⟨g, 1, none⟩ (.slice none 0 0)) ∧ W.frozen? ⟨g, 1, none⟩ = false := by
  have hne := h.ne t1
  obtain ⟨pv', hg, h1, h2, hS, hP, h3, h4⟩ := h
  refine ⟨⟨.slice none 0 0, ?_, h1, h2, hS.of_block (Below.heap_setCell _ _ _ _ (fun e => hne e.symm)), World.ownsRow_nil _ _ _ _, by simp, h4⟩, ⟨rfl, rfl, rfl, by simp [World.setCell], fun b hb e1 e2 e3 => Below.heap_setCell _ _ _ _ e1⟩, by simp [World.frozen?, hg]⟩
  simp only [World.setCell, Array.getElem?_modify, if_true, hg, Option.map_some]
  rfl

theorem take_snocP {l : List (Nat × Sct)} {k : Nat} {p : Nat × Sct} (h : l[k]? = some p) : l.take (k + 1) = l.take k ++ [p] := by
  have hk := (List.getElem?_eq_some_iff.1 h).1
  rw [List.take_succ_eq_append_getElem hk]
  rw [List.getElem?_eq_getElem hk, Option.some.injEq] at h
  rw [h]

theorem flush_nil (w : World) : Calls Try.prog 36 #[.pointer none] w fun e w' => e = .returned (.int .i64 1) ∧ w' = w := by
  go_enter Try.func36, Try.ntmps36
  go_wp2
  go_ret
  exact ⟨rfl, rfl⟩

set_option maxHeartbeats 400000 in
theorem flush_any {base g gs : Nat} {S : List Sct} {P : List (Nat × Sct)} (w : World) (h : Dsk 102 120 w base g gs S P) (hP : P.length ≤ 100001) :
    Calls Try.prog 36 #[.pointer (some ⟨g, 0, none⟩)] w fun e w' => e = .returned (.int .i64 0) ∧ Dsk 102 120 w' base g gs (flushS S P) [] ∧ Turned 120 base g gs w w' := by
  obtain ⟨pv, A, cap, rfl, h0, h1, hPr⟩ := dsk_cells h
  have HD := hide h
  clear h h0 hPr
  go_enter Try.func36, Try.ntmps36
  go_wp2
  go_loopw [3, 11] (fun _ t wr => ∃ m : Nat, m ≤ P.length ∧ t = .int .i64 m ∧ Dsk 102 120 wr base g gs (flushS S (P.take m)) P ∧ Turned 120 base g gs w wr) (fun _ t _ => P.length - (intOf t).toNat)
  case atStart => exact ⟨0, Nat.zero_le _, rfl, unhide HD, Turned.refl _ _ _ _ _⟩
  case round =>
    obtain ⟨m, hm, rfl, hd, ht⟩ := hrel
    by_cases hlt : m < P.length
    · obtain ⟨p, hp⟩ : ∃ p, P[m]? = some p := ⟨P[m], List.getElem?_eq_getElem hlt⟩
      have HE : Hid (flushS S (P.take (m + 1)) = (flushS S (P.take m)).set p.1 p.2) := by
        show _ = _
        rw [take_snocP hp, flushS_snoc]
      have HC := hide (do_any _ hd m p hp)
      have HT := hide ht
      clear hp hd ht
      go_wp2_with (go_at_call 53; refine (unhide HC).mono ?_; rintro e w3 ⟨rfl, hd3, ht3⟩; have HD3 := hide hd3; clear hd3)
      go_roundw
      case rel => exact ⟨m + 1, by omega, by go_num, by rw [unhide HE]; exact unhide HD3, (unhide HT).trans ht3⟩
      case measure => simp [intOf]; omega
    · obtain rfl : m = P.length := by omega
      rw [List.take_length] at hd
      obtain ⟨d1, d2, d3⟩ := dsk_clear (by decide) hd
      obtain ⟨_, _, _, rfl, _, hc1, _⟩ := dsk_cells hd
      have H1 := hide d1
      have H2 := hide d2
      clear d1 d2 hd
      go_wp2
      go_ret
      exact ⟨rfl, unhide H1, ht.trans (unhide H2)⟩

/-- The bools K lie at ka. -/
def BoolsA (w : World) (ka : Option Addr) (K : List Bool) : Prop := RowA w ka (K.map Value.bool)
/-- A block that no call on the disk turns. -/
def Safe (tW : TypeId) (w : World) (base g gs b : Nat) : Prop := b < w.heap.size ∧ b ≠ g ∧ b ≠ gs ∧ (b < base ∨ ∀ cur fr, w.heap[b]? ≠ some (.cells cur tW fr))

theorem rowA_block {w w' : World} {A : Option Addr} {vs : List Value} (h : RowA w A vs) (k : ∀ b off, A = some ⟨b, off, none⟩ → w'.heap[b]? = w.heap[b]?) : RowA w' A vs := by
  intro hne
  obtain ⟨b, off, ha, hc⟩ := h hne
  exact ⟨b, off, ha, fun j u hj => by rw [World.cell?_of_block (w := w) (a := ⟨b, off + j, none⟩) (k b off ha)]; exact hc j u hj⟩

theorem crash_nil (w : World) (v : Value) : Calls Try.prog 26 #[.pointer none, v] w fun e w' => e = .returned (.tuple #[]) ∧ w' = w := by
  go_enter Try.func26, Try.ntmps26
  go_wp2
  exact bodyPost_ret (results_none rfl _ _ _) rfl ⟨rfl, rfl⟩

set_option maxHeartbeats 400000 in
theorem crash_any {base g gs : Nat} {S : List Sct} {P : List (Nat × Sct)} (w : World) (h : Dsk 102 120 w base g gs S P) (hP : P.length ≤ 100001) (ka : Option Addr) (K : List Bool) (kc : Nat) (hK : BoolsA w ka K) (hs : K ≠ [] → ∀ b off, ka = some ⟨b, off, none⟩ → Safe 120 w base g gs b) (hl : K.length ≤ 100001) :
    Calls Try.prog 26 #[.pointer (some ⟨g, 0, none⟩), .slice ka K.length kc] w fun e w' => e = .returned (.tuple #[]) ∧ Dsk 102 120 w' base g gs (flushS S (keptP P K)) [] ∧ Turned 120 base g gs w w' := by
  obtain ⟨pv, A, cap, rfl, h0, h1, hPr⟩ := dsk_cells h
  have HD := hide h
  have HK := hide hK
  have HS := hide hs
  clear h h0 hPr hK hs
  rcases Nat.lt_or_ge P.length K.length with hpk | hpk
  all_goals
    go_enter Try.func26, Try.ntmps26
    go_wp2
    go_loopw [4, 15] (fun _ t wr => ∃ m : Nat, m ≤ min K.length P.length ∧ t = .int .i64 m ∧ Dsk 102 120 wr base g gs (flushS S (keptP (P.take m) (K.take m))) P ∧ Turned 120 base g gs w wr) (fun _ t _ => min K.length P.length - (intOf t).toNat)
    case atStart => exact ⟨0, Nat.zero_le _, rfl, by simp only [List.take_zero]; exact unhide HD, Turned.refl _ _ _ _ _⟩
    case round =>
      obtain ⟨m, hm, rfl, hd, ht⟩ := hrel
      by_cases hlt : m < min K.length P.length
      · have hmP : m < P.length := by omega
        have hmK : m < K.length := by omega
        have hmP' : (m : Int) < (P.length : Int) := by omega
        have hmK' : (m : Int) < (K.length : Int) := by omega
        obtain ⟨p, hp⟩ : ∃ p, P[m]? = some p := ⟨P[m], List.getElem?_eq_getElem hmP⟩
        obtain ⟨b, hb⟩ : ∃ b, K[m]? = some b := ⟨K[m], List.getElem?_eq_getElem hmK⟩
        obtain ⟨kb, koff, rfl, hc0⟩ := (unhide HK) (by intro e; rw [List.map_eq_nil_iff] at e; subst e; simp at hmK)
        obtain ⟨s1, s2, s3, s4⟩ := (unhide HS) (by rintro rfl; simp at hmK) kb koff rfl
        have hcm : wr.cell? ⟨kb, koff + m, none⟩ = some (.bool b) := by
          rw [World.cell?_of_block (w := w) (a := ⟨kb, koff + m, none⟩) (ht.block kb s1 s2 s3 s4)]
          exact hc0 m (.bool b) (by rw [List.getElem?_map, hb]; rfl)
        have HE := hide (fun hbt : b = true => (kept_snoc P K m p b hp hb).trans (by rw [hbt, if_pos rfl]))
        have HE2 := hide (fun hbf : b = false => (kept_snoc P K m p b hp hb).trans (by rw [hbf, if_neg (by simp), List.append_nil]))
        have HC := hide (do_any _ hd m p hp)
        have HT := hide ht
        have HM := hide hd
        clear hp hb hd ht hc0 s4 hlt
        cases b with
        | true =>
          have HF : Hid (keptP (P.take (m + 1)) (K.take (m + 1)) = keptP (P.take m) (K.take m) ++ [p]) := unhide HE rfl
          clear HE HE2
          go_wp2_with (go_at_call 53; refine (unhide HC).mono ?_; rintro e w3 ⟨rfl, hd3, ht3⟩; have HD3 := hide hd3; clear hd3)
          go_roundw
          case rel => exact ⟨m + 1, by omega, by go_num, by rw [unhide HF, flushS_snoc]; exact unhide HD3, (unhide HT).trans ht3⟩
          case measure => simp [intOf]; omega
        | false =>
          have HF : Hid (keptP (P.take (m + 1)) (K.take (m + 1)) = keptP (P.take m) (K.take m)) := unhide HE2 rfl
          clear HE HE2
          go_wp2
          go_roundw
          case rel => exact ⟨m + 1, by omega, by go_num, by rw [unhide HF]; exact unhide HM, unhide HT⟩
          case measure => simp [intOf]; omega
      · have hx : m = min K.length P.length := by omega
        rw [kept_short P K m hx] at hd
        obtain ⟨d1, d2, d3⟩ := dsk_clear (by decide) hd
        obtain ⟨_, _, _, rfl, _, hc1, _⟩ := dsk_cells hd
        have H1 := hide d1
        have H2 := hide d2
        have HT := hide ht
        clear d1 d2 hd ht
        first
          | have hy : ¬ (m : Int) < (P.length : Int) := by omega
          | have hy : ¬ (m : Int) < (K.length : Int) := by omega
        clear hx hlt
        go_wp2
        exact bodyPost_end (results_none rfl _ _ _) rfl ⟨rfl, unhide H1, (unhide HT).trans (unhide H2)⟩
end Go.Proofs.Ytfceileohkngnaa
