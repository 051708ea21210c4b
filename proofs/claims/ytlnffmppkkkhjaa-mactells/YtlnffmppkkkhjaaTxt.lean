/- Text: what it is. -/
import Derived.Test.YtlnffmppkkkhjaaOf
import Derived.Deep.RegionLaw
import Derived.Laws.BytesArg
namespace Go.Proofs.Ytlnffmppkkkhjaa
open Go.RowKit
set_option linter.unusedVariables false

def chr (d : Nat) : Nat := if d < 10 then 48 + d else 87 + d
theorem chr_lt (d : Nat) (h : d < 16) : chr d < 256 := by unfold chr; split <;> omega
def rnd (n k : Nat) : List Nat := (if 0 < k then [58] else []) ++ [chr (byN n k / 16), chr (byN n k % 16)]
def txtP (n : Nat) : Nat → List Nat
  | 0 => []
  | k + 1 => txtP n k ++ rnd n k
theorem txtP_len (n k : Nat) : (txtP n k).length = 3 * k - 1 := by
  induction k with
  | zero => rfl
  | succ k ih => rw [txtP, List.length_append, ih]; unfold rnd; split <;> simp <;> omega
def str (xs : List Nat) : ByteArray := ⟨(xs.map UInt8.ofNat).toArray⟩
def txt (n : Nat) : List Nat := if n < 281474976710656 then txtP n 6 else []

theorem step_append_row {P : Program} {ops : Array Oper} {w : World} {o : Oper} {a : Act} {K : Act → World → Prop} {Q : Exit → Act → World → Prop} {E : Prop} (hg : o.guard = none) (s x : Operand) (t : TypeId)
    (ho : o.op = .call { callee := .builtin .append, args := #[s, x], argTypes := #[t, t] })
    (base : Nat) (e : TypeId) (i : TypeInfo) (z : Value) (size bytes : Nat) (ht : P.underlying t = some (.slice e)) (hi : P.info? e = some i) (hz : i.zero = some z)
    (hsize : i.size = size) (hby : i.bytes = bytes) (hzs : z.cells.size = size) (hsz : 0 < size) (hb1 : 0 < bytes)
    (v : Value) (n : Nat) (xs : List Value) (hs : a.eval s = v) (hown : w.ownsRow base e size v n xs)
    (A : Option Addr) (m c : Nat) (vs : List Value) (hx : a.eval x = .slice A m c) (hl : vs.length = m * size) (hR : RowA w A vs) (h1 : ∀ u ∈ vs, u.oneCell' = true)
    (hbytes : (n + m) * bytes ≤ 140737488355328) (hbase : base ≤ w.heap.size)
    (h : ∀ v' w', w'.ownsRow base e size v' (n + m) (xs ++ vs) → w.grownBy w' v.ownBlock → (v'.ownBlock = v.ownBlock ∨ v'.ownBlock = some w.heap.size) → K (a.put o.dst v') w') :
    if Region.wanted o (yielded ops a.tmps) = true then o.wp P a w K Q else E := by
  have hw : Region.wanted o (yielded ops a.tmps) = true := by simp [Region.wanted, hg]
  rw [if_pos hw]
  exact wp_append_row s x t ho base e i z size bytes ht hi hz hsize hby hzs hsz hb1 v n xs hs hown A m c vs hx hl hR h1 hbytes hbase h
theorem i5 : ∃ i, Try.prog.info? 5 = some i ∧ i.zero = some (.int .u8 0) ∧ i.size = 1 ∧ i.bytes = 1 := by
  have h : (Try.prog.info? 5).map (fun i => (i.zero, i.size, i.bytes)) = some (some (.int .u8 0), 1, 1) := by kernel_rfl
  obtain ⟨i, hi, h2⟩ := Option.map_eq_some_iff.1 h
  simp only [Prod.mk.injEq] at h2
  exact ⟨i, hi, h2.1, h2.2.1, h2.2.2⟩
theorem own_mono {w : World} {base base' : Nat} {e : TypeId} {size : Nat} {v : Value} {n : Nat} {xs : List Value} (h : w.ownsRow base e size v n xs) (hb : base' ≤ base) : w.ownsRow base' e size v n xs := by
  obtain ⟨hl, h2⟩ := h
  refine ⟨hl, ?_⟩
  rcases h2 with h0 | ⟨g, cap, cur, hv, hbg, r⟩
  · exact .inl h0
  · exact .inr ⟨g, cap, cur, hv, by omega, r⟩
theorem own_below {w W : World} {base : Nat} {e : TypeId} {size : Nat} {v : Value} {n : Nat} {xs : List Value} (h : w.ownsRow base e size v n xs) (hb : Below w.heap.size w W) : W.ownsRow base e size v n xs := by
  obtain ⟨hl, h2⟩ := h
  refine ⟨hl, ?_⟩
  rcases h2 with h0 | ⟨g, cap, cur, hv, hbg, hg, r⟩
  · exact .inl h0
  · have hlt : g < w.heap.size := by
      rcases Nat.lt_or_ge g w.heap.size with h | h
      · exact h
      · rw [Array.getElem?_eq_none h] at hg; cases hg
    exact .inr ⟨g, cap, cur, hv, hbg, by rw [hb.block g hlt]; exact hg, r⟩
theorem below_base {w w0 w' : World} {r : Option Nat} (hb : Below w0.heap.size w0 w) (h : w.grownBy w' r) (hr : ∀ k, r = some k → w0.heap.size ≤ k) : Below w0.heap.size w0 w' :=
  hb.grown h hb.size hr
def hexS : ByteArray := ⟨#[48, 49, 50, 51, 52, 53, 54, 55, 56, 57, 97, 98, 99, 100, 101, 102]⟩

theorem idx_any (n k : Nat) (h : k < 6) (W : World) : (Instr.index 25 (Value.agg (lay n 6)) (Value.int IntKind.i64 k)).run Try.prog W = .ok (.int .u8 (byN n k : Nat)) W := by
  have : k = 0 ∨ k = 1 ∨ k = 2 ∨ k = 3 ∨ k = 4 ∨ k = 5 := by omega
  rcases this with rfl | rfl | rfl | rfl | rfl | rfl <;> rfl
theorem hex_idx (d : Nat) (h : d < 16) (W : World) : (Instr.index 9 (Value.string { data := #[48, 49, 50, 51, 52, 53, 54, 55, 56, 57, 97, 98, 99, 100, 101, 102] }) (Value.int IntKind.u8 d)).run Try.prog W = .ok (.int .u8 (chr d : Nat)) W := by
  have : d = 0 ∨ d = 1 ∨ d = 2 ∨ d = 3 ∨ d = 4 ∨ d = 5 ∨ d = 6 ∨ d = 7 ∨ d = 8 ∨ d = 9 ∨ d = 10 ∨ d = 11 ∨ d = 12 ∨ d = 13 ∨ d = 14 ∨ d = 15 := by omega
  rcases this with rfl | rfl | rfl | rfl | rfl | rfl | rfl | rfl | rfl | rfl | rfl | rfl | rfl | rfl | rfl | rfl <;> rfl
theorem and15 (b : Nat) (h : b < 256) : bits .and .u8 (b : Int) 15 = ((b % 16 : Nat) : Int) := by
  rw [show (15 : Int) = ((15 : Nat) : Int) from rfl, bits_and8 b 15 h (by decide), show 15 = 2 ^ 4 - 1 from rfl, Nat.and_two_pow_sub_one_eq_mod]
theorem rowA_drew {w : World} {A : Option Addr} {vs : List Value} (h : RowA w A vs) : RowA w.drew A vs := h
theorem two_row (w : World) (o : Obj) {u v : Value} (h : o = .cells #[u, v] 5) : RowA (w.alloc o) (some ⟨w.heap.size, 0, none⟩) [u, v] := by
  intro _
  refine ⟨_, _, rfl, fun j x hj => ?_⟩
  subst h
  have : j = 0 ∨ j = 1 := by
    have := List.getElem?_eq_some_iff.1 hj
    obtain ⟨h1, _⟩ := this
    simp at h1; omega
  rcases this with rfl | rfl <;> simp at hj <;> subst hj <;> simp [World.cell?_alloc_at]
theorem one_row (w : World) (o : Obj) {u : Value} (h : o = .cells #[u] 5) : RowA (w.alloc o) (some ⟨w.heap.size, 0, none⟩) [u] := by
  intro _
  refine ⟨_, _, rfl, fun j v hj => ?_⟩
  have : j = 0 := by rcases j with _ | j; rfl; simp at hj
  subst this
  subst h
  simp at hj
  subst hj
  simp [World.cell?_alloc_at]
theorem own_to {w : World} {base : Nat} {e : TypeId} {size : Nat} {v : Value} {n m : Nat} {xs ys : List Value} (h : w.ownsRow base e size v n xs) (hn : n = m) (hx : xs = ys) : w.ownsRow base e size v m ys := by subst hn; subst hx; exact h
theorem u8s_app (xs ys : List Nat) : u8s (xs ++ ys) = u8s xs ++ u8s ys := List.map_append
theorem str_nums (xs : List Nat) : strOfNums (xs.map fun (x : Nat) => (x : Int)) = str xs := by unfold strOfNums str; rw [List.map_map]; rfl
/-- A row of bytes, as a string. -/
theorem conv_row {w : World} {A : Option Addr} {xs : List Nat} (h : RowA w A (u8s xs)) (c : Nat) : (convert 23 9 (.slice A xs.length c)).run Try.prog w = .ok (.string (str xs)) w := by
  by_cases hx : xs = []
  · subst hx
    cases A with
    | none => exact run_convert_bytes_nil w 23 5 Try.underlying23 Try.underlying5 0 c 9 Try.underlying9
    | some a =>
      rw [run_convert_bytes_string w 23 9 5 _ _ c Try.underlying23 Try.underlying5 Try.underlying9, run_bytesToString w a _ c [] (by simpa using run_loadCells_list (P := Try.prog) w a [] (by simp))]
      rfl
  · obtain ⟨b, off, rfl, hc⟩ := h (by intro e; exact hx (List.map_eq_nil_iff.1 e))
    have := run_convert_bytes_arg (P := Try.prog) w 23 5 Try.underlying23 Try.underlying5 b off xs.length c (xs.map fun (x : Nat) => (x : Int)) (by simp) (fun i hi => by
      rw [hc i _ (u8s_get xs i hi)]; simp [List.getD, List.getElem?_eq_getElem hi]) 9 Try.underlying9
    rw [this, str_nums]
theorem text_any (n : Nat) (hn : n < 18446744073709551616) (w : World) : Calls Try.prog 21 #[.int .u64 n] w fun e w' => e = .returned (.string (str (txt n))) ∧ Below w.heap.size w w' := by
  by_cases h : n < 281474976710656
  · have e : txt n = txtP n 6 := if_pos h
    have hg := good_any n w
    rw [show goodN n = true by simp [goodN, h]] at hg
    rw [e]
    clear e
    obtain ⟨i0, hi, hz0, hz1, hz2⟩ := i5
    have HBY := hide (fun (W : World) => bytes_any n W)
    go_enter Try.func21, Try.ntmps21
    go_wp2_with (first
      | (go_at_call 13; refine hg.mono ?_; rintro e w' ⟨rfl, rfl⟩)
      | (go_at_call 8; refine (unhide HBY _).mono ?_; rintro e w2 ⟨rfl, hb2⟩; have HB2 := hide hb2; clear hb2)
      | (at_make; refine wpList_make_own _ rfl _ _ 23 rfl w'.heap.size 5 i0 (.int .u8 0) 1 Try.underlying23 hi hz0 hz1 .i64 .i64 _ 17 rfl rfl (by decide) (by rw [hz2]; decide) (by decide) (Nat.le_refl _) ?_; intro w1 hown1 hgrow1; have HO1 := hide hown1; have HG1 := hide hgrow1; clear hown1 hgrow1))
    have HB3 := hide (below_then (below_base (Below.refl _ _) (unhide HG1) (fun k e => by cases e)) (unhide HB2))
    have HO3 := hide (own_below (unhide HO1) (unhide HB2))
    clear HO1 HG1 HB2
    go_loopw [3, 4, 5, 12] (fun v _ _ i W => ∃ k : Nat, k ≤ 6 ∧ i = .int .i64 k ∧ W.ownsRow w'.heap.size 5 1 v (3 * k - 1) (u8s (txtP n k)) ∧ Below w'.heap.size w' W) (fun _ _ _ i _ => (6 - intOf i).toNat)
    case atStart => exact ⟨0, by omega, rfl, unhide HO3, unhide HB3⟩
    case round =>
      obtain ⟨k, hk, rfl, ho, hb⟩ := hrel
      have HO := hide ho
      have HB := hide hb
      clear ho hb HO3 HB3
      by_cases hk6 : k < 6
      · have hix := idx_any n k hk6
        have hlt := byN_lt n k
        obtain ⟨d1, hd1⟩ : ∃ d, d = byN n k / 16 := ⟨_, rfl⟩
        obtain ⟨d2, hd2⟩ : ∃ d, d = byN n k % 16 := ⟨_, rfl⟩
        have h1 : (byN n k : Int) / 16 = (d1 : Int) := by omega
        have h2 := and15 (byN n k) hlt
        rw [← hd2] at h2
        have hx1 := hex_idx d1 (by omega)
        have hx2 := hex_idx d2 (by omega)
        have HE : Hid (txtP n (k + 1) = txtP n k ++ ((if 0 < k then [58] else []) ++ [chr d1, chr d2])) := by rw [hd1, hd2]; rfl
        clear hd1 hd2
        by_cases hk0 : 0 < k
        · go_wp2_with (first
            | (at_builtin; refine wpList_append_row rfl _ _ 23 rfl w'.heap.size 5 i0 (.int .u8 0) 1 1 Try.underlying23 hi hz0 hz1 hz2 rfl (by decide) (by decide) _ (3 * k - 1) (u8s (txtP n k)) rfl ((unhide HO).alloc _) (some ⟨wr.heap.size, 0, none⟩) 1 1 [.int .u8 58] rfl rfl (one_row wr _ rfl) (by simp [Value.oneCell']) (by omega) (by have := (unhide HB).size; simp; omega) ?_; intro v2 w2 h2 h3 _; have HO2 := hide h2; have HB2 := hide (below_base (below_alloc (unhide HB) _) h3 (fun k e => ((unhide HO).lt k e).1)); clear h2 h3))
          go_region_law (refine step_append_row rfl _ _ 23 rfl w'.heap.size 5 i0 (.int .u8 0) 1 1 Try.underlying23 hi hz0 hz1 hz2 rfl (by decide) (by decide) _ (3 * k - 1 + 1) (u8s (txtP n k) ++ [.int .u8 58]) rfl ((unhide HO2).alloc _).drew (some ⟨w2.heap.size, 0, none⟩) 2 2 [.int .u8 (chr d1 : Nat), .int .u8 (chr d2 : Nat)] rfl rfl (rowA_drew (two_row w2 _ rfl)) (by simp [Value.oneCell']) (by omega) (by have := (unhide HB2).size; simp; omega) ?_; intro v3 w3 h2 h3 _; have HO3 := hide h2; have HB3 := hide (below_base (Below.drew (below_alloc (unhide HB2) _)) h3 (fun k e => ((unhide HO2).lt k e).1)); clear h2 h3)
          all_goals
            go_wp2
            go_roundw
            case rel => exact ⟨k + 1, by omega, by go_num, own_to (unhide HO3) (by omega) (by rw [unhide HE, if_pos hk0, u8s_app, u8s_app, List.append_assoc]; rfl), unhide HB3⟩
            case measure => simp [intOf]; omega
        · obtain rfl : k = 0 := by omega
          clear hix
          have hix : ∀ W, (Instr.index 25 (Value.agg (lay n 6)) (Value.int IntKind.i64 0)).run Try.prog W = .ok (.int .u8 (byN n 0 : Nat)) W := idx_any n 0 (by decide)
          go_wp2
          go_region_law (refine step_append_row rfl _ _ 23 rfl w'.heap.size 5 i0 (.int .u8 0) 1 1 Try.underlying23 hi hz0 hz1 hz2 rfl (by decide) (by decide) _ 0 [] rfl ((unhide HO).alloc _).drew (some ⟨wr.heap.size, 0, none⟩) 2 2 [.int .u8 (chr d1 : Nat), .int .u8 (chr d2 : Nat)] rfl rfl (rowA_drew (two_row wr _ rfl)) (by simp [Value.oneCell']) (by omega) (by have := (unhide HB).size; simp; omega) ?_; intro v3 w3 h2 h3 _; have HO3 := hide h2; have HB3 := hide (below_base (Below.drew (below_alloc (unhide HB) _)) h3 (fun k e => ((unhide HO).lt k e).1)); clear h2 h3)
          all_goals
            go_wp2
            go_roundw
            case rel => exact ⟨1, by omega, by go_num, own_to (unhide HO3) (by omega) (by rw [unhide HE]; rfl), unhide HB3⟩
            case measure => simp [intOf]
      · obtain rfl : k = 6 := by omega
        obtain ⟨g, cap, cur, rfl, hbg, hg1, hnc, hcm, hcs, htk⟩ := (unhide HO).2.resolve_left (by rintro ⟨_, h0⟩; omega)
        have hR : RowA wr (some ⟨g, 0, none⟩) (u8s (txtP n 6)) := Blk.row (e := 5) (cap := cap) ⟨cur, hg1, by omega, by rw [(unhide HO).1]; exact htk⟩
        have hcv := conv_row hR cap
        rw [txtP_len] at hcv
        clear hg1 hcs htk hR HO hk hk6
        go_wp2
        go_ret
        exact ⟨rfl, unhide HB⟩
  · have e : txt n = [] := if_neg h
    have hg := good_any n w
    rw [show goodN n = false by simp [goodN, h]] at hg
    rw [e]
    clear e
    go_enter Try.func21, Try.ntmps21
    go_wp2_with (go_at_call 13; refine hg.mono ?_; rintro e w' ⟨rfl, rfl⟩)
    go_ret
    exact ⟨rfl, Below.refl _ _⟩
end Go.Proofs.Ytlnffmppkkkhjaa
