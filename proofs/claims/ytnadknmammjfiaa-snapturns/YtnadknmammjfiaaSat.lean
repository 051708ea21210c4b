/- snap: the snapshot at a place. -/
import Derived.Test.YtnadknmammjfiaaSleaf
namespace Go.Proofs.Ytnadknmammjfiaa
open Go.RowKit
set_option linter.unusedVariables false
set_option maxRecDepth 4000

/-- The snapshot at a place: its epoch and its bytes. -/
def atS (S : List Sct) (p : Nat) : Option (Int × List Int) :=
  match decS ((S.drop p).take 16) with
  | some x => if x.k = 2 ∧ x.s = 0 then some (x.e, x.b) else none
  | none => none
theorem place_len {S : List Sct} {p : Nat} (h : p + 16 ≤ S.length) : ((S.drop p).take 16).length = 16 := by rw [List.length_take, List.length_drop]; omega
theorem heap_set3 {W : World} {g : Nat} {x0 x1 x2 : Value} {t : TypeId} (hg : W.heap[g]? = some (.cells #[x0, x1, x2] t (0, 0))) (a0 a1 a2 : Value) : (((W.setCell ⟨g, 0, none⟩ a0).setCell ⟨g, 1, none⟩ a1).setCell ⟨g, 2, none⟩ a2).heap[g]? = some (.cells #[a0, a1, a2] t (0, 0)) :=
  heap_set (heap_set (heap_set hg 0 a0) 1 a1) 2 a2
theorem below_set3 {w0 w' : World} (h : Below w0.heap.size w0 w') (g : Nat) (hg : w0.heap.size ≤ g) (a0 a1 a2 : Value) : Below w0.heap.size w0 (((w'.setCell ⟨g, 0, none⟩ a0).setCell ⟨g, 1, none⟩ a1).setCell ⟨g, 2, none⟩ a2) :=
  below_set (below_set (below_set h g 0 a0 hg) g 1 a1 hg) g 2 a2 hg
theorem own_setT {W : World} {base g : Nat} {v : Value} {n : Nat} {xs : List Value} {c : Array Value} {t : TypeId} (h : W.ownsRow base 5 1 v n xs) (hg : W.heap[g]? = some (.cells c t (0, 0))) (ht : t ≠ 5) (i : Nat) (a : Value) : (W.setCell ⟨g, i, none⟩ a).ownsRow base 5 1 v n xs := by
  refine own_of_block h (fun k hk => ?_)
  obtain ⟨_, cur, hcur⟩ := own_block h hk
  refine Below.heap_setCell _ _ _ _ ?_
  rintro rfl
  rw [hg] at hcur
  cases hcur
  exact ht rfl
theorem own_set3 {W : World} {base g : Nat} {v : Value} {n : Nat} {xs : List Value} {c : Array Value} {t : TypeId} (h : W.ownsRow base 5 1 v n xs) (hg : W.heap[g]? = some (.cells c t (0, 0))) (ht : t ≠ 5) (a0 a1 a2 : Value) : (((W.setCell ⟨g, 0, none⟩ a0).setCell ⟨g, 1, none⟩ a1).setCell ⟨g, 2, none⟩ a2).ownsRow base 5 1 v n xs :=
  own_setT (own_setT (own_setT h hg ht 0 a0) (heap_set hg 0 a0) ht 1 a1) (heap_set (heap_set hg 0 a0) 1 a1) ht 2 a2
theorem Try.size75 : (Try.prog.info? 75).map (·.size) = some 3 := by kernel_rfl
theorem sn_old {w3 : World} {b : Nat} {o o' : Obj} (h : w3.heap[b]? = some o) : (w3.alloc o').heap[b]? = some o := ((below_alloc (Below.refl w3.heap.size w3) o').block _ (lt_of_get h)).trans h

theorem at_secs {base g gs : Nat} {S : List Sct} (w : World) (h : Dsk 71 82 w base g gs S []) (p : Nat) (hp : p + 16 ≤ S.length) (W : World) (hW : Below w.heap.size w W) :
    Calls Try.prog 46 #[.iface 25 (.pointer (some ⟨g, 0, none⟩)), .int .i64 p] W fun e w' => ∃ q, e = .returned (.slice (some ⟨q, 0, none⟩) 16 16) ∧ ScsA w' (some ⟨q, 0, none⟩) ((S.drop p).take 16) ∧ Below W.heap.size W w' := sectors_any W (h.below hW) p _ rfl hp

set_option maxHeartbeats 1000000 in
theorem at_none {base g gs : Nat} {S : List Sct} (w : World) (h : Dsk 71 82 w base g gs S []) (p : Nat) (hp : p + 16 ≤ S.length) (h0 : atS S p = none) :
    Calls Try.prog 37 #[.iface 25 (.pointer (some ⟨g, 0, none⟩)), .int .i64 p] w fun e w' => e = .returned (.tuple #[.agg #[.int .i64 0, .int .u32 0, .slice none 0 0], .bool false]) ∧ Below w.heap.size w w' := by
  have HSE := hide (at_secs w h p hp)
  have hl := place_len hp
  have HB0 : Hid (Below w.heap.size w (w.alloc (.cells #[.int .i64 0, .int .u32 0, .slice none 0 0] 75))) := below_alloc (Below.refl _ _) _
  have HN0 : Hid ((w.alloc (.cells #[.int .i64 0, .int .u32 0, .slice none 0 0] 75)).heap[w.heap.size]? = some (.cells #[.int .i64 0, .int .u32 0, .slice none 0 0] 75 (0, 0))) := heap_alloc_last _ _
  unfold atS at h0
  cases hd : decS ((S.drop p).take 16) with
  | none =>
    have HDE : Hid (∀ (W : World) (q : Nat), ScsA W (some ⟨q, 0, none⟩) ((S.drop p).take 16) → Calls Try.prog 45 #[.slice (some ⟨q, 0, none⟩) 16 16] W fun x w' => x = .returned (.tuple #[.agg #[.int .i64 0, .int .u32 0, .int .u32 0, .slice none 0 0], .int .i64 0, .int .i64 11]) ∧ Below W.heap.size W w') := fun W q hq => decode_none _ _ 16 16 W hl.symm hq (by omega) (by omega) hd
    clear h0 hd hl h
    generalize (S.drop p).take 16 = D at *
    go_enter Try.func37, Try.ntmps37
    go_wp2_with (first
      | (go_at_call 46; (with_reducible refine (unhide HSE _ (unhide HB0)).mono ?_); rintro e w2 ⟨q, rfl, hsc, hb2⟩; have HSC := hide hsc; have HN2 := hide ((hb2.block _ (lt_of_get (unhide HN0))).trans (unhide HN0)); have HB2 := hide (below_then (unhide HB0) hb2); clear hsc hb2)
      | (go_at_call 45; (with_reducible refine (unhide HDE _ _ (unhide HSC)).mono ?_); rintro e w3 ⟨rfl, hb3⟩; have hq := sn_old (o' := .cells #[.int .i64 0, .int .u32 0, .int .u32 0, .slice none 0 0] 94) ((hb3.block _ (lt_of_get (unhide HN2))).trans (unhide HN2)); have n0 := (heap_cell hq 0).1; have n1 := (heap_cell hq 1).1; have n2 := (heap_cell hq 2).1; have f0 := (heap_cell hq 0).2; have f1 := (heap_cell hq 1).2; have f2 := (heap_cell hq 2).2; have HNQ := hide hq; have HBQ := hide (below_alloc (below_then (unhide HB2) hb3) (.cells #[.int .i64 0, .int .u32 0, .int .u32 0, .slice none 0 0] 94)); have hl3 : w3.heap.size < (w3.alloc (.cells #[.int .i64 0, .int .u32 0, .int .u32 0, .slice none 0 0] 94)).heap.size := (by simp); clear hq hb3))
    have HFI := hide (heap_set3 (unhide HNQ) (Value.int .i64 0) (Value.int .u32 0) (Value.slice none 0 0))
    have HBF := hide (below_set3 (unhide HBQ) w.heap.size (Nat.le_refl _) (Value.int .i64 0) (Value.int .u32 0) (Value.slice none 0 0))
    exact ret_cell2 rfl rfl rfl rfl (unhide HFI) Try.underlying75 rfl Try.size75 ⟨rfl, unhide HBF⟩
  | some x =>
    rw [hd] at h0
    simp only at h0
    have hx : ¬ (x.k = 2 ∧ x.s = 0) := fun hx => by rw [if_pos hx] at h0; cases h0
    have HDE : Hid (∀ (W : World) (q : Nat), ScsA W (some ⟨q, 0, none⟩) ((S.drop p).take 16) → Calls Try.prog 45 #[.slice (some ⟨q, 0, none⟩) 16 16] W fun y w' => ∃ B c, y = .returned (.tuple #[.agg #[.int .i64 x.k, .int .u32 x.e, .int .u32 x.s, .slice B x.b.length c], .int .i64 x.n, .int .i64 0]) ∧ w'.ownsRow W.heap.size 5 1 (.slice B x.b.length c) x.b.length (x.b.map (Value.int .u8)) ∧ Below W.heap.size W w') := fun W q hq => decode_some _ _ 16 16 W hl.symm hq (by omega) (by omega) x hd
    obtain ⟨xk, xe, xs, xb, xn⟩ := x
    simp only at HDE hx
    clear h0 hd hl h
    by_cases hk : xk = 2
    · have hs : ¬ xs = 0 := fun e => hx ⟨hk, e⟩
      subst hk
      clear hx
      generalize (S.drop p).take 16 = D at *
      go_enter Try.func37, Try.ntmps37
      go_wp2_with (first
        | (go_at_call 46; (with_reducible refine (unhide HSE _ (unhide HB0)).mono ?_); rintro e w2 ⟨q, rfl, hsc, hb2⟩; have HSC := hide hsc; have HN2 := hide ((hb2.block _ (lt_of_get (unhide HN0))).trans (unhide HN0)); have HB2 := hide (below_then (unhide HB0) hb2); clear hsc hb2)
        | (go_at_call 45; (with_reducible refine (unhide HDE _ _ (unhide HSC)).mono ?_); rintro e w3 ⟨B, c, rfl, ho3, hb3⟩; have hq := sn_old (o' := .cells #[.int .i64 2, .int .u32 xe, .int .u32 xs, .slice B xb.length c] 94) ((hb3.block _ (lt_of_get (unhide HN2))).trans (unhide HN2)); have n0 := (heap_cell hq 0).1; have n1 := (heap_cell hq 1).1; have n2 := (heap_cell hq 2).1; have f0 := (heap_cell hq 0).2; have f1 := (heap_cell hq 1).2; have f2 := (heap_cell hq 2).2; have HNQ := hide hq; have HBQ := hide (below_alloc (below_then (unhide HB2) hb3) (.cells #[.int .i64 2, .int .u32 xe, .int .u32 xs, .slice B xb.length c] 94)); have hl3 : w3.heap.size < (w3.alloc (.cells #[.int .i64 2, .int .u32 xe, .int .u32 xs, .slice B xb.length c] 94)).heap.size := (by simp); clear ho3; clear hq hb3))
      have HFI := hide (heap_set3 (unhide HNQ) (Value.int .i64 0) (Value.int .u32 0) (Value.slice none 0 0))
      have HBF := hide (below_set3 (unhide HBQ) w.heap.size (Nat.le_refl _) (Value.int .i64 0) (Value.int .u32 0) (Value.slice none 0 0))
      exact ret_cell2 rfl rfl rfl rfl (unhide HFI) Try.underlying75 rfl Try.size75 ⟨rfl, unhide HBF⟩
    · clear hx
      generalize (S.drop p).take 16 = D at *
      go_enter Try.func37, Try.ntmps37
      go_wp2_with (first
        | (go_at_call 46; (with_reducible refine (unhide HSE _ (unhide HB0)).mono ?_); rintro e w2 ⟨q, rfl, hsc, hb2⟩; have HSC := hide hsc; have HN2 := hide ((hb2.block _ (lt_of_get (unhide HN0))).trans (unhide HN0)); have HB2 := hide (below_then (unhide HB0) hb2); clear hsc hb2)
        | (go_at_call 45; (with_reducible refine (unhide HDE _ _ (unhide HSC)).mono ?_); rintro e w3 ⟨B, c, rfl, ho3, hb3⟩; have hq := sn_old (o' := .cells #[.int .i64 xk, .int .u32 xe, .int .u32 xs, .slice B xb.length c] 94) ((hb3.block _ (lt_of_get (unhide HN2))).trans (unhide HN2)); have n0 := (heap_cell hq 0).1; have n1 := (heap_cell hq 1).1; have n2 := (heap_cell hq 2).1; have f0 := (heap_cell hq 0).2; have f1 := (heap_cell hq 1).2; have f2 := (heap_cell hq 2).2; have HNQ := hide hq; have HBQ := hide (below_alloc (below_then (unhide HB2) hb3) (.cells #[.int .i64 xk, .int .u32 xe, .int .u32 xs, .slice B xb.length c] 94)); have hl3 : w3.heap.size < (w3.alloc (.cells #[.int .i64 xk, .int .u32 xe, .int .u32 xs, .slice B xb.length c] 94)).heap.size := (by simp); clear ho3; clear hq hb3))
      have HFI := hide (heap_set3 (unhide HNQ) (Value.int .i64 0) (Value.int .u32 0) (Value.slice none 0 0))
      have HBF := hide (below_set3 (unhide HBQ) w.heap.size (Nat.le_refl _) (Value.int .i64 0) (Value.int .u32 0) (Value.slice none 0 0))
      exact ret_cell2 rfl rfl rfl rfl (unhide HFI) Try.underlying75 rfl Try.size75 ⟨rfl, unhide HBF⟩
set_option maxHeartbeats 1000000 in
theorem at_some {base g gs : Nat} {S : List Sct} (w : World) (h : Dsk 71 82 w base g gs S []) (p : Nat) (hp : p + 16 ≤ S.length) (y : Int × List Int) (h0 : atS S p = some y) :
    Calls Try.prog 37 #[.iface 25 (.pointer (some ⟨g, 0, none⟩)), .int .i64 p] w fun e w' => ∃ A c, e = .returned (.tuple #[.agg #[.int .i64 p, .int .u32 y.1, .slice A y.2.length c], .bool true]) ∧ w'.ownsRow w.heap.size 5 1 (.slice A y.2.length c) y.2.length (y.2.map (Value.int .u8)) ∧ Below w.heap.size w w' := by
  have HSE := hide (at_secs w h p hp)
  have hl := place_len hp
  have HB0 : Hid (Below w.heap.size w (w.alloc (.cells #[.int .i64 0, .int .u32 0, .slice none 0 0] 75))) := below_alloc (Below.refl _ _) _
  have HN0 : Hid ((w.alloc (.cells #[.int .i64 0, .int .u32 0, .slice none 0 0] 75)).heap[w.heap.size]? = some (.cells #[.int .i64 0, .int .u32 0, .slice none 0 0] 75 (0, 0))) := heap_alloc_last _ _
  unfold atS at h0
  cases hd : decS ((S.drop p).take 16) with
  | none => rw [hd] at h0; cases h0
  | some x =>
    rw [hd] at h0
    simp only at h0
    by_cases hx : x.k = 2 ∧ x.s = 0
    · rw [if_pos hx] at h0
      cases h0
      have HDE : Hid (∀ (W : World) (q : Nat), ScsA W (some ⟨q, 0, none⟩) ((S.drop p).take 16) → Calls Try.prog 45 #[.slice (some ⟨q, 0, none⟩) 16 16] W fun y w' => ∃ B c, y = .returned (.tuple #[.agg #[.int .i64 x.k, .int .u32 x.e, .int .u32 x.s, .slice B x.b.length c], .int .i64 x.n, .int .i64 0]) ∧ w'.ownsRow W.heap.size 5 1 (.slice B x.b.length c) x.b.length (x.b.map (Value.int .u8)) ∧ Below W.heap.size W w') := fun W q hq => decode_some _ _ 16 16 W hl.symm hq (by omega) (by omega) x hd
      obtain ⟨xk, xe, xs, xb, xn⟩ := x
      simp only at HDE hx ⊢
      obtain ⟨rfl, rfl⟩ := hx
      clear hd hl h
      generalize (S.drop p).take 16 = D at *
      go_enter Try.func37, Try.ntmps37
      go_wp2_with (first
        | (go_at_call 46; (with_reducible refine (unhide HSE _ (unhide HB0)).mono ?_); rintro e w2 ⟨q, rfl, hsc, hb2⟩; have HSC := hide hsc; have HN2 := hide ((hb2.block _ (lt_of_get (unhide HN0))).trans (unhide HN0)); have HB2 := hide (below_then (unhide HB0) hb2); clear hsc hb2)
        | (go_at_call 45; (with_reducible refine (unhide HDE _ _ (unhide HSC)).mono ?_); rintro e w3 ⟨B, c, rfl, ho3, hb3⟩; have hq := sn_old (o' := .cells #[.int .i64 2, .int .u32 xe, .int .u32 0, .slice B xb.length c] 94) ((hb3.block _ (lt_of_get (unhide HN2))).trans (unhide HN2)); have n0 := (heap_cell hq 0).1; have n1 := (heap_cell hq 1).1; have n2 := (heap_cell hq 2).1; have f0 := (heap_cell hq 0).2; have f1 := (heap_cell hq 1).2; have f2 := (heap_cell hq 2).2; have HNQ := hide hq; have HBQ := hide (below_alloc (below_then (unhide HB2) hb3) (.cells #[.int .i64 2, .int .u32 xe, .int .u32 0, .slice B xb.length c] 94)); have hl3 : w3.heap.size < (w3.alloc (.cells #[.int .i64 2, .int .u32 xe, .int .u32 0, .slice B xb.length c] 94)).heap.size := (by simp); have HO3 := hide (own_mono (own_below ho3 (below_alloc (Below.refl _ _) (.cells #[.int .i64 2, .int .u32 xe, .int .u32 0, .slice B xb.length c] 94))) (unhide HB2).size); clear ho3; clear hq hb3))
      have HFI := hide (heap_set3 (unhide HNQ) (Value.int .i64 p) (Value.int .u32 xe) (Value.slice B xb.length c))
      have HBF := hide (below_set3 (unhide HBQ) w.heap.size (Nat.le_refl _) (Value.int .i64 p) (Value.int .u32 xe) (Value.slice B xb.length c))
      have HO4 := hide (own_set3 (unhide HO3) (unhide HNQ) (by decide) (Value.int .i64 p) (Value.int .u32 xe) (Value.slice B xb.length c))
      exact ret_cell2 rfl rfl rfl rfl (unhide HFI) Try.underlying75 rfl Try.size75 ⟨_, _, rfl, unhide HO4, unhide HBF⟩
    · rw [if_neg hx] at h0; cases h0
end Go.Proofs.Ytnadknmammjfiaa
