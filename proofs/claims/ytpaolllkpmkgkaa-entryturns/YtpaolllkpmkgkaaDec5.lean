/- Contract: Decode, where there is an entry. -/
import Derived.Test.YtpaolllkpmkgkaaDec4
namespace Go.Proofs.Ytpaolllkpmkgkaa
open Go.RowKit
set_option linter.unusedVariables false
set_option maxRecDepth 4000

theorem cset4 {W : World} {bx i : Nat} {v a0 a1 a2 a3 : Value} (h : W.cell? ⟨bx, i, none⟩ = some v) : ((((W.setCell ⟨bx + 1, 0, none⟩ a0).setCell ⟨bx + 1, 1, none⟩ a1).setCell ⟨bx + 1, 2, none⟩ a2).setCell ⟨bx + 1, 3, none⟩ a3).cell? ⟨bx, i, none⟩ = some v := by
  have hne : ∀ (X : World) (j : Nat) (u : Value), (X.setCell ⟨bx + 1, j, none⟩ u).cell? ⟨bx, i, none⟩ = X.cell? ⟨bx, i, none⟩ := fun X j u => World.cell?_setCell_other _ _ _ _ (by intro e; cases e)
  rw [hne, hne, hne, hne]; exact h

theorem own_set {W : World} {base g : Nat} {v : Value} {n : Nat} {xs : List Value} {c : Array Value} (h : W.ownsRow base 5 1 v n xs) (hg : W.heap[g]? = some (.cells c 25 (0, 0))) (j : Nat) (u : Value) : (W.setCell ⟨g, j, none⟩ u).ownsRow base 5 1 v n xs := by
  refine own_of_block h (fun k hk => ?_)
  obtain ⟨_, cur, hcur⟩ := own_block h hk
  refine Below.heap_setCell _ _ _ _ ?_
  rintro rfl
  rw [hg] at hcur
  cases hcur
theorem own_set4 {W : World} {base g : Nat} {v : Value} {n : Nat} {xs : List Value} {c : Array Value} (h : W.ownsRow base 5 1 v n xs) (hg : W.heap[g]? = some (.cells c 25 (0, 0))) (a0 a1 a2 a3 : Value) : ((((W.setCell ⟨g, 0, none⟩ a0).setCell ⟨g, 1, none⟩ a1).setCell ⟨g, 2, none⟩ a2).setCell ⟨g, 3, none⟩ a3).ownsRow base 5 1 v n xs :=
  own_set (own_set (own_set (own_set h hg 0 a0) (heap_set hg 0 a0) 1 a1) (heap_set (heap_set hg 0 a0) 1 a1) 2 a2) (heap_set (heap_set (heap_set hg 0 a0) 1 a1) 2 a2) 3 a3
theorem heap_set4 {W : World} {g : Nat} {x0 x1 x2 x3 : Value} {t : TypeId} (hg : W.heap[g]? = some (.cells #[x0, x1, x2, x3] t (0, 0))) (a0 a1 a2 a3 : Value) : ((((W.setCell ⟨g, 0, none⟩ a0).setCell ⟨g, 1, none⟩ a1).setCell ⟨g, 2, none⟩ a2).setCell ⟨g, 3, none⟩ a3).heap[g]? = some (.cells #[a0, a1, a2, a3] t (0, 0)) :=
  heap_set (heap_set (heap_set (heap_set hg 0 a0) 1 a1) 2 a2) 3 a3
theorem below_set4 {w0 w' : World} (h : Below w0.heap.size w0 w') (g : Nat) (hg : w0.heap.size ≤ g) (a0 a1 a2 a3 : Value) : Below w0.heap.size w0 ((((w'.setCell ⟨g, 0, none⟩ a0).setCell ⟨g, 1, none⟩ a1).setCell ⟨g, 2, none⟩ a2).setCell ⟨g, 3, none⟩ a3) :=
  below_set (below_set (below_set (below_set h g 0 a0 hg) g 1 a1 hg) g 2 a2 hg) g 3 a3 hg

set_option maxHeartbeats 1000000 in
theorem entry_any (k e s : Int) (hk : 0 ≤ k ∧ k ≤ 255) (b off cap : Nat) (bs : List Int) (w : World) (hb : BysA w (some ⟨b, off, none⟩) bs) (hl : bs.length ≤ 10000) :
    Calls Try.prog 47 #[.agg #[.int .u8 k, .int .u32 e, .int .u32 s, .slice (some ⟨b, off, none⟩) bs.length cap]] w fun x w' => ∃ v, x = .returned (.agg #[.int .i64 k, .int .u32 e, .int .u32 s, v]) ∧ w'.ownsRow w.heap.size 5 1 v bs.length (bs.map (Value.int .u8)) ∧ Below w.heap.size w w' := by
  obtain ⟨k1, k2⟩ := hk
  have HCL : Hid (∀ (W : World) (hW : Below w.heap.size w W), Calls Try.prog 70 #[.slice (some ⟨b, off, none⟩) bs.length cap] W fun x w' => ∃ A c, x = .returned (.slice A bs.length c) ∧ w'.ownsRow w.heap.size 5 1 (.slice A bs.length c) bs.length (bs.map (Value.int .u8)) ∧ Below W.heap.size W w') := fun W hW => by
    refine (clone_any b off cap bs W (bysA_below hb hW) (by omega)).mono ?_
    rintro x w' ⟨v, rfl, ho, hb'⟩
    obtain ⟨A, c, rfl, _⟩ := own_bys ho
    exact ⟨A, c, rfl, own_mono ho hW.size, hb'⟩
  generalize bs.length = n at *
  generalize bs.map (Value.int .u8) = xs at *
  clear hb
  have c0 : (w.alloc (.cells #[.int .u8 k, .int .u32 e, .int .u32 s, .slice (some ⟨b, off, none⟩) n cap] 93)).cell? ⟨w.heap.size, 0, none⟩ = some (.int .u8 k) := cell_lit rfl rfl
  have c1 : (w.alloc (.cells #[.int .u8 k, .int .u32 e, .int .u32 s, .slice (some ⟨b, off, none⟩) n cap] 93)).cell? ⟨w.heap.size, 1, none⟩ = some (.int .u32 e) := cell_lit rfl rfl
  have c2 : (w.alloc (.cells #[.int .u8 k, .int .u32 e, .int .u32 s, .slice (some ⟨b, off, none⟩) n cap] 93)).cell? ⟨w.heap.size, 2, none⟩ = some (.int .u32 s) := cell_lit rfl rfl
  have c3 : (w.alloc (.cells #[.int .u8 k, .int .u32 e, .int .u32 s, .slice (some ⟨b, off, none⟩) n cap] 93)).cell? ⟨w.heap.size, 3, none⟩ = some (.slice (some ⟨b, off, none⟩) n cap) := cell_lit rfl rfl
  have hwr : IntKind.i64.wrap k = k := by rw [IntKind.wrap_i64]; omega
  go_enter Try.func47, Try.ntmps47
  go_wp2
  have hb0 : Below w.heap.size w (w.alloc (.cells #[.int .u8 k, .int .u32 e, .int .u32 s, .slice (some ⟨b, off, none⟩) n cap] 93)) := below_alloc (Below.refl _ _) _
  have hs0 : (w.alloc (.cells #[.int .u8 k, .int .u32 e, .int .u32 s, .slice (some ⟨b, off, none⟩) n cap] 93)).heap.size = w.heap.size + 1 := by simp
  generalize w.alloc (.cells #[.int .u8 k, .int .u32 e, .int .u32 s, .slice (some ⟨b, off, none⟩) n cap] 93) = w1 at *
  obtain ⟨bx, hbx⟩ : ∃ bx, w.heap.size = bx := ⟨_, rfl⟩
  have hnew : (w1.alloc (.cells #[.int .i64 0, .int .u32 0, .int .u32 0, .slice none 0 0] 25)).heap[bx + 1]? = some (.cells #[.int .i64 0, .int .u32 0, .int .u32 0, .slice none 0 0] 25 (0, 0)) := by rw [← hbx, ← hs0]; exact heap_alloc_last _ _
  have hb2 : Below w.heap.size w (w1.alloc (.cells #[.int .i64 0, .int .u32 0, .int .u32 0, .slice none 0 0] 25)) := below_alloc hb0 _
  rw [hbx] at c0 c1 c2 c3 ⊢
  have hlt : bx < w1.heap.size := by omega
  have hB1 : Below w1.heap.size w1 (w1.alloc (.cells #[.int .i64 0, .int .u32 0, .int .u32 0, .slice none 0 0] 25)) := below_alloc (Below.refl _ _) _
  have HW : Hid (w.heap.size = bx) := hbx
  generalize w1.alloc (.cells #[.int .i64 0, .int .u32 0, .int .u32 0, .slice none 0 0] 25) = w2 at *
  have HC := hide (fun (W : World) (h : Below w2.heap.size w2 W) => ((⟨((hB1.trans (h.mono hB1.size)).cell (p := ⟨bx, 0, none⟩) hlt).trans c0, ((hB1.trans (h.mono hB1.size)).cell (p := ⟨bx, 1, none⟩) hlt).trans c1, ((hB1.trans (h.mono hB1.size)).cell (p := ⟨bx, 2, none⟩) hlt).trans c2, ((hB1.trans (h.mono hB1.size)).cell (p := ⟨bx, 3, none⟩) hlt).trans c3⟩ : W.cell? ⟨bx, 0, none⟩ = some (.int .u8 k) ∧ W.cell? ⟨bx, 1, none⟩ = some (.int .u32 e) ∧ W.cell? ⟨bx, 2, none⟩ = some (.int .u32 s) ∧ W.cell? ⟨bx, 3, none⟩ = some (.slice (some ⟨b, off, none⟩) n cap))))
  have HF := hide (fun (W : World) (h : Below w2.heap.size w2 W) => (h.block _ (lt_of_get hnew)).trans hnew)
  obtain ⟨d0, d1, d2, d3⟩ := unhide HC w2.drew (Below.drew (Below.refl _ _))
  clear hbx hs0 hb0 c0 c1 c2 c3 hB1 hlt hnew
  go_region_held3 (fun W => W.cell? ⟨bx, 0, none⟩ = some (.int .u8 k) ∧ W.cell? ⟨bx, 1, none⟩ = some (.int .u32 e) ∧ W.cell? ⟨bx, 2, none⟩ = some (.int .u32 s) ∧ W.cell? ⟨bx, 3, none⟩ = some (.slice (some ⟨b, off, none⟩) n cap)) ((go_split_ands; (refine ⟨?_, ?_, ?_, ?_⟩) <;> first | (with_reducible assumption) | ((with_reducible refine cset4 ?_); (with_reducible assumption)))) (first
    | (go_at_call 70; refine (unhide HCL _ ?_).mono ?_; (focus (first | exact Below.drew hb2 | exact hb2)); rintro x w4 ⟨A, c, rfl, ho, hb4⟩; have hb5 : Below w2.heap.size w2 w4 := below_then (Below.drew (Below.refl _ _)) hb4; obtain ⟨e0, e1, e2, e3⟩ := unhide HC w4 hb5; have hn4 := unhide HF w4 hb5; have n0 := (heap_cell hn4 0).1; have n1 := (heap_cell hn4 1).1; have n2 := (heap_cell hn4 2).1; have n3 := (heap_cell hn4 3).1; have f0 := (heap_cell hn4 0).2; have f1 := (heap_cell hn4 1).2; have f2 := (heap_cell hn4 2).2; have f3 := (heap_cell hn4 3).2; have HN4 := hide hn4; have HO := hide ho; have HB6 := hide (below_then hb2 hb5); clear hn4 ho))
  all_goals
    have hle : w.heap.size ≤ bx + 1 := by have := unhide HW; omega
    have HFI := hide (heap_set4 (unhide HN4) (.int .i64 k) (.int .u32 e) (.int .u32 s) (.slice A n c))
    have HBF := hide (below_set4 (unhide HB6) (bx + 1) hle (.int .i64 k) (.int .u32 e) (.int .u32 s) (.slice A n c))
    have HOF := hide (own_set4 (unhide HO) (unhide HN4) (.int .i64 k) (.int .u32 e) (.int .u32 s) (.slice A n c))
    clear n0 n1 n2 n3 f0 f1 f2 f3 e0 e1 e2 e3 d0 d1 d2 d3 HC HF HN4 HO HB6
    go_wp2
    exact ret_cell1 rfl rfl rfl (unhide HFI) Try.underlying25 rfl Try.size25 ⟨_, rfl, unhide HOF, unhide HBF⟩
end Go.Proofs.Ytpaolllkpmkgkaa
