/- The reference's journal: Room, Next, Sectors; its Decode where the first mark is another. -/
import Derived.Test.YtfceileohkngnaaRsame
import Derived.Test.YtfceileohkngnaaJlaw
namespace Go.Proofs.Ytfceileohkngnaa
open Go.RowKit
set_option linter.unusedVariables false
set_option maxRecDepth 4000

/-- A journal of the reference's in memory. -/
def Rj (w : World) (j g fr tt : Nat) (ep : Int) (Al : Option Addr) (n cl en : Nat) : Prop :=
  w.heap[j]? = some (.cells #[.pointer (some ⟨g, 0, none⟩), .int .i64 fr, .int .i64 tt, .int .u32 ep, .slice Al n cl, .int .i64 en] 70 (0, 0))
theorem Rj.below {w w' : World} {j g fr tt : Nat} {ep : Int} {Al : Option Addr} {n cl en : Nat} (h : Rj w j g fr tt ep Al n cl en) (hb : Below w.heap.size w w') : Rj w' j g fr tt ep Al n cl en := by
  unfold Rj
  rw [hb.block j (lt_of_get h)]; exact h
theorem Rj.cells {w : World} {j g fr tt : Nat} {ep : Int} {Al : Option Addr} {n cl en : Nat} (h : Rj w j g fr tt ep Al n cl en) :
    w.cell? ⟨j, 0, none⟩ = some (.pointer (some ⟨g, 0, none⟩)) ∧ w.cell? ⟨j, 1, none⟩ = some (.int .i64 fr) ∧ w.cell? ⟨j, 2, none⟩ = some (.int .i64 tt) ∧ w.cell? ⟨j, 3, none⟩ = some (.int .u32 ep) ∧ w.cell? ⟨j, 4, none⟩ = some (.slice Al n cl) ∧ w.cell? ⟨j, 5, none⟩ = some (.int .i64 en) :=
  ⟨(heap_cell h 0).1, (heap_cell h 1).1, (heap_cell h 2).1, (heap_cell h 3).1, (heap_cell h 4).1, (heap_cell h 5).1⟩

theorem rroom_any {w : World} {j g fr tt : Nat} {ep : Int} {Al : Option Addr} {n cl en : Nat} (h : Rj w j g fr tt ep Al n cl en) (h1 : en ≤ tt) (h2 : tt ≤ 100000) :
    Calls Try.prog 31 #[.pointer (some ⟨j, 0, none⟩)] w fun e w' => e = .returned (.int .i64 ((tt - en : Nat) : Int)) ∧ Below w.heap.size w w' := by
  obtain ⟨_, _, c2, _, _, c5⟩ := h.cells
  have hsub : ((tt - en : Nat) : Int) = (tt : Int) - (en : Int) := by omega
  have hl := lt_of_get h
  rw [hsub]
  go_enter Try.func31, Try.ntmps31
  go_wp2
  go_quiet (fail)
  go_wp2
  go_ret
  exact ⟨rfl, below_drewN (Below.refl _ _) _⟩

theorem rnext_any {w : World} {j g fr tt : Nat} {ep : Int} {Al : Option Addr} {n cl en : Nat} (h : Rj w j g fr tt ep Al n cl en) (ep' : Int) :
    Calls Try.prog 25 #[.pointer (some ⟨j, 0, none⟩), .int .u32 ep'] w fun e w' => e = .returned (.tuple #[]) ∧ Rj w' j g fr tt ep' none 0 0 fr ∧ (∀ b, b ≠ j → w'.heap[b]? = w.heap[b]?) ∧ Below j w w' := by
  obtain ⟨_, c1, _, c3, c4, c5⟩ := h.cells
  have f3 := (heap_cell h 3).2
  have f4 := (heap_cell h 4).2
  have f5 := (heap_cell h 5).2
  have hl := lt_of_get h
  have H := hide h
  clear h
  go_enter Try.func25, Try.ntmps25
  go_wp2
  refine bodyPost_end (results_none rfl _ _ _) rfl ⟨rfl, ?_, ?_, ?_⟩
  · unfold Rj
    have h1 := heap_set (unhide H) 3 (.int .u32 ep')
    have h2 := heap_set h1 4 (.slice none 0 0)
    have h3 := heap_set h2 5 (.int .i64 fr)
    exact h3
  · intro b hb
    rw [Below.heap_setCell _ _ _ _ hb, Below.heap_setCell _ _ _ _ hb, Below.heap_setCell _ _ _ _ hb]
  · have b1 := (Below.refl j w).setCell (p := ⟨j, 3, none⟩) (Nat.le_refl _) (.int .u32 ep')
    have b2 := b1.setCell (p := ⟨j, 4, none⟩) (Nat.le_refl _) (.slice none 0 0)
    exact b2.setCell (p := ⟨j, 5, none⟩) (Nat.le_refl _) (.int .i64 fr)

set_option maxHeartbeats 2000000 in
theorem rsectors_ok {w : World} {j g fr tt : Nat} {ep : Int} {Al : Option Addr} {n cl en : Nat} (h : Rj w j g fr tt ep Al n cl en) (hep : 0 ≤ ep ∧ ep ≤ 4294967295) (h1 : en ≤ tt) (h2 : tt ≤ 100000) (hn : n ≤ 100000) (A : Option Addr) (b : List Int) (cap : Nat) (hA : BysA w A b) (hB : Byt b) (hl : b.length ≤ 4000) (hfit : (b.length + 77) / 63 ≤ tt - en) :
    Calls Try.prog 34 #[.pointer (some ⟨j, 0, none⟩), .slice A b.length cap] w fun e w' => ∃ q c, e = .returned (.tuple #[.slice (some ⟨q, 0, none⟩) (entS ep n b).length c, .int .i64 0]) ∧ w'.ownsRow w.heap.size 75 64 (.slice (some ⟨q, 0, none⟩) (entS ep n b).length c) (entS ep n b).length (flatS (entS ep n b)) ∧ Below w.heap.size w w' := by
  have hel := entS_len ep n b
  have hT0 : 0 < (entS ep n b).length := by rw [hel]; omega
  rw [← hel] at hfit
  have HEN : Hid (∀ (W : World), Below w.heap.size w W → Calls Try.prog 8 #[.agg #[.int .i64 1, .int .u32 ep, .int .u32 (n : Int), .slice A b.length cap]] W fun x w' => ∃ q c, x = .returned (.tuple #[.slice (some ⟨q, 0, none⟩) (entS ep n b).length c, .int .i64 0]) ∧ w'.ownsRow W.heap.size 75 64 (.slice (some ⟨q, 0, none⟩) (entS ep n b).length c) (entS ep n b).length (flatS (entS ep n b)) ∧ Below W.heap.size W w') := fun W hW => by
    refine (rencode_ok 1 ep n (by omega) hep (by omega) A b cap hl hB W (bysA_below hA hW)).mono ?_
    rintro x w' ⟨v, rfl, ho, hb⟩
    rcases ho.2 with ⟨_, h0⟩ | ⟨q, c, cur, hv, _⟩
    · unfold entS at hT0; omega
    · subst hv
      exact ⟨q, c, rfl, ho, hb⟩
  have HRM := hide (fun (W : World) (hW : Below w.heap.size w W) => rroom_any (h.below hW) h1 h2)
  obtain ⟨c0, c1, c2, c3, c4, c5⟩ := h.cells
  have hjl := lt_of_get h
  have hwr : IntKind.u32.wrap (n : Int) = (n : Int) := by rw [IntKind.wrap_u32]; omega
  have HKEEP := hide (fun (W : World) (hb : Below w.heap.size w W) => (⟨hb, (hb.cell (p := ⟨j, 3, none⟩) hjl).trans c3, (hb.cell (p := ⟨j, 4, none⟩) hjl).trans c4⟩ : Below w.heap.size w W ∧ W.cell? ⟨j, 3, none⟩ = some (.int .u32 ep) ∧ W.cell? ⟨j, 4, none⟩ = some (.slice Al n cl)))
  generalize entS ep n b = T at *
  have hqr : ¬ ((tt - en : Nat) : Int) < (T.length : Int) := by omega
  clear hA hB hel h c0 c1 c2 c5 hep
  go_enter Try.func34, Try.ntmps34
  go_wp2
  go_region_held3 (fun W => Below w.heap.size w W ∧ W.cell? ⟨j, 3, none⟩ = some (.int .u32 ep) ∧ W.cell? ⟨j, 4, none⟩ = some (.slice Al n cl)) ((go_split_ands; refine unhide HKEEP _ ?_; repeat (first | assumption | exact Below.refl _ _ | apply Below.drew | apply below_alloc))) (first
    | (go_at_call 8; go_split_ands; (with_reducible refine (unhide HEN _ ?_).mono ?_); (focus (repeat (first | assumption | exact Below.refl _ _ | apply Below.drew | apply below_alloc))); rintro e w2 ⟨q, c, rfl, ho2, hb2⟩; have hbw : Below w.heap.size w w2 := (below_then (by repeat (first | assumption | exact Below.refl _ _ | apply Below.drew | apply below_alloc)) hb2); have HO2 := hide ho2; have HB2 := hide hb2; clear ho2 hb2))
  all_goals
    go_wp2_with (go_at_call 31; (with_reducible refine (unhide HRM _ hbw).mono ?_); rintro e w3 ⟨rfl, hb3⟩; have HB3 := hide hb3; clear hb3)
    go_ret2
    exact ⟨_, _, rfl, own_below (unhide HO2) (unhide HB3), below_then hbw (unhide HB3)⟩

/-- Decode of sectors that begin with another mark, or of none: there is none. -/
theorem rdec_mark (A : Option Addr) (S : List Sct) (cap : Nat) (w : World) (hA : ScsA w A S) (hl : S.length ≤ 1000) (h : S = [] ∨ (S.getD 0 zeroS).1.getD 0 0 ≠ 87) :
    Calls Try.prog 10 #[.slice A S.length cap] w fun x w' => x = .returned (.agg #[.int .i64 0, .int .u32 0, .int .u32 0, .slice none 0 0, .int .i64 0, .int .i64 11]) ∧ Below w.heap.size w w' := by
  by_cases h0 : S.length = 0
  · rw [h0]
    go_enter Try.func10, Try.ntmps10
    go_wp2
    exact ret_cell1 rfl rfl rfl (heap_alloc_last _ _) Try.underlying37 rfl (by kernel_rfl) ⟨rfl, below_alloc (Below.refl _ _) _⟩
  · have hc : ∃ b off, A = some ⟨b, off, none⟩ ∧ w.cell? ⟨b, off, none⟩ = some (.int .u8 ((S.getD 0 zeroS).1.getD 0 0)) := by
      obtain ⟨b, off, rfl, hr⟩ := hA.range (k := 0) (by omega)
      exact ⟨b, off, rfl, by simpa using secs_cell (hr 0 _ (getD_some' S 0 (by omega))) 0 (by omega)⟩
    obtain ⟨b, off, rfl, hc0⟩ := hc
    have hne : ¬ (S.getD 0 zeroS).1.getD 0 0 = 87 := by
      rcases h with rfl | h
      · exact absurd rfl h0
      · exact h
    have hlt := World.block_lt_of_cell? _ _ hc0
    generalize (S.getD 0 zeroS).1.getD 0 0 = x0 at *
    have hx0 : (x0 != 87) = true := bne_iff_ne.2 hne
    have hl0 : ((S.length : Int) == 0) = false := beq_eq_false_iff_ne.2 (by omega)
    generalize S.length = n at *
    clear h hA
    go_enter Try.func10, Try.ntmps10
    go_wp2
    exact ret_cell1 rfl rfl rfl (heap_alloc_last _ _) Try.underlying37 rfl (by kernel_rfl) ⟨rfl, below_alloc (Below.refl _ _) _⟩
end Go.Proofs.Ytfceileohkngnaa
