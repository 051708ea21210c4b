/- The reference's Sectors and Append where there is none. -/
import Derived.Test.YtfceileohkngnaaRapp
namespace Go.Proofs.Ytfceileohkngnaa
open Go.RowKit
set_option linter.unusedVariables false
set_option maxRecDepth 4000

set_option maxHeartbeats 2000000 in
theorem rsectors_long {w : World} {j g fr tt : Nat} {ep : Int} {Al : Option Addr} {n cl en : Nat} (h : Rj w j g fr tt ep Al n cl en) (hn : n ≤ 100000) (A : Option Addr) (m cap : Nat) (hl : 4000 < m) :
    Calls Try.prog 34 #[.pointer (some ⟨j, 0, none⟩), .slice A m cap] w fun e w' => e = .returned (.tuple #[.slice none 0 0, .int .i64 2]) ∧ Below w.heap.size w w' := by
  have HEN := hide (fun (W : World) => rencode_long 1 ep n (by omega) A m cap hl W)
  obtain ⟨c0, c1, c2, c3, c4, c5⟩ := h.cells
  have hjl := lt_of_get h
  have hwr : IntKind.u32.wrap (n : Int) = (n : Int) := by rw [IntKind.wrap_u32]; omega
  have HKEEP := hide (fun (W : World) (hb : Below w.heap.size w W) => (⟨hb, (hb.cell (p := ⟨j, 3, none⟩) hjl).trans c3, (hb.cell (p := ⟨j, 4, none⟩) hjl).trans c4⟩ : Below w.heap.size w W ∧ W.cell? ⟨j, 3, none⟩ = some (.int .u32 ep) ∧ W.cell? ⟨j, 4, none⟩ = some (.slice Al n cl)))
  clear h c0 c1 c2 c5
  go_enter Try.func34, Try.ntmps34
  go_wp2
  go_region_held3 (fun W => Below w.heap.size w W ∧ W.cell? ⟨j, 3, none⟩ = some (.int .u32 ep) ∧ W.cell? ⟨j, 4, none⟩ = some (.slice Al n cl)) ((go_split_ands; refine unhide HKEEP _ ?_; repeat (first | assumption | exact Below.refl _ _ | apply Below.drew | apply below_alloc))) (first
    | (go_at_call 8; go_split_ands; (with_reducible refine (unhide HEN _).mono ?_); rintro e w2 ⟨rfl, hb2⟩; have hbw : Below w.heap.size w w2 := (below_then (by repeat (first | assumption | exact Below.refl _ _ | apply Below.drew | apply below_alloc)) hb2); clear hb2))
  all_goals
    go_wp2
    go_ret2
    exact ⟨rfl, hbw⟩

set_option maxHeartbeats 2000000 in
theorem rsectors_full {w : World} {j g fr tt : Nat} {ep : Int} {Al : Option Addr} {n cl en : Nat} (h : Rj w j g fr tt ep Al n cl en) (hep : 0 ≤ ep ∧ ep ≤ 4294967295) (h1 : en ≤ tt) (h2 : tt ≤ 100000) (hn : n ≤ 100000) (A : Option Addr) (b : List Int) (cap : Nat) (hA : BysA w A b) (hB : Byt b) (hl : b.length ≤ 4000) (hfit : tt - en < (b.length + 77) / 63) :
    Calls Try.prog 34 #[.pointer (some ⟨j, 0, none⟩), .slice A b.length cap] w fun e w' => e = .returned (.tuple #[.slice none 0 0, .int .i64 12]) ∧ Below w.heap.size w w' := by
  have hel := entS_len ep n b
  rw [← hel] at hfit
  have HEN : Hid (∀ (W : World), Below w.heap.size w W → Calls Try.prog 8 #[.agg #[.int .i64 1, .int .u32 ep, .int .u32 (n : Int), .slice A b.length cap]] W fun x w' => ∃ q c, x = .returned (.tuple #[.slice q (entS ep n b).length c, .int .i64 0]) ∧ Below W.heap.size W w') := fun W hW => by
    refine (rencode_ok 1 ep n (by omega) hep (by omega) A b cap hl hB W (bysA_below hA hW)).mono ?_
    rintro x w' ⟨v, rfl, ho, hb⟩
    obtain ⟨q, c, rfl, _, _⟩ := own_scs ho
    exact ⟨q, c, rfl, hb⟩
  have HRM := hide (fun (W : World) (hW : Below w.heap.size w W) => rroom_any (h.below hW) h1 h2)
  obtain ⟨c0, c1, c2, c3, c4, c5⟩ := h.cells
  have hjl := lt_of_get h
  have hwr : IntKind.u32.wrap (n : Int) = (n : Int) := by rw [IntKind.wrap_u32]; omega
  have HKEEP := hide (fun (W : World) (hb : Below w.heap.size w W) => (⟨hb, (hb.cell (p := ⟨j, 3, none⟩) hjl).trans c3, (hb.cell (p := ⟨j, 4, none⟩) hjl).trans c4⟩ : Below w.heap.size w W ∧ W.cell? ⟨j, 3, none⟩ = some (.int .u32 ep) ∧ W.cell? ⟨j, 4, none⟩ = some (.slice Al n cl)))
  have hT9 : (entS ep n b).length ≤ 100 := by rw [hel]; omega
  generalize entS ep n b = T at *
  have hqr : ((tt - en : Nat) : Int) < (T.length : Int) := by omega
  clear hA hB hel h c0 c1 c2 c5 hep
  go_enter Try.func34, Try.ntmps34
  go_wp2
  go_region_held3 (fun W => Below w.heap.size w W ∧ W.cell? ⟨j, 3, none⟩ = some (.int .u32 ep) ∧ W.cell? ⟨j, 4, none⟩ = some (.slice Al n cl)) ((go_split_ands; refine unhide HKEEP _ ?_; repeat (first | assumption | exact Below.refl _ _ | apply Below.drew | apply below_alloc))) (first
    | (go_at_call 8; go_split_ands; (with_reducible refine (unhide HEN _ ?_).mono ?_); (focus (repeat (first | assumption | exact Below.refl _ _ | apply Below.drew | apply below_alloc))); rintro e w2 ⟨q, c, rfl, hb2⟩; have hbw : Below w.heap.size w w2 := (below_then (by repeat (first | assumption | exact Below.refl _ _ | apply Below.drew | apply below_alloc)) hb2); clear hb2))
  all_goals
    go_wp2_with (go_at_call 31; (with_reducible refine (unhide HRM _ hbw).mono ?_); rintro e w3 ⟨rfl, hb3⟩; have HB3 := hide hb3; clear hb3)
    go_ret2
    exact ⟨rfl, below_then hbw (unhide HB3)⟩

/-- Append hands on what Sectors says. -/
theorem rappend_no {w : World} {j : Nat} {A : Option Addr} {m cap : Nat} (r : Int) (hr : r ≠ 0) (hs : Calls Try.prog 34 #[.pointer (some ⟨j, 0, none⟩), .slice A m cap] w fun e w' => e = .returned (.tuple #[.slice none 0 0, .int .i64 r]) ∧ Below w.heap.size w w') :
    Calls Try.prog 22 #[.pointer (some ⟨j, 0, none⟩), .slice A m cap] w fun e w' => e = .returned (.int .i64 r) ∧ Below w.heap.size w w' := by
  have HS := hide hs
  have hr' : (r != 0) = true := bne_iff_ne.2 hr
  clear hs
  go_enter Try.func22, Try.ntmps22
  go_wp2_with (go_at_call 34; (with_reducible refine (unhide HS).mono ?_); rintro e w2 ⟨rfl, hb2⟩)
  go_ret
  exact ⟨rfl, hb2⟩
end Go.Proofs.Ytfceileohkngnaa
