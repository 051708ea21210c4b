/- The laws' own wakes: true. -/
import Derived.Test.YtbbadncdkiganabKwak
namespace Go.Proofs.Ytbbadncdkiganab
open Go.RowKit
set_option linter.unusedVariables false
set_option maxRecDepth 4000

theorem CfgA.head {w : World} {Ap Av As : Option Addr} (h : CfgA w wD Ap Av As) : ∃ b off, Ap = some ⟨b, off, none⟩ ∧ ∀ W, Below w.heap.size w W → W.cell? ⟨b, off + 2, none⟩ = some (.int .i64 10) := by
  obtain ⟨b, off, e, hc⟩ := rowP_at h.1 (by decide)
  exact ⟨b, off, e, fun W hW => by simpa using (hc W hW 0 (true, 20000, 10) rfl).2.2⟩
set_option maxHeartbeats 16000000 in
theorem wakes_any (w : World) : Calls Try.prog 6 #[] w fun e w' => e = .returned (.bool true) ∧ Below w.heap.size w w' := by
  have H0 := hide wk0
  have H1 := hide wk1
  have H2 := hide wk2
  go_enter Try.func6, Try.ntmps6
  go_wp2_with (first
    | (go_at_call 12; (with_reducible refine (unhide H0 _).mono ?_); rintro e w1 ⟨Bp, dp, Bv, dv, rfl, ha, hb1⟩; have HA1 := hide ha; have HB1 := hide hb1; have HC1 := hide (heap_new w1 (.cells #[.int .i64 32768, .int .i64 20, .int .i64 15, .slice Bp 3 dp, .slice Bv 1 dv, .slice none 0 0] 26) _ rfl); clear ha hb1)
    | (go_at_call 7; (with_reducible refine (unhide H1 _ _ _ _ _ _ ((unhide HA1).below (below_alloc (below_alloc (Below.refl _ _) _) _)) (heap_new _ _ _ ?_)).mono ?_); (focus (simp; done)); rintro e w2 ⟨hb2, Ap, cp, Av, cv, As, cs, rfl, ha2⟩; have HX2 := hide hb2; have HA2 := hide ha2; have hc1 := heap_keep (heap_keep (unhide HC1) (below_alloc (Below.refl _ _) _)) hb2; have HC2 := hide hc1; obtain ⟨q0, -⟩ := heap_cell hc1 0; obtain ⟨q1, -⟩ := heap_cell hc1 1; obtain ⟨q2, -⟩ := heap_cell hc1 2; obtain ⟨q3, -⟩ := heap_cell hc1 3; obtain ⟨q4, -⟩ := heap_cell hc1 4; obtain ⟨q5, -⟩ := heap_cell hc1 5; have r0 := cell_any q0; have r1 := cell_any q1; have r2 := cell_any q2; have r3 := cell_any q3; have r4 := cell_any q4; have r5 := cell_any q5; have HBB := hide (below_then (below_alloc (below_alloc (Below.refl w1.heap.size w1) _) _) hb2); have HD2 := hide (heap_new w2 (.cells #[.int .i64 32768, .int .i64 20, .int .i64 15, .slice Ap 3 cp, .slice Av 2 cv, .slice As 1 cs] 26) _ rfl); clear hb2 ha2 hc1 q0 q1 q2 q3 q4 q5)
    | (go_at_call 7; (with_reducible refine (unhide H2 _ _ _ _ _ _ ((unhide HA1).below (below_then (unhide HBB) (below_alloc (below_alloc (Below.refl _ _) _) _))) (heap_new _ _ _ ?_)).mono ?_); (focus (simp; done)); rintro e w3 ⟨hb3, rfl⟩; have HX3 := hide hb3; clear hb3))
  obtain ⟨b, off, rfl, hhd⟩ := (unhide HA2).head
  have HHD := hide hhd
  clear hhd r0 r1 r2 r3 r4 r5
  have HB34 : Hid (Below w2.heap.size w2 (w3.alloc (.cells #[.int .i64 0, .int .i64 0, .int .i64 0, .slice none 0 0, .slice none 0 0, .slice none 0 0] 26))) := hide (below_alloc (below_then (below_alloc (below_alloc (Below.refl _ _) _) _) (unhide HX3)) _)
  have HD4 : Hid ((w3.alloc (.cells #[.int .i64 0, .int .i64 0, .int .i64 0, .slice none 0 0, .slice none 0 0, .slice none 0 0] 26)).heap[w2.heap.size]? = some (.cells #[.int .i64 32768, .int .i64 20, .int .i64 15, .slice (some ⟨b, off, none⟩) 3 cp, .slice Av 2 cv, .slice As 1 cs] 26 (0, 0))) := hide (heap_keep (heap_keep (heap_keep (unhide HD2) (below_alloc (Below.refl _ _) _)) (unhide HX3)) (below_alloc (Below.refl _ _) _))
  have HC4 := hide (heap_keep (unhide HC2) (unhide HB34))
  have HA4 := hide ((unhide HA2).below (unhide HB34))
  have HB4 := hide ((unhide HA1).below (below_then (unhide HBB) (unhide HB34)))
  have HW4 := hide (below_then (unhide HB1) (below_then (unhide HBB) (unhide HB34)))
  have HH4 := hide (unhide HHD _ (unhide HB34))
  generalize w3.alloc (.cells #[.int .i64 0, .int .i64 0, .int .i64 0, .slice none 0 0, .slice none 0 0, .slice none 0 0] 26) = w4 at *
  have H3 := hide (fun W (hW : Below w4.heap.size w4 W) => wk3 W (some ⟨b, off, none⟩) Av As cp cv cs ((unhide HA4).below hW))
  have H4 := hide (fun W (hW : Below w4.heap.size w4 W) => wk4 W Bp Bv dp dv (some ⟨b, off, none⟩) Av As cp cv cs ((unhide HB4).below hW) ((unhide HA4).below hW))
  have H5 := hide (fun W (hW : Below w4.heap.size w4 W) Ap' Av' As' cp' cv' cs' hA' => wk5 W (some ⟨b, off, none⟩) Av As cp cv cs Ap' Av' As' cp' cv' cs' ((unhide HA4).below hW) hA')
  have H6 := hide (fun W (hW : Below w4.heap.size w4 W) => wk6 W (some ⟨b, off, none⟩) Av As cp cv cs ((unhide HA4).below hW))
  have HK := hide (fun (W : World) (h : Below w4.heap.size w4 W) => (⟨h, (heap_cell (heap_keep (unhide HC4) h) 0).1, (heap_cell (heap_keep (unhide HC4) h) 1).1, (heap_cell (heap_keep (unhide HC4) h) 2).1, (heap_cell (heap_keep (unhide HC4) h) 3).1, (heap_cell (heap_keep (unhide HC4) h) 4).1, (heap_cell (heap_keep (unhide HC4) h) 5).1, (heap_cell (heap_keep (unhide HD4) h) 0).1, (heap_cell (heap_keep (unhide HD4) h) 1).1, (heap_cell (heap_keep (unhide HD4) h) 2).1, (heap_cell (heap_keep (unhide HD4) h) 3).1, (heap_cell (heap_keep (unhide HD4) h) 4).1, (heap_cell (heap_keep (unhide HD4) h) 5).1, keep_cell (unhide HH4) h⟩ : Below w4.heap.size w4 W ∧ W.cell? ⟨w1.heap.size, 0, none⟩ = some (.int .i64 32768) ∧ W.cell? ⟨w1.heap.size, 1, none⟩ = some (.int .i64 20) ∧ W.cell? ⟨w1.heap.size, 2, none⟩ = some (.int .i64 15) ∧ W.cell? ⟨w1.heap.size, 3, none⟩ = some (.slice Bp 3 dp) ∧ W.cell? ⟨w1.heap.size, 4, none⟩ = some (.slice Bv 1 dv) ∧ W.cell? ⟨w1.heap.size, 5, none⟩ = some (.slice none 0 0) ∧ W.cell? ⟨w2.heap.size, 0, none⟩ = some (.int .i64 32768) ∧ W.cell? ⟨w2.heap.size, 1, none⟩ = some (.int .i64 20) ∧ W.cell? ⟨w2.heap.size, 2, none⟩ = some (.int .i64 15) ∧ W.cell? ⟨w2.heap.size, 3, none⟩ = some (.slice (some ⟨b, off, none⟩) 3 cp) ∧ W.cell? ⟨w2.heap.size, 4, none⟩ = some (.slice Av 2 cv) ∧ W.cell? ⟨w2.heap.size, 5, none⟩ = some (.slice As 1 cs) ∧ W.cell? ⟨b, off + 2, none⟩ = some (.int .i64 10)))
  go_region_held3 (fun W => Below w4.heap.size w4 W ∧ W.cell? ⟨w1.heap.size, 0, none⟩ = some (.int .i64 32768) ∧ W.cell? ⟨w1.heap.size, 1, none⟩ = some (.int .i64 20) ∧ W.cell? ⟨w1.heap.size, 2, none⟩ = some (.int .i64 15) ∧ W.cell? ⟨w1.heap.size, 3, none⟩ = some (.slice Bp 3 dp) ∧ W.cell? ⟨w1.heap.size, 4, none⟩ = some (.slice Bv 1 dv) ∧ W.cell? ⟨w1.heap.size, 5, none⟩ = some (.slice none 0 0) ∧ W.cell? ⟨w2.heap.size, 0, none⟩ = some (.int .i64 32768) ∧ W.cell? ⟨w2.heap.size, 1, none⟩ = some (.int .i64 20) ∧ W.cell? ⟨w2.heap.size, 2, none⟩ = some (.int .i64 15) ∧ W.cell? ⟨w2.heap.size, 3, none⟩ = some (.slice (some ⟨b, off, none⟩) 3 cp) ∧ W.cell? ⟨w2.heap.size, 4, none⟩ = some (.slice Av 2 cv) ∧ W.cell? ⟨w2.heap.size, 5, none⟩ = some (.slice As 1 cs) ∧ W.cell? ⟨b, off + 2, none⟩ = some (.int .i64 10)) ((go_split_ands; refine unhide HK _ ?_; (repeat (first | (with_reducible assumption) | exact Below.refl _ _ | (with_reducible refine Below.drew ?_) | (with_reducible refine below_drewN ?_ _) | (with_reducible refine below_alloc ?_ _)))))
    (first
      | (go_at_call 13; refine (unhide H3 _ ?_).mono ?_; (focus (repeat (first | (with_reducible assumption) | exact Below.refl _ _ | (with_reducible refine Below.drew ?_) | (with_reducible refine below_drewN ?_ _) | (with_reducible refine below_alloc ?_ _)))); rintro e w5 ⟨rfl, hb5⟩; have hc5 : Below w4.heap.size w4 w5 := below_then (by (repeat (first | (with_reducible assumption) | exact Below.refl _ _ | (with_reducible refine Below.drew ?_) | (with_reducible refine below_drewN ?_ _) | (with_reducible refine below_alloc ?_ _)))) hb5; clear hb5)
      | (go_at_call 8; (with_reducible refine (unhide H4 _ ?_).mono ?_); (focus (repeat (first | (with_reducible assumption) | exact Below.refl _ _ | (with_reducible refine Below.drew ?_) | (with_reducible refine below_drewN ?_ _) | (with_reducible refine below_alloc ?_ _)))); rintro e w6 ⟨rfl, hb6⟩; have hc6 : Below w4.heap.size w4 w6 := below_then (by (repeat (first | (with_reducible assumption) | exact Below.refl _ _ | (with_reducible refine Below.drew ?_) | (with_reducible refine below_drewN ?_ _) | (with_reducible refine below_alloc ?_ _)))) hb6; clear hb6)
      | (go_at_call 14; refine (unhide H6 _ ?_).mono ?_; (focus (repeat (first | (with_reducible assumption) | exact Below.refl _ _ | (with_reducible refine Below.drew ?_) | (with_reducible refine below_drewN ?_ _) | (with_reducible refine below_alloc ?_ _)))); rintro e w7 ⟨Ap', cp', Av', cv', As', cs', rfl, ha7, hb7⟩; have hc7 : Below w4.heap.size w4 w7 := below_then (by (repeat (first | (with_reducible assumption) | exact Below.refl _ _ | (with_reducible refine Below.drew ?_) | (with_reducible refine below_drewN ?_ _) | (with_reducible refine below_alloc ?_ _)))) hb7; have HA7 := hide ha7; clear hb7 ha7)
      | (go_at_call 8; (with_reducible refine (unhide H5 _ ?_ _ _ _ _ _ _ (unhide HA7)).mono ?_); (focus (repeat (first | (with_reducible assumption) | exact Below.refl _ _ | (with_reducible refine Below.drew ?_) | (with_reducible refine below_drewN ?_ _) | (with_reducible refine below_alloc ?_ _)))); rintro e w8 ⟨rfl, hb8⟩; have hc8 : Below w4.heap.size w4 w8 := below_then (by (repeat (first | (with_reducible assumption) | exact Below.refl _ _ | (with_reducible refine Below.drew ?_) | (with_reducible refine below_drewN ?_ _) | (with_reducible refine below_alloc ?_ _)))) hb8; clear hb8))
  all_goals
    go_wp2
    go_ret
    exact ⟨rfl, below_then (unhide HW4) (by (repeat (first | (with_reducible assumption) | exact Below.refl _ _ | (with_reducible refine Below.drew ?_) | (with_reducible refine below_drewN ?_ _) | (with_reducible refine below_alloc ?_ _))))⟩
end Go.Proofs.Ytbbadncdkiganab
