/- Good: a part. -/
import Derived.Test.YthonngnmdciheaaGz
namespace Go.Proofs.Ythonngnmdciheaa
open Go.RowKit
set_option linter.unusedVariables false
set_option maxHeartbeats 4000000 in
theorem fgood_4 (f : Fr) (hf : f.Fit) (A : Option Addr) (c : Nat) (w : World) (h1 : placesF f = true) (h2 : tagF f = true) (h3 : kindF f.kind = true) : Calls Try.prog 13 #[.agg #[.int .u64 (f.dst : Int), .int .u64 (f.src : Int), .bool f.tag, .int .i64 f.prio, .int .i64 f.vid, .int .i64 f.kind, .slice A f.bs.length c]] w fun e w' => e = .returned (.bool (goodF f)) ∧ Below w.heap.size w w' := by
  have K1 := hide (fun W => places_any f hf A c W)
  have K2 := hide (fun W => gtag_any f hf A c W)
  have K3 := hide (fun W => kind_any f.kind hf.kind W)
  have K4 := hide (fun W => least_any f.tag W)
  have hl := hf.len
  have hl2 : leastN f.tag = 14 ∨ leastN f.tag = 18 := by cases f.tag <;> simp [leastN]
  rw [goodF_eq]
  generalize leastN f.tag = m at *
  clear hf
  rw [h1] at K1 ⊢
  rw [h2] at K2 ⊢
  rw [h3] at K3 ⊢
  clear h1 h2 h3
  go_enter Try.func13, Try.ntmps13
  go_wp2
  have HX : Hid ((w.alloc (.cells #[.int .u64 (f.dst : Int), .int .u64 (f.src : Int), .bool f.tag, .int .i64 f.prio, .int .i64 f.vid, .int .i64 f.kind, .slice A f.bs.length c] 25)).heap[w.heap.size]? = some (.cells #[.int .u64 (f.dst : Int), .int .u64 (f.src : Int), .bool f.tag, .int .i64 f.prio, .int .i64 f.vid, .int .i64 f.kind, .slice A f.bs.length c] 25 (0, 0))) := heap_alloc_new _ _
  have HB : Hid (Below w.heap.size w (w.alloc (.cells #[.int .u64 (f.dst : Int), .int .u64 (f.src : Int), .bool f.tag, .int .i64 f.prio, .int .i64 f.vid, .int .i64 f.kind, .slice A f.bs.length c] 25))) := below_alloc (Below.refl _ _) _
  generalize w.alloc (.cells #[.int .u64 (f.dst : Int), .int .u64 (f.src : Int), .bool f.tag, .int .i64 f.prio, .int .i64 f.vid, .int .i64 f.kind, .slice A f.bs.length c] 25) = w1 at *
  have HSK := hide (fr_keep (unhide HX))
  first
  | (go_region_held3 (fun W => Below w1.heap.size w1 W ∧ W.cell? ⟨w.heap.size, 0, none⟩ = some (.int .u64 (f.dst : Int)) ∧ W.cell? ⟨w.heap.size, 1, none⟩ = some (.int .u64 (f.src : Int)) ∧ W.cell? ⟨w.heap.size, 2, none⟩ = some (.bool f.tag) ∧ W.cell? ⟨w.heap.size, 3, none⟩ = some (.int .i64 f.prio) ∧ W.cell? ⟨w.heap.size, 4, none⟩ = some (.int .i64 f.vid) ∧ W.cell? ⟨w.heap.size, 5, none⟩ = some (.int .i64 f.kind) ∧ W.cell? ⟨w.heap.size, 6, none⟩ = some (.slice A f.bs.length c))
    ((go_split_ands; refine unhide HSK _ ?_; (repeat (first | (with_reducible assumption) | exact Below.refl _ _ | (with_reducible refine Below.drew ?_) | (with_reducible refine below_drewN ?_ _) | (with_reducible refine below_alloc ?_ _)))))
    (first
    | (go_at_call 32; (with_reducible refine (unhide K1 _).mono ?_); rintro e wc ⟨rfl, hbc⟩; have hbd := below_then (by (repeat (first | (with_reducible assumption) | exact Below.refl _ _ | (with_reducible refine Below.drew ?_) | (with_reducible refine below_drewN ?_ _) | (with_reducible refine below_alloc ?_ _))) : Below w1.heap.size w1 _) hbc; clear hbc)
    | (go_at_call 33; (with_reducible refine (unhide K2 _).mono ?_); rintro e wc ⟨rfl, hbc⟩; have hbd := below_then (by (repeat (first | (with_reducible assumption) | exact Below.refl _ _ | (with_reducible refine Below.drew ?_) | (with_reducible refine below_drewN ?_ _) | (with_reducible refine below_alloc ?_ _))) : Below w1.heap.size w1 _) hbc; clear hbc)
    | (go_at_call 34; (with_reducible refine (unhide K3 _).mono ?_); rintro e wc ⟨rfl, rfl⟩)
    | (go_at_call 27; (with_reducible refine (unhide K4 _).mono ?_); rintro e wc ⟨rfl, rfl⟩)))
  | fail
  all_goals
    go_wp2
    go_ret
    have hw : IntKind.i64.wrap (1518 - (m : Int)) = 1518 - m := by rcases hl2 with rfl | rfl <;> rfl
    exact ⟨ret_bool (by simp [hw]), below_then (unhide HB) (by assumption)⟩
end Go.Proofs.Ythonngnmdciheaa
