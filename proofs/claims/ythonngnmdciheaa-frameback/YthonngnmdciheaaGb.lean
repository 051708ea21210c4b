/- Good: a part. -/
import Derived.Test.YthonngnmdciheaaGz
namespace Go.Proofs.Ythonngnmdciheaa
open Go.RowKit
set_option linter.unusedVariables false
set_option maxHeartbeats 4000000 in
theorem fgood_2 (f : Fr) (hf : f.Fit) (A : Option Addr) (c : Nat) (w : World) (h1 : placesF f = true) (h2 : tagF f = false) : Calls Try.prog 13 #[.agg #[.int .u64 (f.dst : Int), .int .u64 (f.src : Int), .bool f.tag, .int .i64 f.prio, .int .i64 f.vid, .int .i64 f.kind, .slice A f.bs.length c]] w fun e w' => e = .returned (.bool (goodF f)) ∧ Below w.heap.size w w' := by
  have K1 := hide (fun W => places_any f hf A c W)
  have K2 := hide (fun W => gtag_any f hf A c W)
  have K3 := hide (fun W => kind_any f.kind hf.kind W)
  have K4 := hide (fun W => least_any f.tag W)
  have hl := hf.len
  have hl2 : leastN f.tag = 14 ∨ leastN f.tag = 18 := by cases f.tag <;> simp [leastN]
  rw [goodF_eq]
  generalize leastN f.tag = m at *
  clear hf
  rw [h1] at K1 ⊢
  rw [h2] at K2 ⊢
  clear h1 h2
  go_enter Try.func13, Try.ntmps13
  go_wp2
  have HX : Hid ((w.alloc (.cells #[.int .u64 (f.dst : Int), .int .u64 (f.src : Int), .bool f.tag, .int .i64 f.prio, .int .i64 f.vid, .int .i64 f.kind, .slice A f.bs.length c] 25)).heap[w.heap.size]? = some (.cells #[.int .u64 (f.dst : Int), .int .u64 (f.src : Int), .bool f.tag, .int .i64 f.prio, .int .i64 f.vid, .int .i64 f.kind, .slice A f.bs.length c] 25 (0, 0))) := heap_alloc_new _ _
  have HB : Hid (Below w.heap.size w (w.alloc (.cells #[.int .u64 (f.dst : Int), .int .u64 (f.src : Int), .bool f.tag, .int .i64 f.prio, .int .i64 f.vid, .int .i64 f.kind, .slice A f.bs.length c] 25))) := below_alloc (Below.refl _ _) _
  generalize w.alloc (.cells #[.int .u64 (f.dst : Int), .int .u64 (f.src : Int), .bool f.tag, .int .i64 f.prio, .int .i64 f.vid, .int .i64 f.kind, .slice A f.bs.length c] 25) = w1 at *
  have HSK := hide (fr_keep (unhide HX))
  obtain ⟨_, c0, c1, c2, c3, c4, c5, c6⟩ := unhide HSK w1 (Below.refl _ _)
  first
  | (go_region_with (first
    | (go_at_call 32; (with_reducible refine (unhide K1 _).mono ?_); rintro e wc ⟨rfl, hbc⟩; have hbd := below_then (by (repeat (first | (with_reducible assumption) | exact Below.refl _ _ | (with_reducible refine Below.drew ?_) | (with_reducible refine below_drewN ?_ _) | (with_reducible refine below_alloc ?_ _))) : Below w1.heap.size w1 _) hbc; (obtain ⟨_, d0, d1, d2, d3, d4, d5, d6⟩ := unhide HSK _ hbd); clear hbc)
    | (go_at_call 33; (with_reducible refine (unhide K2 _).mono ?_); rintro e wc ⟨rfl, hbc⟩; have hbd := below_then (by (repeat (first | (with_reducible assumption) | exact Below.refl _ _ | (with_reducible refine Below.drew ?_) | (with_reducible refine below_drewN ?_ _) | (with_reducible refine below_alloc ?_ _))) : Below w1.heap.size w1 _) hbc; (obtain ⟨_, d0, d1, d2, d3, d4, d5, d6⟩ := unhide HSK _ hbd); clear hbc)
    | (go_at_call 34; (with_reducible refine (unhide K3 _).mono ?_); rintro e wc ⟨rfl, rfl⟩)
    | (go_at_call 27; (with_reducible refine (unhide K4 _).mono ?_); rintro e wc ⟨rfl, rfl⟩)))
  | fail
  all_goals
    go_wp2
    go_ret
    exact ⟨ret_bool (by simp), below_then (unhide HB) (by assumption)⟩
end Go.Proofs.Ythonngnmdciheaa
