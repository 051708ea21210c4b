/- A frame in memory. -/
import Derived.Test.YthonngnmdciheaaFr
namespace Go.Proofs.Ythonngnmdciheaa
open Go.RowKit
set_option linter.unusedVariables false
theorem fr_cells {W : World} {g : Nat} {f : Fr} {A : Option Addr} {c : Nat} {t : TypeId} (h : W.heap[g]? = some (.cells #[.int .u64 (f.dst : Int), .int .u64 (f.src : Int), .bool f.tag, .int .i64 f.prio, .int .i64 f.vid, .int .i64 f.kind, .slice A f.bs.length c] t (0, 0))) : W.cell? ⟨g, 0, none⟩ = some (.int .u64 (f.dst : Int)) ∧ W.cell? ⟨g, 1, none⟩ = some (.int .u64 (f.src : Int)) ∧ W.cell? ⟨g, 2, none⟩ = some (.bool f.tag) ∧ W.cell? ⟨g, 3, none⟩ = some (.int .i64 f.prio) ∧ W.cell? ⟨g, 4, none⟩ = some (.int .i64 f.vid) ∧ W.cell? ⟨g, 5, none⟩ = some (.int .i64 f.kind) ∧ W.cell? ⟨g, 6, none⟩ = some (.slice A f.bs.length c) :=
  ⟨(heap_cell h 0).1, (heap_cell h 1).1, (heap_cell h 2).1, (heap_cell h 3).1, (heap_cell h 4).1, (heap_cell h 5).1, (heap_cell h 6).1⟩
/-- What holds of W seen from w1, the frame f in block g. -/
theorem fr_keep {w1 : World} {g : Nat} {f : Fr} {A : Option Addr} {c : Nat} {t : TypeId} (h : w1.heap[g]? = some (.cells #[.int .u64 (f.dst : Int), .int .u64 (f.src : Int), .bool f.tag, .int .i64 f.prio, .int .i64 f.vid, .int .i64 f.kind, .slice A f.bs.length c] t (0, 0))) (W : World) (hW : Below w1.heap.size w1 W) : Below w1.heap.size w1 W ∧ W.cell? ⟨g, 0, none⟩ = some (.int .u64 (f.dst : Int)) ∧ W.cell? ⟨g, 1, none⟩ = some (.int .u64 (f.src : Int)) ∧ W.cell? ⟨g, 2, none⟩ = some (.bool f.tag) ∧ W.cell? ⟨g, 3, none⟩ = some (.int .i64 f.prio) ∧ W.cell? ⟨g, 4, none⟩ = some (.int .i64 f.vid) ∧ W.cell? ⟨g, 5, none⟩ = some (.int .i64 f.kind) ∧ W.cell? ⟨g, 6, none⟩ = some (.slice A f.bs.length c) :=
  ⟨hW, fr_cells (heap_keep h hW)⟩
theorem goodF_eq (f : Fr) : goodF f = (placesF f && (tagF f && (kindF f.kind && decide ((f.bs.length : Int) ≤ 1518 - (leastN f.tag : Int))))) := rfl
end Go.Proofs.Ythonngnmdciheaa
