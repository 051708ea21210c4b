/- Frames in memory: stores, loads, results that lie in a block. -/
import Derived.Test.YthonngnmdciheaaJn
namespace Go.Proofs.Ythonngnmdciheaa
open Go.RowKit
set_option linter.unusedVariables false
theorem results_cell {fn : Func} {p : Tmp} {ty : TypeId} (h : fn.results = #[.cell p ty]) (tmps : Array Value) (P : Program) (w : World) :
    (results fn tmps).run P w = ((asAddr (tmps.getD p undef)).run P w).andThen fun a w₁ => (loadVar ty a).run P w₁ := by
  simp only [results, h]
  simp [Sem.run_bind, Result.andThen]

theorem heap_set {w : World} {g : Nat} {c : Array Value} {t : TypeId} (h : w.heap[g]? = some (.cells c t (0, 0))) (i : Nat) (v : Value) : (w.setCell ⟨g, i, none⟩ v).heap[g]? = some (.cells (c.setIfInBounds i v) t (0, 0)) := by
  simp only [World.setCell, Array.getElem?_modify, if_true, h, Option.map_some]
  rfl
theorem heap_range {w : World} {g : Nat} {c : Array Value} {t : TypeId} (h : w.heap[g]? = some (.cells c t (0, 0))) : w.rangeAt g 0 c.toList := by
  intro j v hv
  rw [Nat.zero_add, cell_of_row w g j _ _ _ h]
  simpa using hv
theorem run_loadC {w : World} {g : Nat} {c : Array Value} {t ty : TypeId} {d : TypeDesc} (h : w.heap[g]? = some (.cells c t (0, 0))) (hu : Try.prog.underlying ty = some d) (hd : d.isRow = true) (hi : (Try.prog.info? ty).map (·.size) = some c.size) :
    (loadVar ty ⟨g, 0, none⟩).run Try.prog w = .ok (.agg c) w := by
  have := run_loadVar_mid (P := Try.prog) w g 0 ty c.toList d (heap_range h) hu hd (by rw [Array.length_toList]; exact hi)
  simpa using this
theorem ret_cell1 {fn : Func} {p : Tmp} {ty : TypeId} (hf : fn.results = #[.cell p ty]) {a : Act} {w : World} {g : Nat} {c : Array Value} {t : TypeId} {d : TypeDesc} {R : Ending → World → Prop} (hd : a.defers = []) (hp : a.tmps.getD p undef = .pointer (some ⟨g, 0, none⟩))
    (h : w.heap[g]? = some (.cells c t (0, 0))) (hu : Try.prog.underlying ty = some d) (hd' : d.isRow = true) (hi : (Try.prog.info? ty).map (·.size) = some c.size) (hR : R (.returned (.agg c)) w) : bodyPost Try.prog fn R .ret a w := by
  refine bodyPost_ret (v := .agg c) ?_ hd hR
  rw [results_cell hf, hp]
  simp only [asAddr, Sem.run_pure, Result.andThen_ok, run_loadC h hu hd' hi]
theorem ret_cell2 {fn : Func} {p u : Tmp} {ty : TypeId} (hf : fn.results = #[.cell p ty, .tmp u]) {a : Act} {w : World} {g : Nat} {c : Array Value} {t : TypeId} {d : TypeDesc} {x : Value} {R : Ending → World → Prop} (hd : a.defers = []) (hp : a.tmps.getD p undef = .pointer (some ⟨g, 0, none⟩)) (hx : a.tmps.getD u undef = x)
    (h : w.heap[g]? = some (.cells c t (0, 0))) (hu : Try.prog.underlying ty = some d) (hd' : d.isRow = true) (hi : (Try.prog.info? ty).map (·.size) = some c.size) (hR : R (.returned (.tuple #[.agg c, x])) w) : bodyPost Try.prog fn R .ret a w := by
  refine bodyPost_ret (v := .tuple #[.agg c, x]) ?_ hd hR
  rw [results_cell_tmp hf, hp, hx]
  simp only [asAddr, Sem.run_pure, Result.andThen_ok, run_loadC h hu hd' hi]
theorem heap_setC {w : World} {g : Nat} {c : Array Value} {t : TypeId} {h0 : Nat} (h : w.heap[h0]? = some (.cells c t (0, 0))) (hne : h0 ≠ g) (i : Nat) (v : Value) : (w.setCell ⟨g, i, none⟩ v).heap[h0]? = some (.cells c t (0, 0)) := by
  rw [Below.heap_setCell _ _ _ _ hne]; exact h
theorem Try.size25 : (Try.prog.info? 25).map (·.size) = some 7 := by kernel_rfl
theorem heap_sets7 {w : World} {g : Nat} {x0 x1 x2 x3 x4 x5 x6 : Value} {t : TypeId} (h : w.heap[g]? = some (.cells #[x0, x1, x2, x3, x4, x5, x6] t (0, 0))) (u0 u1 u2 u3 u4 u5 u6 : Value) :
    (((((((w.setCell ⟨g, 0, none⟩ u0).setCell ⟨g, 1, none⟩ u1).setCell ⟨g, 2, none⟩ u2).setCell ⟨g, 3, none⟩ u3).setCell ⟨g, 4, none⟩ u4).setCell ⟨g, 5, none⟩ u5).setCell ⟨g, 6, none⟩ u6).heap[g]? = some (.cells #[u0, u1, u2, u3, u4, u5, u6] t (0, 0)) := by
  have := heap_set (heap_set (heap_set (heap_set (heap_set (heap_set (heap_set h 0 u0) 1 u1) 2 u2) 3 u3) 4 u4) 5 u5) 6 u6
  simpa using this
theorem own_sets7 {w : World} {base : Nat} {e : TypeId} {size : Nat} {v : Value} {n : Nat} {xs : List Value} (h : w.ownsRow base e size v n xs) (g : Nat) (hg : g < base) (u0 u1 u2 u3 u4 u5 u6 : Value) :
    (((((((w.setCell ⟨g, 0, none⟩ u0).setCell ⟨g, 1, none⟩ u1).setCell ⟨g, 2, none⟩ u2).setCell ⟨g, 3, none⟩ u3).setCell ⟨g, 4, none⟩ u4).setCell ⟨g, 5, none⟩ u5).setCell ⟨g, 6, none⟩ u6).ownsRow base e size v n xs :=
  ownsRow_setCell_below (a := ⟨g, 6, none⟩) (ownsRow_setCell_below (a := ⟨g, 5, none⟩) (ownsRow_setCell_below (a := ⟨g, 4, none⟩) (ownsRow_setCell_below (a := ⟨g, 3, none⟩) (ownsRow_setCell_below (a := ⟨g, 2, none⟩) (ownsRow_setCell_below (a := ⟨g, 1, none⟩) (ownsRow_setCell_below (a := ⟨g, 0, none⟩) h hg u0) hg u1) hg u2) hg u3) hg u4) hg u5) hg u6
theorem below_sets7 {w0 w : World} (h : Below w0.heap.size w0 w) (g : Nat) (hg : w0.heap.size ≤ g) (u0 u1 u2 u3 u4 u5 u6 : Value) :
    Below w0.heap.size w0 (((((((w.setCell ⟨g, 0, none⟩ u0).setCell ⟨g, 1, none⟩ u1).setCell ⟨g, 2, none⟩ u2).setCell ⟨g, 3, none⟩ u3).setCell ⟨g, 4, none⟩ u4).setCell ⟨g, 5, none⟩ u5).setCell ⟨g, 6, none⟩ u6) :=
  below_set (below_set (below_set (below_set (below_set (below_set (below_set h g 0 u0 hg) g 1 u1 hg) g 2 u2 hg) g 3 u3 hg) g 4 u4 hg) g 5 u5 hg) g 6 u6 hg
abbrev zeroC : Array Value := #[.int .u64 0, .int .u64 0, .bool false, .int .i64 0, .int .i64 0, .int .i64 0, .slice none 0 0]
/-- What is answered: a frame of its own. -/
def FrO (e : Ending) (f : Fr) (W w' : World) : Prop := ∃ B d, e = .returned (.agg #[.int .u64 (f.dst : Int), .int .u64 (f.src : Int), .bool f.tag, .int .i64 f.prio, .int .i64 f.vid, .int .i64 f.kind, .slice B f.bs.length d]) ∧ RowA w' B (u8s f.bs) ∧ Below W.heap.size W w'
end Go.Proofs.Ythonngnmdciheaa
