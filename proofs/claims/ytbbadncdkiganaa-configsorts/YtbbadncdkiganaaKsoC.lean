/- ConfigSorts out of its arguments. -/
import Derived.Test.YtbbadncdkiganaaKso
import Derived.Test.YtbbadncdkiganaaKopn
namespace Go.Proofs.Ytbbadncdkiganaa
open Go.RowKit Go.ChangeShapes Go.WideShapes Go.Deep
set_option linter.unusedVariables false
set_option maxRecDepth 4000
variable {H : Type} {enc : TypeId × Value → H} {W : World} {base : Nat}
theorem wf_u16 {x : Int} (h : (Lit.int .u16 x).wf = true) : 0 ≤ x ∧ x ≤ 65535 := by simpa [Lit.wf, IntKind.min, IntKind.max, IntKind.signed, IntKind.bits] using h
theorem Try.c54 : Try.prog.cellsOf 54 = 1 := by kernel_rfl
theorem u16_el (m : Nat) (cs : List Value) (x : DataW H × List MemPlace) (h : DataW.trod enc Try.prog W 0 (fun _ => true) true m 54 cs = some x) : ∃ s : Nat, cs = [Value.int .u16 (s : Int)] ∧ s < 65536 := by
  obtain ⟨b, e0, _, w0⟩ := DataW.trod_int Try.underlying54 h
  obtain ⟨h1, h2⟩ := wf_u16 w0
  exact ⟨b.toNat, by rw [Int.toNat_of_nonneg h1]; exact e0, by omega⟩
theorem flat_u16s (l : List Nat) : (l.flatMap fun (s : Nat) => [Value.int .u16 (s : Int)]) = u16s l := by
  induction l with
  | nil => rfl
  | cons a t ih => rw [List.flatMap_cons, ih]; rfl
theorem open_u16s {v : Value} {d : DataW H} {p : List MemPlace} (o : Value.okWide Try.prog W .any base 53 v) (r : DataW.Trod enc Try.prog W 0 (fun _ => true) true 53 v d p) :
    ∃ (A : Option Addr) (bs : List Nat) (cap : Nat), v = .slice A bs.length cap ∧ bs.length ≤ cap ∧ RowA W A (u16s bs) ∧ ∀ x ∈ bs, x < 65536 := by
  obtain ⟨a0, len0, cap0, rfl⟩ := okWide_slice Try.underlying53 o
  obtain ⟨fuel, hf⟩ := r
  obtain ⟨A, S, cap, h1, h2, h3, h4, h5⟩ := row_cells (0 : Nat) (fun s : Nat => [Value.int .u16 (s : Int)]) 1 (by omega) (fun _ => rfl) (fun s => s < 65536) Try.underlying53 Try.c54 u16_el (by simpa [Value.cells] using hf)
  rw [flat_u16s] at h4
  exact ⟨A, S, cap, h1, h2, h4, h5⟩
theorem configSorts_call {H : Type} (enc : TypeId × Value → H) (W : World) (base : Nat) (v0 v1 : Value) (o0 : Value.okWide Try.prog W .any base 53 v0) (o1 : Value.okWide Try.prog W .any base 53 v1) {d0 d1 : DataW H} {p0 p1 : List MemPlace}
    (r0 : DataW.Trod enc Try.prog W 0 (fun _ => true) true 53 v0 d0 p0) (r1 : DataW.Trod enc Try.prog W 0 (fun _ => true) true 53 v1 d1 p1) :
    Calls Try.prog 7 #[v0, v1] W fun e w' => e = .returned (.bool true) ∧ Below W.heap.size W w' := by
  obtain ⟨A, ids, ca, rfl, h1, hA, hi⟩ := open_u16s o0 r0
  obtain ⟨B, macs, cb, rfl, h2, hB, hm⟩ := open_u16s o1 r1
  by_cases h : ids.length ≤ 12 ∧ macs.length ≤ 10
  · exact sorts_walk ids macs A B ca cb W hA hB hi hm h.1 h.2 h1 h2
  · exact sorts_no A B ids.length macs.length ca cb W (by omega)
end Go.Proofs.Ytbbadncdkiganaa
