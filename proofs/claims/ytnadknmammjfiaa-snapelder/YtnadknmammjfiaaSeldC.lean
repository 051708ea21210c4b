/- SnapElder out of its arguments as they read. -/
import Derived.Test.YtnadknmammjfiaaSeldW
import Derived.Test.YtnadknmammjfiaaMO
namespace Go.Proofs.Ytnadknmammjfiaa
open Go.RowKit Go.ChangeShapes Go.WideShapes Go.Deep
set_option linter.unusedVariables false
set_option maxRecDepth 4000
section
variable {H : Type} {enc : TypeId × Value → H} {P : Program} {W : World} {base : Nat}
theorem open_u8s2 {t e : TypeId} {v : Value} {d : DataW H} {p : List MemPlace} (ht : P.underlying t = some (.array 2 e)) (he : P.underlying e = some (.int .u8)) (hce : P.cellsOf e = 1) (hct : P.cellsOf t = 2)
    (o : Value.okWide P W .any base t v) (r : DataW.Trod enc P W 0 (fun _ => true) true t v d p) :
    ∃ n0 n1, v = .agg #[.int .u8 n0, .int .u8 n1] ∧ (0 ≤ n0 ∧ n0 ≤ 255) ∧ (0 ≤ n1 ∧ n1 ≤ 255) := by
  obtain ⟨cs, rfl, hs⟩ := okWide_array ht o
  obtain ⟨fuel, hf⟩ := r
  obtain ⟨xs, m, _, _, hl, hx, hi⟩ := DataW.trod_array ht hf
  rw [hct] at hs
  obtain ⟨c0, c1, rfl⟩ : ∃ c0 c1, cs = #[c0, c1] := by
    match cs, hs with
    | ⟨[c0, c1]⟩, _ => exact ⟨c0, c1, rfl⟩
  have h0 := hi 0 (by omega)
  have h1 := hi 1 (by omega)
  rw [List.getElem?_eq_getElem (by omega)] at h0 h1
  simp [hce, Value.cells] at h0 h1
  obtain ⟨n0, e0, _, w0⟩ := DataW.trod_int he h0
  obtain ⟨n1, e1, _, w1⟩ := DataW.trod_int he h1
  simp at e0 e1
  subst e0 e1
  exact ⟨n0, n1, rfl, wf_u8 w0, wf_u8 w1⟩

end
theorem snapElder_call {H : Type} (enc : TypeId × Value → H) (W : World) (base : Nat) (v0 v1 v2 : Value) (o0 : Value.okWide Try.prog W .any base 33 v0) (o1 : Value.okWide Try.prog W .any base 33 v1) (o2 : Value.okWide Try.prog W .any base 66 v2) {d0 d1 d2 : DataW H} {p0 p1 p2 : List MemPlace}
    (r0 : DataW.Trod enc Try.prog W 0 (fun _ => true) true 33 v0 d0 p0) (r1 : DataW.Trod enc Try.prog W 0 (fun _ => true) true 33 v1 d1 p1) (r2 : DataW.Trod enc Try.prog W 0 (fun _ => true) true 66 v2 d2 p2) :
    Calls Try.prog 7 #[v0, v1, v2] W fun e w' => e = .returned (.bool true) ∧ Below W.heap.size W w' := by
  obtain ⟨a, xs, ca, rfl, ha1, ha2, ha3, ha4, _⟩ := open_bytes Try.underlying33 Try.underlying5 (by kernel_rfl) o0 r0
  obtain ⟨b, bs, cb, rfl, hb1, hb2, hb3, hb4, _⟩ := open_bytes Try.underlying33 Try.underlying5 (by kernel_rfl) o1 r1
  obtain ⟨n0, n1, rfl, h0, h1⟩ := open_u8s2 Try.underlying66 Try.underlying5 (by kernel_rfl) (by kernel_rfl) o2 r2
  by_cases h : 500 < xs.length ∨ 500 < bs.length
  · exact seld_no a b _ _ ca cb n0 n1 h (by omega) (by omega) W
  · exact seld_walk a b xs bs ca cb n0 n1 h0 h1 (by omega) (by omega) ha3 hb3 W ha4 hb4
end Go.Proofs.Ytnadknmammjfiaa
