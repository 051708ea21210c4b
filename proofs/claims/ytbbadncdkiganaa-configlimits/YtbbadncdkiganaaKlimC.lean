/- ConfigLimits out of its arguments as they read. -/
import Derived.Test.YtbbadncdkiganaaKlimx
import Derived.Test.YtbbadncdkiganaaKopen
namespace Go.Proofs.Ytbbadncdkiganaa
open Go.RowKit
set_option linter.unusedVariables false
set_option maxRecDepth 4000
theorem configLimits_call {H : Type} (enc : TypeId × Value → H) (W : World) (base : Nat) (v0 v1 : Value) (o0 : Value.okWide Try.prog W .any base 5 v0) (o1 : Value.okWide Try.prog W .any base 5 v1) {d0 d1 : DataW H} {p0 p1 : List MemPlace}
    (r0 : DataW.Trod enc Try.prog W 0 (fun _ => true) true 5 v0 d0 p0) (r1 : DataW.Trod enc Try.prog W 0 (fun _ => true) true 5 v1 d1 p1) :
    Calls Try.prog 8 #[v0, v1] W fun e w' => e = .returned (.bool true) ∧ Below W.heap.size W w' := by
  obtain ⟨x, rfl, hx⟩ := open_u8 Try.underlying5 o0 r0
  obtain ⟨y, rfl, hy⟩ := open_u8 Try.underlying5 o1 r1
  exact limits_walk x y hx hy W
end Go.Proofs.Ytbbadncdkiganaa
