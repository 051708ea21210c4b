/- ConfigMay out of its arguments as they read. -/
import Derived.Test.YtbbadncdkiganaaKmay
import Derived.Test.YtbbadncdkiganaaKopn
namespace Go.Proofs.Ytbbadncdkiganaa
open Go.RowKit
set_option linter.unusedVariables false
set_option maxRecDepth 4000
theorem configMay_call {H : Type} (enc : TypeId × Value → H) (W : World) (base : Nat) (v0 v1 v2 : Value) (o0 : Value.okWide Try.prog W .any base 26 v0) (o1 : Value.okWide Try.prog W .any base 26 v1) (o2 : Value.okWide Try.prog W .any base 3 v2) {d0 d1 d2 : DataW H} {p0 p1 p2 : List MemPlace}
    (r0 : DataW.Trod enc Try.prog W 0 (fun _ => true) true 26 v0 d0 p0) (r1 : DataW.Trod enc Try.prog W 0 (fun _ => true) true 26 v1 d1 p1) (r2 : DataW.Trod enc Try.prog W 0 (fun _ => true) true 3 v2 d2 p2) :
    Calls Try.prog 3 #[v0, v1, v2] W fun e w' => e = .returned (.bool true) ∧ Below W.heap.size W w' := by
  obtain ⟨c, Ap, Av, As, cp, cv, cs, rfl, hL, hM, hA⟩ := open_cfg o0 r0
  obtain ⟨d, Dp, Dv, Ds, dp, dv, ds, rfl, hL2, hM2, hD⟩ := open_cfg o1 r1
  obtain ⟨n, rfl, -, -⟩ := open_int64 Try.underlying3 o2 r2
  by_cases h : FairC c ∧ FairC d
  · exact may_yes c d n Ap Av As Dp Dv Ds cp cv cs dp dv ds hL hM hL2 W hA hD h.1 h.2
  · exact may_no c d n Ap Av As Dp Dv Ds cp cv cs dp dv ds W h
end Go.Proofs.Ytbbadncdkiganaa
