/- SnapNone out of its arguments as they read. -/
import Derived.Test.YtnadknmammjfiaaSnoneW
import Derived.Test.YtnadknmammjfiaaMO
namespace Go.Proofs.Ytnadknmammjfiaa
open Go.RowKit
set_option linter.unusedVariables false
set_option maxRecDepth 4000
theorem snapNone_call {H : Type} (enc : TypeId × Value → H) (W : World) (base : Nat) (v0 v1 v2 : Value) (o0 : Value.okWide Try.prog W .any base 32 v0) (o1 : Value.okWide Try.prog W .any base 33 v1) (o2 : Value.okWide Try.prog W .any base 5 v2) {d0 d1 d2 : DataW H} {p0 p1 p2 : List MemPlace}
    (r0 : DataW.Trod enc Try.prog W 0 (fun _ => true) true 32 v0 d0 p0) (r1 : DataW.Trod enc Try.prog W 0 (fun _ => true) true 33 v1 d1 p1) (r2 : DataW.Trod enc Try.prog W 0 (fun _ => true) true 5 v2 d2 p2) :
    Calls Try.prog 5 #[v0, v1, v2] W fun e w' => e = .returned (.bool true) ∧ Below W.heap.size W w' := by
  obtain ⟨ep, rfl, hep⟩ := open_u32 Try.underlying32 o0 r0
  obtain ⟨a, bs, cap, rfl, hc, hm, hB, hA⟩ := open_bytes Try.underlying33 Try.underlying5 (by kernel_rfl) o1 r1
  obtain ⟨x, rfl, hx⟩ := open_u8 Try.underlying5 o2 r2
  exact snone_walk ep a bs.length cap x hx (by omega) W
end Go.Proofs.Ytnadknmammjfiaa
