/- MacKinds out of its argument. -/
import Derived.Test.YtlnffmppkkkhjaaKin
import Derived.Test.YtlnffmppkkkhjaaOpn
namespace Go.Proofs.Ytlnffmppkkkhjaa
open Go.RowKit
theorem macKinds_call {H : Type} (enc : TypeId × Value → H) (W : World) (base : Nat) (v0 : Value) (o0 : Value.okWide Try.prog W .any base 22 v0) {d0 : DataW H} {p0 : List MemPlace}
    (r0 : DataW.Trod enc Try.prog W 0 (fun _ => true) true 22 v0 d0 p0) :
    Calls Try.prog 5 #[v0] W fun e w' => e = .returned (.bool true) ∧ Below W.heap.size W w' := by
  obtain ⟨a, rfl, ha⟩ := open_u64 Try.underlying22 o0 r0
  exact kinds_any a ha W
end Go.Proofs.Ytlnffmppkkkhjaa
