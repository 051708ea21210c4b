/- MacOrder out of its arguments. -/
import Derived.Test.YtlnffmppkkkhjaaOrd
import Derived.Test.YtlnffmppkkkhjaaOpn
namespace Go.Proofs.Ytlnffmppkkkhjaa
open Go.RowKit
theorem macOrder_call {H : Type} (enc : TypeId × Value → H) (W : World) (base : Nat) (v0 v1 : Value) (o0 : Value.okWide Try.prog W .any base 22 v0) (o1 : Value.okWide Try.prog W .any base 22 v1) {d0 d1 : DataW H} {p0 p1 : List MemPlace}
    (r0 : DataW.Trod enc Try.prog W 0 (fun _ => true) true 22 v0 d0 p0) (r1 : DataW.Trod enc Try.prog W 0 (fun _ => true) true 22 v1 d1 p1) :
    Calls Try.prog 6 #[v0, v1] W fun e w' => e = .returned (.bool true) ∧ Below W.heap.size W w' := by
  obtain ⟨a, rfl, ha⟩ := open_u64 Try.underlying22 o0 r0
  obtain ⟨b, rfl, hb⟩ := open_u64 Try.underlying22 o1 r1
  exact order_any a b ha hb W
end Go.Proofs.Ytlnffmppkkkhjaa
