/- MacBack out of its arguments. -/
import Derived.Test.YtlnffmppkkkhjaaBak
import Derived.Test.YtlnffmppkkkhjaaOpn
import Derived.ChangeMaps5
namespace Go.Proofs.Ytlnffmppkkkhjaa
open Go.RowKit
open Go.ChangeMaps (open_string)
theorem macBack_call {H : Type} (enc : TypeId × Value → H) (W : World) (base : Nat) (v0 v1 v2 : Value) (o0 : Value.okWide Try.prog W .any base 22 v0) (o1 : Value.okWide Try.prog W .any base 22 v1) (o2 : Value.okWide Try.prog W .any base 9 v2) {d0 d1 d2 : DataW H} {p0 p1 p2 : List MemPlace}
    (r0 : DataW.Trod enc Try.prog W 0 (fun _ => true) true 22 v0 d0 p0) (r1 : DataW.Trod enc Try.prog W 0 (fun _ => true) true 22 v1 d1 p1) (r2 : DataW.Trod enc Try.prog W 0 (fun _ => true) true 9 v2 d2 p2) :
    Calls Try.prog 4 #[v0, v1, v2] W fun e w' => e = .returned (.bool true) ∧ Below W.heap.size W w' := by
  obtain ⟨a, rfl, ha⟩ := open_u64 Try.underlying22 o0 r0
  obtain ⟨b, rfl, hb⟩ := open_u64 Try.underlying22 o1 r1
  obtain ⟨s, rfl, _, _, _⟩ := open_string Try.underlying9 o2 r2
  exact back_any a b s ha hb W
end Go.Proofs.Ytlnffmppkkkhjaa
