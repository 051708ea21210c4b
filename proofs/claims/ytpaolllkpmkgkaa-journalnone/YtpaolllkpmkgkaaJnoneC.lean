/- JournalNone out of its argument as it reads. -/
import Derived.Test.YtpaolllkpmkgkaaJnoneW
import Derived.Test.YtpaolllkpmkgkaaJopen
namespace Go.Proofs.Ytpaolllkpmkgkaa
open Go.RowKit
set_option linter.unusedVariables false
set_option maxRecDepth 4000
theorem journalNone_call {H : Type} (enc : TypeId × Value → H) (W : World) (base : Nat) (v0 : Value) (o0 : Value.okWide Try.prog W .any base 63 v0) {d0 : DataW H} {p0 : List MemPlace}
    (r0 : DataW.Trod enc Try.prog W 0 (fun _ => true) true 63 v0 d0 p0) :
    Calls Try.prog 7 #[v0] W fun e w' => e = .returned (.bool true) ∧ Below W.heap.size W w' := by
  obtain ⟨k, a, pss, cap, ep, rfl, hk, he, hc, hm, hB, hA⟩ := open_stp o0 r0
  exact jnone_walk k ep a pss cap W hA (by omega) (fun p hp => (hB p hp).2)
end Go.Proofs.Ytpaolllkpmkgkaa
