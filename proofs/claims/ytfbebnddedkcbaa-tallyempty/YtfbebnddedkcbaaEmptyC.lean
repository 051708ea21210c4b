/- TallyEmpty out of its arguments as they read. -/
import Derived.Test.YtfbebnddedkcbaaEmptyW
import Derived.Test.YtfbebnddedkcbaaOpen2
namespace Go.Proofs.Ytfbebnddedkcbaa
open Go.RowKit
set_option linter.unusedVariables false

theorem tallyEmpty_call {H : Type} (enc : TypeId × Value → H) (W : World) (base : Nat) (v0 v1 : Value)
    (o0 : Value.okWide Try.prog W .any base 22 v0) (o1 : Value.okWide Try.prog W .any base 5 v1)
    {d0 d1 : DataW H} {p0 p1 : List MemPlace}
    (r0 : DataW.Trod enc Try.prog W 0 (fun _ => true) true 22 v0 d0 p0) (r1 : DataW.Trod enc Try.prog W 0 (fun _ => true) true 5 v1 d1 p1) :
    Calls Try.prog 6 #[v0, v1] W fun e w' => e = .returned (.bool true) ∧ Below W.heap.size W w' := by
  obtain ⟨a, pss, cap, rfl, hc, hm, hB, hp, _⟩ := open_parts Try.underlying22 Try.underlying26 Try.underlying5 (by kernel_rfl) (by kernel_rfl) o0 r0
  obtain ⟨v, rfl, hv⟩ := open_u8 Try.underlying5 o1 r1
  cases hf : fairB pss with
  | false => exact empty_no a pss cap v W hp hB (by omega) hf
  | true => exact empty_walk a pss cap v hv W hp hB (by omega) hf
end Go.Proofs.Ytfbebnddedkcbaa
