/- TallySums out of its arguments as they read. -/
import Derived.Test.YtfbebnddedkcbaaSumsW
import Derived.Test.YtfbebnddedkcbaaOpen2
namespace Go.Proofs.Ytfbebnddedkcbaa
open Go.RowKit
set_option linter.unusedVariables false

theorem tallySums_call {H : Type} (enc : TypeId × Value → H) (W : World) (base : Nat) (v0 v1 : Value)
    (o0 : Value.okWide Try.prog W .any base 22 v0) (o1 : Value.okWide Try.prog W .any base 23 v1)
    {d0 d1 : DataW H} {p0 p1 : List MemPlace}
    (r0 : DataW.Trod enc Try.prog W 0 (fun _ => true) true 22 v0 d0 p0) (r1 : DataW.Trod enc Try.prog W 0 (fun _ => true) true 23 v1 d1 p1) :
    Calls Try.prog 3 #[v0, v1] W fun e w' => e = .returned (.bool true) ∧ Below W.heap.size W w' := by
  obtain ⟨a, pss, cap, rfl, hc, hm, hB, hp, _⟩ := open_parts Try.underlying22 Try.underlying26 Try.underlying5 (by kernel_rfl) (by kernel_rfl) o0 r0
  obtain ⟨s, rfl, hs⟩ := open_u32 Try.underlying23 o1 r1
  cases hf : fairB pss with
  | false => exact sums_no a pss cap s W hp hB (by omega) hf
  | true => exact sums_walk a pss cap s hs W hp hB (by omega) hf
end Go.Proofs.Ytfbebnddedkcbaa
