/- ConfigOwn out of its argument as it reads. -/
import Derived.Test.YtbbadncdkiganaaKown
import Derived.Test.YtbbadncdkiganaaKopn
namespace Go.Proofs.Ytbbadncdkiganaa
open Go.RowKit
set_option linter.unusedVariables false
set_option maxRecDepth 4000
theorem configOwn_call {H : Type} (enc : TypeId × Value → H) (W : World) (base : Nat) (v0 : Value) (o0 : Value.okWide Try.prog W .any base 26 v0) {d0 : DataW H} {p0 : List MemPlace}
    (r0 : DataW.Trod enc Try.prog W 0 (fun _ => true) true 26 v0 d0 p0) :
    Calls Try.prog 6 #[v0] W fun e w' => e = .returned (.bool true) ∧ Below W.heap.size W w' := by
  obtain ⟨c, Ap, Av, As, cp, cv, cs, rfl, hL, hM, hA⟩ := open_cfg o0 r0
  by_cases h : (c.ports.length ≤ 20 ∧ c.vlans.length ≤ 40 ∧ c.stats.length ≤ 40) ∧ goodB c = true
  · exact cown_yes c Ap Av As cp cv cs hL hM W hA h.1 h.2
  · exact cown_no c Ap Av As cp cv cs hM W hA h
end Go.Proofs.Ytbbadncdkiganaa
