/- EntryNeeds out of its argument as it reads. -/
import Derived.Test.YtfpbbedgadmbdaaNeedsW
import Derived.Test.YtfpbbedgadmbdaaOpen
namespace Go.Proofs.Ytfpbbedgadmbdaa
open Go.RowKit Go.ChangeShapes Go.WideShapes
set_option linter.unusedVariables false
theorem open_i64 {H : Type} {enc : TypeId × Value → H} {P : Program} {W : World} {base : Nat} {t : TypeId} {v : Value} {d : DataW H} {p : List MemPlace} (ht : P.underlying t = some (.int .i64)) (o : Value.okWide P W .any base t v) (r : DataW.Trod enc P W 0 (fun _ => true) true t v d p) :
    ∃ x, v = .int .i64 x ∧ -9223372036854775808 ≤ x ∧ x ≤ 9223372036854775807 := by
  obtain ⟨x, rfl, rfl, rfl, wx⟩ := open_int ht o r
  exact ⟨x, rfl, wf_i64 wx⟩
theorem entryNeeds_call {H : Type} (enc : TypeId × Value → H) (W : World) (base : Nat) (v0 : Value) (o0 : Value.okWide Try.prog W .any base 3 v0) {d0 : DataW H} {p0 : List MemPlace} (r0 : DataW.Trod enc Try.prog W 0 (fun _ => true) true 3 v0 d0 p0) :
    Calls Try.prog 6 #[v0] W fun e w' => e = .returned (.bool true) ∧ Below W.heap.size W w' := by
  obtain ⟨x, rfl, h⟩ := open_i64 Try.underlying3 o0 r0
  exact needs_walk x h W
end Go.Proofs.Ytfpbbedgadmbdaa
