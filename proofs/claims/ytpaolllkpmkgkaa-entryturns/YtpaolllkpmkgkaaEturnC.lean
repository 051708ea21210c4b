/- EntryTurns out of its arguments as they read. -/
import Derived.Test.YtpaolllkpmkgkaaEturnW
import Derived.Test.YtpaolllkpmkgkaaOpen3
namespace Go.Proofs.Ytpaolllkpmkgkaa
open Go.RowKit Go.ChangeShapes Go.WideShapes
set_option linter.unusedVariables false
set_option maxRecDepth 4000
theorem open_int64 {H : Type} {enc : TypeId × Value → H} {P : Program} {W : World} {base : Nat} {t : TypeId} {v : Value} {d : DataW H} {p : List MemPlace} (ht : P.underlying t = some (.int .i64)) (o : Value.okWide P W .any base t v) (r : DataW.Trod enc P W 0 (fun _ => true) true t v d p) :
    ∃ x, v = .int .i64 x ∧ -9223372036854775808 ≤ x ∧ x ≤ 9223372036854775807 := by
  obtain ⟨x, rfl, rfl, rfl, wx⟩ := open_int ht o r
  exact ⟨x, rfl, wf_i64 wx⟩
theorem entryTurns_call {H : Type} (enc : TypeId × Value → H) (W : World) (base : Nat) (v0 v1 v2 : Value) (o0 : Value.okWide Try.prog W .any base 25 v0) (o1 : Value.okWide Try.prog W .any base 3 v1) (o2 : Value.okWide Try.prog W .any base 5 v2) {d0 d1 d2 : DataW H} {p0 p1 p2 : List MemPlace}
    (r0 : DataW.Trod enc Try.prog W 0 (fun _ => true) true 25 v0 d0 p0) (r1 : DataW.Trod enc Try.prog W 0 (fun _ => true) true 3 v1 d1 p1) (r2 : DataW.Trod enc Try.prog W 0 (fun _ => true) true 5 v2 d2 p2) :
    Calls Try.prog 4 #[v0, v1, v2] W fun e w' => e = .returned (.bool true) ∧ Below W.heap.size W w' := by
  obtain ⟨k, e, s, a, bs, cap, rfl, hk, he, hs, hc, hm, hB, hA⟩ := open_entry o0 r0
  obtain ⟨x, rfl, hx⟩ := open_int64 Try.underlying3 o1 r1
  obtain ⟨y, rfl, hy⟩ := open_u8 Try.underlying5 o2 r2
  by_cases h : 600 < bs.length ∨ y = 0
  · exact eturn_no k e s a bs.length cap x y h (by omega) W
  · exact eturn_walk k e s hk he hs a bs cap x y hx hy (fun h0 => h (.inr h0)) (by omega) W hA hB
end Go.Proofs.Ytpaolllkpmkgkaa
