/- EntryCodes out of its arguments as they read. -/
import Derived.Test.YtfceileohkngnaaEcodW
import Derived.Test.YtfceileohkngnaaMO
namespace Go.Proofs.Ytfceileohkngnaa
open Go.RowKit Go.ChangeShapes Go.WideShapes
set_option linter.unusedVariables false
set_option maxRecDepth 4000
theorem open_int3 {H : Type} {enc : TypeId × Value → H} {P : Program} {W : World} {base : Nat} {t : TypeId} {v : Value} {d : DataW H} {p : List MemPlace} (ht : P.underlying t = some (.int .i64)) (o : Value.okWide P W .any base t v) (r : DataW.Trod enc P W 0 (fun _ => true) true t v d p) :
    ∃ x, v = .int .i64 x ∧ -9223372036854775808 ≤ x ∧ x ≤ 9223372036854775807 := by
  obtain ⟨x, rfl, rfl, rfl, wx⟩ := open_int ht o r
  exact ⟨x, rfl, wf_i64 wx⟩
theorem entryCodes_call {H : Type} (enc : TypeId × Value → H) (W : World) (base : Nat) (v0 v1 v2 : Value) (o0 : Value.okWide Try.prog W .any base 25 v0) (o1 : Value.okWide Try.prog W .any base 26 v1) (o2 : Value.okWide Try.prog W .any base 3 v2) {d0 d1 d2 : DataW H} {p0 p1 p2 : List MemPlace}
    (r0 : DataW.Trod enc Try.prog W 0 (fun _ => true) true 25 v0 d0 p0) (r1 : DataW.Trod enc Try.prog W 0 (fun _ => true) true 26 v1 d1 p1) (r2 : DataW.Trod enc Try.prog W 0 (fun _ => true) true 3 v2 d2 p2) :
    Calls Try.prog 3 #[v0, v1, v2] W fun e w' => e = .returned (.bool true) ∧ Below W.heap.size W w' := by
  obtain ⟨k, e, s, a, bs, cap, rfl, hk, he, hs, hc, hm, hB, hA⟩ := open_entry o0 r0
  obtain ⟨aS, S, cS, rfl, hcS, hmS, hS⟩ := open_secs o1 r1
  obtain ⟨x, rfl, hx⟩ := open_int3 Try.underlying3 o2 r2
  by_cases h : 5000 < bs.length ∨ 80 < S.length
  · exact ecod_no k e s a bs.length cap aS S.length cS x h (by omega) (by omega) W
  · exact ecod_walk k e s he hs a bs cap aS S cS x hx W hA hB (by omega) hS (by omega)
end Go.Proofs.Ytfceileohkngnaa
