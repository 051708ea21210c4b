/- ConfigUndoes out of its arguments as they read. -/
import Derived.Test.YtbbadncdkiganabKundw
import Derived.Test.YtbbadncdkiganabKopn
import Derived.Test.YtbbadncdkiganabKopen
namespace Go.Proofs.Ytbbadncdkiganab
open Go.RowKit
set_option linter.unusedVariables false
set_option maxRecDepth 4000
theorem wf_u16 {x : Int} (h : (Lit.int .u16 x).wf = true) : 0 ≤ x ∧ x ≤ 65535 := by simpa [Lit.wf, IntKind.min, IntKind.max, IntKind.signed, IntKind.bits] using h
open Go.ChangeShapes Go.WideShapes in
theorem open_u16 {H : Type} {enc : TypeId × Value → H} {P : Program} {W : World} {base : Nat} {t : TypeId} {v : Value} {d : DataW H} {p : List MemPlace} (ht : P.underlying t = some (.int .u16)) (o : Value.okWide P W .any base t v) (r : DataW.Trod enc P W 0 (fun _ => true) true t v d p) :
    ∃ x, v = .int .u16 x ∧ 0 ≤ x ∧ x ≤ 65535 := by
  obtain ⟨x, rfl, rfl, rfl, wx⟩ := open_int ht o r
  exact ⟨x, rfl, wf_u16 wx⟩
theorem configUndoes_call {H : Type} (enc : TypeId × Value → H) (W : World) (base : Nat) (v0 v1 v2 : Value) (o0 : Value.okWide Try.prog W .any base 26 v0) (o1 : Value.okWide Try.prog W .any base 5 v1) (o2 : Value.okWide Try.prog W .any base 27 v2) {d0 d1 d2 : DataW H} {p0 p1 p2 : List MemPlace}
    (r0 : DataW.Trod enc Try.prog W 0 (fun _ => true) true 26 v0 d0 p0) (r1 : DataW.Trod enc Try.prog W 0 (fun _ => true) true 5 v1 d1 p1) (r2 : DataW.Trod enc Try.prog W 0 (fun _ => true) true 27 v2 d2 p2) :
    Calls Try.prog 3 #[v0, v1, v2] W fun e w' => e = .returned (.bool true) ∧ Below W.heap.size W w' := by
  obtain ⟨c, Ap, Av, As, cp, cv, cs, rfl, hL, hM, hA⟩ := open_cfg o0 r0
  obtain ⟨x, rfl, hx⟩ := open_u8 Try.underlying5 o1 r1
  obtain ⟨y, rfl, hy⟩ := open_u16 Try.underlying27 o2 r2
  obtain ⟨p, rfl⟩ : ∃ p : Nat, x = (p : Int) := ⟨x.toNat, by omega⟩
  obtain ⟨n, rfl⟩ : ∃ n : Nat, y = (n : Int) := ⟨y.toNat, by omega⟩
  by_cases h : (c.ports.length ≤ 20 ∧ c.vlans.length ≤ 40 ∧ c.stats.length ≤ 40) ∧ goodB c = true
  · exact und_yes c p n (by omega) (by omega) Ap Av As cp cv cs hL hM W hA h.1 h.2
  · exact und_no c p n Ap Av As cp cv cs hM W hA h
end Go.Proofs.Ytbbadncdkiganab
