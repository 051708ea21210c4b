/- ConfigStays out of its arguments as they read. -/
import Derived.Test.YtbbadncdkiganaaKstay
import Derived.Test.YtbbadncdkiganaaKstan
import Derived.Test.YtbbadncdkiganaaKopn
namespace Go.Proofs.Ytbbadncdkiganaa
open Go.RowKit
set_option linter.unusedVariables false
set_option maxRecDepth 4000
theorem configStays_call {H : Type} (enc : TypeId × Value → H) (W : World) (base : Nat) (v0 v1 v2 : Value) (o0 : Value.okWide Try.prog W .any base 26 v0) (o1 : Value.okWide Try.prog W .any base 37 v1) (o2 : Value.okWide Try.prog W .any base 3 v2) {d0 d1 d2 : DataW H} {p0 p1 p2 : List MemPlace}
    (r0 : DataW.Trod enc Try.prog W 0 (fun _ => true) true 26 v0 d0 p0) (r1 : DataW.Trod enc Try.prog W 0 (fun _ => true) true 37 v1 d1 p1) (r2 : DataW.Trod enc Try.prog W 0 (fun _ => true) true 3 v2 d2 p2) :
    Calls Try.prog 5 #[v0, v1, v2] W fun e w' => e = .returned (.bool true) ∧ Below W.heap.size W w' := by
  obtain ⟨c, Ap, Av, As, cp, cv, cs, rfl, hL, hM, hA⟩ := open_cfg o0 r0
  obtain ⟨A, l, ce, rfl, hlc, hce, hE, hEm⟩ := open_eds o1 r1
  obtain ⟨cut, rfl, h1, h2⟩ := open_int64 Try.underlying3 o2 r2
  by_cases hf : c.ports.length ≤ 20 ∧ c.vlans.length ≤ 40 ∧ c.stats.length ≤ 40
  · by_cases h32 : l.length ≤ 32
    · cases A with
      | some x => exact stays_a c l cut ⟨h1, h2⟩ Ap Av As x cp cv cs ce hL hM W hA hE hEm hlc hce hf h32
      | none =>
        have hl : l = [] := by
          cases l with
          | nil => rfl
          | cons e t =>
            obtain ⟨b, off, h, _⟩ := hE (by simp [flE, encE])
            cases h
        subst hl
        exact stays_n c cut ⟨h1, h2⟩ Ap Av As cp cv cs ce hL hM W hA hce hf
    · exact stays_no c l.length cut Ap Av As A cp cv cs ce W (.inr (by omega))
  · exact stays_no c l.length cut Ap Av As A cp cv cs ce W (.inl hf)
end Go.Proofs.Ytbbadncdkiganaa
