/- EntryBack out of its arguments as they read. -/
import Derived.Test.YtfpbbedgadmbdaaBackW
import Derived.Test.YtfpbbedgadmbdaaOpen3
namespace Go.Proofs.Ytfpbbedgadmbdaa
open Go.RowKit
set_option linter.unusedVariables false
theorem entryBack_call {H : Type} (enc : TypeId × Value → H) (W : World) (base : Nat) (v0 v1 : Value) (o0 : Value.okWide Try.prog W .any base 25 v0) (o1 : Value.okWide Try.prog W .any base 26 v1) {d0 d1 : DataW H} {p0 p1 : List MemPlace}
    (r0 : DataW.Trod enc Try.prog W 0 (fun _ => true) true 25 v0 d0 p0) (r1 : DataW.Trod enc Try.prog W 0 (fun _ => true) true 26 v1 d1 p1) :
    Calls Try.prog 4 #[v0, v1] W fun e w' => e = .returned (.bool true) ∧ Below W.heap.size W w' := by
  obtain ⟨k, e, s, a, bs, cap, rfl, hk, he, hs, hc, hm, hB, hA⟩ := open_entry o0 r0
  obtain ⟨R, S, rc, rfl, hrc, hrm, hR⟩ := open_secs o1 r1
  by_cases h : 1500 < bs.length ∨ 80 < S.length
  · exact back_no k e s a bs.length cap R S.length rc h (by omega) (by omega) W
  · exact back_walk k e s hk he hs a bs cap R S rc (by omega) (by omega) W hA hB hR
end Go.Proofs.Ytfpbbedgadmbdaa
