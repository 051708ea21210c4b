/- TallyTurns out of its arguments as they read. -/
import Derived.Test.YtfbebnddedkcbaaTurnsW
import Derived.Test.YtfbebnddedkcbaaOpen
namespace Go.Proofs.Ytfbebnddedkcbaa
open Go.RowKit
set_option linter.unusedVariables false

theorem tallyTurns_call {H : Type} (enc : TypeId × Value → H) (W : World) (base : Nat) (v0 v1 v2 : Value)
    (o0 : Value.okWide Try.prog W .any base 26 v0) (o1 : Value.okWide Try.prog W .any base 34 v1) (o2 : Value.okWide Try.prog W .any base 5 v2)
    {d0 d1 d2 : DataW H} {p0 p1 p2 : List MemPlace}
    (r0 : DataW.Trod enc Try.prog W 0 (fun _ => true) true 26 v0 d0 p0) (r1 : DataW.Trod enc Try.prog W 0 (fun _ => true) true 34 v1 d1 p1) (r2 : DataW.Trod enc Try.prog W 0 (fun _ => true) true 5 v2 d2 p2) :
    Calls Try.prog 5 #[v0, v1, v2] W fun e w' => e = .returned (.bool true) ∧ Below W.heap.size W w' := by
  obtain ⟨a0, bs, cap0, rfl, hc, hm, hB, hb, _⟩ := open_bytes Try.underlying26 Try.underlying5 (by kernel_rfl) o0 r0
  obtain ⟨n0, n1, rfl, hn0, hn1⟩ := open_ints2 Try.underlying34 Try.underlying3 (by kernel_rfl) (by kernel_rfl) o1 r1
  obtain ⟨v, rfl, hv⟩ := open_u8 Try.underlying5 o2 r2
  by_cases h : 20000 < bs.length ∨ bs.length < 2
  · exact turns_out a0 bs.length cap0 n0 n1 v W h (by omega)
  · obtain ⟨b, off, rfl, _⟩ := hb (by rintro rfl; simp at h)
    exact turns_walk b off bs cap0 n0 n1 v hn0 hn1 hv W hb hB (by omega) (by omega) hc hm
end Go.Proofs.Ytfbebnddedkcbaa
