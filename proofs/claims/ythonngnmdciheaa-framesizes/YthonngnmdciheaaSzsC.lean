/- FrameSizes out of its arguments. -/
import Derived.Test.YthonngnmdciheaaSzs
import Derived.Test.YthonngnmdciheaaOpn
namespace Go.Proofs.Ythonngnmdciheaa
open Go.RowKit
set_option linter.unusedVariables false
theorem frameSizes_call {H : Type} (enc : TypeId × Value → H) (W : World) (base : Nat) (v0 v1 : Value) (o0 : Value.okWide Try.prog W .any base 25 v0) (o1 : Value.okWide Try.prog W .any base 23 v1) {d0 d1 : DataW H} {p0 p1 : List MemPlace}
    (r0 : DataW.Trod enc Try.prog W 0 (fun _ => true) true 25 v0 d0 p0) (r1 : DataW.Trod enc Try.prog W 0 (fun _ => true) true 23 v1 d1 p1) :
    Calls Try.prog 6 #[v0, v1] W fun e w' => e = .returned (.bool true) ∧ Below W.heap.size W w' := by
  obtain ⟨f, A, c, rfl, hf, hA⟩ := open_fr o0 r0
  obtain ⟨X, bs, cx, rfl, h1, h2, hX, hx⟩ := open_bytes o1 r1
  by_cases h : f.bs.length ≤ 2000 ∧ bs.length ≤ 100
  · cases hg : goodF f with
    | false => exact sizes_ref f hf hg A c X bs.length cx W h.1 h.2
    | true =>
      cases ht : f.tag with
      | true =>
        by_cases hc : f.bs.length + bs.length ≤ 1518 - 18
        · have := sizes_t_in f hf hg ht A c X bs cx W hA hX hx h.2 hc; rw [ht] at this; exact this
        · have := sizes_t_over f hf hg ht A c X bs cx W hA hX hx h.2 hc; rw [ht] at this; exact this
      | false =>
        by_cases hc : f.bs.length + bs.length ≤ 1518 - 14
        · have := sizes_f_in f hf hg ht A c X bs cx W hA hX hx h.2 hc; rw [ht] at this; exact this
        · have := sizes_f_over f hf hg ht A c X bs cx W hA hX hx h.2 hc; rw [ht] at this; exact this
  · exact sizes_no f A c X bs.length cx W (by omega)
end Go.Proofs.Ythonngnmdciheaa
