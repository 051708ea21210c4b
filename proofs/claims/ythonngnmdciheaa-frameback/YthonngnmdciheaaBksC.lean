/- FrameBack out of its arguments. -/
import Derived.Test.YthonngnmdciheaaBk2
import Derived.Test.YthonngnmdciheaaBk3
import Derived.Test.YthonngnmdciheaaOpn
namespace Go.Proofs.Ythonngnmdciheaa
open Go.RowKit
set_option linter.unusedVariables false
theorem frameBack_call {H : Type} (enc : TypeId × Value → H) (W : World) (base : Nat) (v0 v1 v2 : Value) (o0 : Value.okWide Try.prog W .any base 25 v0) (o1 : Value.okWide Try.prog W .any base 23 v1) (o2 : Value.okWide Try.prog W .any base 44 v2) {d0 d1 d2 : DataW H} {p0 p1 p2 : List MemPlace}
    (r0 : DataW.Trod enc Try.prog W 0 (fun _ => true) true 25 v0 d0 p0) (r1 : DataW.Trod enc Try.prog W 0 (fun _ => true) true 23 v1 d1 p1) (r2 : DataW.Trod enc Try.prog W 0 (fun _ => true) true 44 v2 d2 p2) :
    Calls Try.prog 5 #[v0, v1, v2] W fun e w' => e = .returned (.bool true) ∧ Below W.heap.size W w' := by
  obtain ⟨f, A, c, rfl, hf, hA⟩ := open_fr o0 r0
  obtain ⟨X, bs, cx, rfl, h1, h2, hX, hx⟩ := open_bytes o1 r1
  obtain ⟨u, rfl, hu⟩ := open_u16 Try.underlying44 o2 r2
  by_cases h : f.bs.length ≤ 2000 ∧ bs.length ≤ 2000
  · obtain ⟨hl, hn⟩ := h
    have hp : (parsN bs = (fr0, 11)) ∨ (parsN bs = (parF bs, 0) ∧ goodF (parF bs) = true ∧ encB (parF bs) = bs ∧ (parF bs).Fit) := by
      by_cases h3 : bs.length < 14 ∨ (mkB bs = true ∧ bs.length < 18)
      · exact .inl (if_pos h3)
      · cases hg : goodF (parF bs) with
        | false => left; unfold parsN; rw [if_neg h3, if_neg (by rw [hg]; decide)]
        | true => right; exact ⟨by unfold parsN; rw [if_neg h3, if_pos hg], rfl, enc_pars bs hx h3, parF_fit bs hx (by omega) (by omega)⟩
    cases hg : goodF f with
    | true =>
      rcases hp with hp | ⟨hp, h4, h5, h6⟩
      · by_cases hb : f.bs.length ≤ 1500
        · exact back_3 f hf A c X bs cx u W hu hA hl hX hx hn h1 h2 fr0 hg hp hb
        · exact back_4 f hf A c X bs cx u W hu hA hl hX hx hn h1 h2 fr0 hg hp hb
      · by_cases hb : f.bs.length ≤ 1500
        · exact back_1 f hf A c X bs cx u W hu hA hl hX hx hn h1 h2 _ hg hp h4 h5 h6 hb
        · exact back_2 f hf A c X bs cx u W hu hA hl hX hx hn h1 h2 _ hg hp h4 h5 h6 hb
    | false =>
      rcases hp with hp | ⟨hp, h4, h5, h6⟩
      · exact back_6 f hf A c X bs cx u W hu hA hl hX hx hn h1 h2 fr0 hg hp
      · exact back_5 f hf A c X bs cx u W hu hA hl hX hx hn h1 h2 _ hg hp h4 h5 h6
  · exact back_no f A c X bs.length cx u W (by omega)
end Go.Proofs.Ythonngnmdciheaa
