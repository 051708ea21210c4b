/- JournalEpochs out of its arguments as they read. -/
import Derived.Test.YtpaolllkpmkgkabJepoW
import Derived.Test.YtpaolllkpmkgkabJopen
namespace Go.Proofs.Ytpaolllkpmkgkab
open Go.RowKit Go.ChangeShapes Go.WideShapes
set_option linter.unusedVariables false
set_option maxRecDepth 4000
theorem open_byts {H : Type} {enc : TypeId × Value → H} {W : World} {base : Nat} {v : Value} {d : DataW H} {p : List MemPlace} (o : Value.okWide Try.prog W .any base 23 v) (r : DataW.Trod enc Try.prog W 0 (fun _ => true) true 23 v d p) :
    ∃ a bs cap, v = .slice a bs.length cap ∧ bs.length ≤ cap ∧ cap ≤ maxLen ∧ Byt bs ∧ BysA W a bs := by
  obtain ⟨a0, len0, cap0, rfl⟩ := okWide_slice Try.underlying23 o
  obtain ⟨fuel, hf⟩ := r
  obtain ⟨a, bs, cap, h1, h2, h3, h4, h5, _⟩ := bytes_cells Try.underlying23 Try.underlying5 (by kernel_rfl) (by simpa [Value.cells] using hf) (fun _ => rfl)
  exact ⟨a, bs, cap, h1, h2, h3, h4, h5⟩
theorem journalEpochs_call {H : Type} (enc : TypeId × Value → H) (W : World) (base : Nat) (v0 v1 : Value) (o0 : Value.okWide Try.prog W .any base 22 v0) (o1 : Value.okWide Try.prog W .any base 23 v1) {d0 d1 : DataW H} {p0 p1 : List MemPlace}
    (r0 : DataW.Trod enc Try.prog W 0 (fun _ => true) true 22 v0 d0 p0) (r1 : DataW.Trod enc Try.prog W 0 (fun _ => true) true 23 v1 d1 p1) :
    Calls Try.prog 3 #[v0, v1] W fun e w' => e = .returned (.bool true) ∧ Below W.heap.size W w' := by
  obtain ⟨a, pss, cap, rfl, hc, hm, hB, hA⟩ := open_lists o0 r0
  obtain ⟨a2, bs, c2, rfl, hc2, hm2, hB2, hA2⟩ := open_byts o1 r1
  by_cases h : 10 < pss.length ∨ 300 < bs.length
  · exact jepo_no a a2 pss.length cap bs.length c2 h (by omega) (by omega) W
  · exact jepo_walk a a2 pss cap c2 bs W hA (by omega) hB hA2 hB2 (by omega)
end Go.Proofs.Ytpaolllkpmkgkab
