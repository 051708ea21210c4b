/- Arguments opened: a number. -/
import Derived.Test.YtlnffmppkkkhjaaWak
import Derived.ChangeShapes
import Derived.WideShapes
namespace Go.Proofs.Ytlnffmppkkkhjaa
open Go.RowKit Go.ChangeShapes Go.WideShapes
set_option linter.unusedVariables false
variable {H : Type} {enc : TypeId × Value → H} {W : World} {base : Nat}
theorem wf_u64' {x : Int} (h : (Lit.int .u64 x).wf = true) : 0 ≤ x ∧ x ≤ 18446744073709551615 := by simpa [Lit.wf, IntKind.min, IntKind.max, IntKind.signed, IntKind.bits] using h
theorem open_u64 {t : TypeId} {v : Value} {d : DataW H} {p : List MemPlace} (ht : Try.prog.underlying t = some (.int .u64)) (o : Value.okWide Try.prog W .any base t v) (r : DataW.Trod enc Try.prog W 0 (fun _ => true) true t v d p) :
    ∃ x : Nat, v = .int .u64 x ∧ x < 18446744073709551616 := by
  obtain ⟨x, rfl, rfl, rfl, wx⟩ := open_int ht o r
  obtain ⟨h1, h2⟩ := wf_u64' wx
  exact ⟨x.toNat, by rw [Int.toNat_of_nonneg h1], by omega⟩
end Go.Proofs.Ytlnffmppkkkhjaa
