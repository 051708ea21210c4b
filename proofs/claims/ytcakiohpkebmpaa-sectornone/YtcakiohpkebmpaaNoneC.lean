/- SectorNone out of its argument as it reads. -/
import Derived.Test.YtcakiohpkebmpaaNoneW
namespace Go.Proofs.Ytcakiohpkebmpaa
open Go.RowKit
set_option linter.unusedVariables false

theorem sectorNone_call {H : Type} (enc : TypeId × Value → H) (W : World) (base : Nat) (v0 : Value)
    (o0 : Value.okWide Try.prog W .any base 34 v0) {d0 : DataW H} {p0 : List MemPlace}
    (r0 : DataW.Trod enc Try.prog W 0 (fun _ => true) true 34 v0 d0 p0) :
    Calls Try.prog 5 #[v0] W fun e w' => e = .returned (.bool true) ∧ Below W.heap.size W w' := by
  obtain ⟨s, ka, kc, rfl, hok, hK, hk⟩ := open_step o0 r0
  exact none_walk s ka kc hok W hK hk
end Go.Proofs.Ytcakiohpkebmpaa
