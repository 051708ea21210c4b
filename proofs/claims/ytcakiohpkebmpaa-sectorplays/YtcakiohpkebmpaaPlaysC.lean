/- SectorPlays out of its arguments as they read. -/
import Derived.Test.YtcakiohpkebmpaaPlaysW
namespace Go.Proofs.Ytcakiohpkebmpaa
open Go.RowKit
set_option linter.unusedVariables false

theorem sectorPlays_call {H : Type} (enc : TypeId × Value → H) (W : World) (base : Nat) (v0 v1 : Value)
    (o0 : Value.okWide Try.prog W .any base 3 v0) (o1 : Value.okWide Try.prog W .any base 22 v1)
    {d0 d1 : DataW H} {p0 p1 : List MemPlace}
    (r0 : DataW.Trod enc Try.prog W 0 (fun _ => true) true 3 v0 d0 p0) (r1 : DataW.Trod enc Try.prog W 0 (fun _ => true) true 22 v1 d1 p1) :
    Calls Try.prog 3 #[v0, v1] W fun e w' => e = .returned (.bool true) ∧ Below W.heap.size W w' := by
  obtain ⟨n, rfl, hn1, hn2⟩ := open_i64 Try.underlying3 o0 r0
  obtain ⟨a, l, cap, rfl, hc, hm, hok, hA⟩ := open_steps o1 r1
  cases hf : fairL l with
  | false => exact plays_no n a l cap W hA hok (by omega) hf
  | true =>
    by_cases hn : n < 1 ∨ 4096 < n
    · exact plays_none n hn a l cap W hA hok (by omega) hf
    · obtain ⟨m, rfl⟩ : ∃ m : Nat, n = (m : Int) := ⟨n.toNat, by omega⟩
      exact plays_walk m (by omega) (by omega) a l cap W hA hok (by omega) hf
end Go.Proofs.Ytcakiohpkebmpaa
