/- SectorLast out of its arguments as they read. -/
import Derived.Test.YtcakiohpkebmpaaLastW
namespace Go.Proofs.Ytcakiohpkebmpaa
open Go.RowKit
set_option linter.unusedVariables false

theorem sectorLast_call {H : Type} (enc : TypeId × Value → H) (W : World) (base : Nat) (v0 v1 v2 : Value)
    (o0 : Value.okWide Try.prog W .any base 22 v0) (o1 : Value.okWide Try.prog W .any base 32 v1) (o2 : Value.okWide Try.prog W .any base 5 v2)
    {d0 d1 d2 : DataW H} {p0 p1 p2 : List MemPlace}
    (r0 : DataW.Trod enc Try.prog W 0 (fun _ => true) true 22 v0 d0 p0) (r1 : DataW.Trod enc Try.prog W 0 (fun _ => true) true 32 v1 d1 p1) (r2 : DataW.Trod enc Try.prog W 0 (fun _ => true) true 5 v2 d2 p2) :
    Calls Try.prog 6 #[v0, v1, v2] W fun e w' => e = .returned (.bool true) ∧ Below W.heap.size W w' := by
  obtain ⟨a, l, cap, rfl, hc, hm, hok, hA⟩ := open_steps o0 r0
  obtain ⟨ka, K, kc, rfl, hkc, hkm, hK⟩ := open_keep Try.underlying32 Try.underlying4 (by kernel_rfl) o1 r1
  obtain ⟨v, rfl, hv⟩ := open_u8 Try.underlying5 o2 r2
  by_cases h5 : 500 < K.length
  · exact last_no a l cap ka K kc v W hA hok (by omega) (.inr h5) (by omega)
  · cases hf : fairL l with
    | false => exact last_no a l cap ka K kc v W hA hok (by omega) (.inl hf) (by omega)
    | true => exact last_walk a l cap ka K kc v hv W hA hok (by omega) hf hK (by omega)
end Go.Proofs.Ytcakiohpkebmpaa
