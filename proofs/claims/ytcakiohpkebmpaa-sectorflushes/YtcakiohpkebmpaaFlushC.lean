/- SectorFlushes out of its arguments as they read. -/
import Derived.Test.YtcakiohpkebmpaaFlushW
namespace Go.Proofs.Ytcakiohpkebmpaa
open Go.RowKit
set_option linter.unusedVariables false

theorem sectorFlushes_call {H : Type} (enc : TypeId × Value → H) (W : World) (base : Nat) (v0 v1 : Value)
    (o0 : Value.okWide Try.prog W .any base 22 v0) (o1 : Value.okWide Try.prog W .any base 32 v1)
    {d0 d1 : DataW H} {p0 p1 : List MemPlace}
    (r0 : DataW.Trod enc Try.prog W 0 (fun _ => true) true 22 v0 d0 p0) (r1 : DataW.Trod enc Try.prog W 0 (fun _ => true) true 32 v1 d1 p1) :
    Calls Try.prog 7 #[v0, v1] W fun e w' => e = .returned (.bool true) ∧ Below W.heap.size W w' := by
  obtain ⟨a, l, cap, rfl, hc, hm, hok, hA⟩ := open_steps o0 r0
  obtain ⟨ka, K, kc, rfl, hkc, hkm, hK⟩ := open_keep Try.underlying32 Try.underlying4 (by kernel_rfl) o1 r1
  by_cases h5 : 500 < K.length
  · exact flushes_no a l cap ka K kc W hA hok (by omega) (.inr h5) (by omega)
  · cases hf : fairL l with
    | false => exact flushes_no a l cap ka K kc W hA hok (by omega) (.inl hf) (by omega)
    | true => exact flushes_walk a l cap ka K kc W hA hok (by omega) hf hK (by omega)
end Go.Proofs.Ytcakiohpkebmpaa
