/- SectorSafe out of its arguments as they read. -/
import Derived.Test.YtcakiohpkebmpaaSafeW
import Derived.Test.YtcakiohpkebmpaaSafeN
namespace Go.Proofs.Ytcakiohpkebmpaa
open Go.RowKit
set_option linter.unusedVariables false

theorem sectorSafe_call {H : Type} (enc : TypeId × Value → H) (W : World) (base : Nat) (v0 v1 v2 : Value)
    (o0 : Value.okWide Try.prog W .any base 22 v0) (o1 : Value.okWide Try.prog W .any base 22 v1) (o2 : Value.okWide Try.prog W .any base 32 v2)
    {d0 d1 d2 : DataW H} {p0 p1 p2 : List MemPlace}
    (r0 : DataW.Trod enc Try.prog W 0 (fun _ => true) true 22 v0 d0 p0) (r1 : DataW.Trod enc Try.prog W 0 (fun _ => true) true 22 v1 d1 p1) (r2 : DataW.Trod enc Try.prog W 0 (fun _ => true) true 32 v2 d2 p2) :
    Calls Try.prog 4 #[v0, v1, v2] W fun e w' => e = .returned (.bool true) ∧ Below W.heap.size W w' := by
  obtain ⟨a, l, cap, rfl, hc, hm, hok, hA⟩ := open_steps o0 r0
  obtain ⟨a', l', cap', rfl, hc', hm', hok', hA'⟩ := open_steps o1 r1
  obtain ⟨ka, K, kc, rfl, hkc, hkm, hK⟩ := open_keep Try.underlying32 Try.underlying4 (by kernel_rfl) o2 r2
  cases hf : fairL l with
  | false => exact safe_no a l cap a' l' cap' ka K kc W hA hok (by omega) hA' hok' (by omega) (by omega) (.inl hf)
  | true =>
    cases hf' : fairL l' with
    | false => exact safe_no a l cap a' l' cap' ka K kc W hA hok (by omega) hA' hok' (by omega) (by omega) (.inr (.inl ⟨hf, hf'⟩))
    | true =>
      by_cases h5 : 500 < K.length
      · exact safe_no a l cap a' l' cap' ka K kc W hA hok (by omega) hA' hok' (by omega) (by omega) (.inr (.inr ⟨hf, hf', h5⟩))
      · exact safe_walk a l cap a' l' cap' ka K kc W hA hok (by omega) hA' hok' (by omega) hf hf' hK (by omega)
end Go.Proofs.Ytcakiohpkebmpaa
