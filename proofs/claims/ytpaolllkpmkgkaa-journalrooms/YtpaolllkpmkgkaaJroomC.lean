/- JournalRooms out of its arguments as they read. -/
import Derived.Test.YtpaolllkpmkgkaaJroomW
import Derived.Test.YtpaolllkpmkgkaaJopen
namespace Go.Proofs.Ytpaolllkpmkgkaa
open Go.RowKit
set_option linter.unusedVariables false
set_option maxRecDepth 4000
theorem journalRooms_call {H : Type} (enc : TypeId × Value → H) (W : World) (base : Nat) (v0 v1 : Value) (o0 : Value.okWide Try.prog W .any base 61 v0) (o1 : Value.okWide Try.prog W .any base 5 v1) {d0 d1 : DataW H} {p0 p1 : List MemPlace}
    (r0 : DataW.Trod enc Try.prog W 0 (fun _ => true) true 61 v0 d0 p0) (r1 : DataW.Trod enc Try.prog W 0 (fun _ => true) true 5 v1 d1 p1) :
    Calls Try.prog 8 #[v0, v1] W fun e w' => e = .returned (.bool true) ∧ Below W.heap.size W w' := by
  obtain ⟨a, pss, cap, rfl, hc, hm, hB, hA⟩ := open_lists o0 r0
  obtain ⟨x, rfl, hx⟩ := open_u8 Try.underlying5 o1 r1
  by_cases h : 60 < pss.length
  · exact jroom_no a pss.length cap x h (by omega) W
  · exact jroom_walk a pss cap x hx W hA (by omega) hB
end Go.Proofs.Ytpaolllkpmkgkaa
