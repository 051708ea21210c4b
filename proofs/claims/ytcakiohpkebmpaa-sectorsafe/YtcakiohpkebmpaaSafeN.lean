/- SectorSafe where the arguments are too great. -/
import Derived.Test.YtcakiohpkebmpaaSafeM
namespace Go.Proofs.Ytcakiohpkebmpaa
open Go.RowKit
set_option linter.unusedVariables false

set_option maxHeartbeats 400000 in
theorem safe_no (A : Option Addr) (l : List Stp) (cap : Nat) (A' : Option Addr) (l' : List Stp) (cap' : Nat) (ka : Option Addr) (K : List Bool) (kc : Nat) (w : World) (hA : StepsA w A l) (hok : ∀ x ∈ l, x.ok) (hl : l.length ≤ maxLen) (hA' : StepsA w A' l') (hok' : ∀ x ∈ l', x.ok) (hl' : l'.length ≤ maxLen) (hkl : K.length ≤ maxLen)
    (hf : fairL l = false ∨ (fairL l = true ∧ fairL l' = false) ∨ (fairL l = true ∧ fairL l' = true ∧ 500 < K.length)) :
    Calls Try.prog 4 #[.slice A l.length cap, .slice A' l'.length cap', .slice ka K.length kc] w fun e w' => e = .returned (.bool true) ∧ Below w.heap.size w w' := by
  have hml : maxLen = 9223372036854775807 := rfl
  rw [hml] at hkl
  have HA := hide hA
  have HO := hide hok
  have HL := hide hl
  have HA' := hide hA'
  have HO' := hide hok'
  have HL' := hide hl'
  clear hml hA hok hl hA' hok' hl'
  rcases hf with hf | ⟨hf, hf'⟩ | ⟨hf, hf', h5⟩
  · have HF := hide hf
    clear hf
    go_enter Try.func4, Try.ntmps4
    go_wp2_with fail
    refine (new_yes 8 (by omega) (by omega) _).mono ?_
    rintro e w1 ⟨g, gs, rfl, _, hb1⟩
    have F := hide (fair_any A l cap w1 (steps_below (unhide HA) hb1) (unhide HO) (unhide HL))
    rw [unhide HF] at F
    go_wp2_with fail
    refine (unhide F).mono ?_
    rintro e w2 ⟨rfl, rfl⟩
    go_wp2_with fail
    refine (wakes_any _).mono ?_
    rintro e w3 ⟨rfl, hb3⟩
    go_wp2
    go_ret
    exact ⟨rfl, below_then hb1 hb3⟩
  · have HF := hide hf
    have HF' := hide hf'
    clear hf hf'
    go_enter Try.func4, Try.ntmps4
    go_wp2_with fail
    refine (new_yes 8 (by omega) (by omega) _).mono ?_
    rintro e w1 ⟨g, gs, rfl, _, hb1⟩
    have F := hide (fair_any A l cap w1 (steps_below (unhide HA) hb1) (unhide HO) (unhide HL))
    rw [unhide HF] at F
    have F' := hide (fair_any A' l' cap' w1 (steps_below (unhide HA') hb1) (unhide HO') (unhide HL'))
    rw [unhide HF'] at F'
    go_wp2_with fail
    refine (unhide F).mono ?_
    rintro e w2 ⟨rfl, rfl⟩
    go_wp2_with fail
    refine (unhide F').mono ?_
    rintro e w2 ⟨rfl, rfl⟩
    go_wp2_with fail
    refine (wakes_any _).mono ?_
    rintro e w3 ⟨rfl, hb3⟩
    go_wp2
    go_ret
    exact ⟨rfl, below_then hb1 hb3⟩
  · have HF := hide hf
    have HF' := hide hf'
    have h5' : (500 : Int) < (K.length : Int) := by omega
    clear hf hf'
    go_enter Try.func4, Try.ntmps4
    go_wp2_with fail
    refine (new_yes 8 (by omega) (by omega) _).mono ?_
    rintro e w1 ⟨g, gs, rfl, _, hb1⟩
    have F := hide (fair_any A l cap w1 (steps_below (unhide HA) hb1) (unhide HO) (unhide HL))
    rw [unhide HF] at F
    have F' := hide (fair_any A' l' cap' w1 (steps_below (unhide HA') hb1) (unhide HO') (unhide HL'))
    rw [unhide HF'] at F'
    go_wp2_with fail
    refine (unhide F).mono ?_
    rintro e w2 ⟨rfl, rfl⟩
    go_wp2_with fail
    refine (unhide F').mono ?_
    rintro e w2 ⟨rfl, rfl⟩
    go_wp2_with fail
    refine (wakes_any _).mono ?_
    rintro e w3 ⟨rfl, hb3⟩
    go_wp2
    go_ret
    exact ⟨rfl, below_then hb1 hb3⟩
end Go.Proofs.Ytcakiohpkebmpaa
