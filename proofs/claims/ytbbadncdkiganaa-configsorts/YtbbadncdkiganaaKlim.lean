/- ConfigLimits: its numbers. -/
import Derived.Test.YtbbadncdkiganaaKwak
namespace Go.Proofs.Ytbbadncdkiganaa
open Go.RowKit
set_option linter.unusedVariables false
set_option maxRecDepth 4000

def lims (i : Nat) : List Ed := (List.range i).map (fun j : Nat => (⟨7, 0, 0, 2 + (j : Int), 1, 0, 0⟩ : Ed))
theorem lims_next (i : Nat) : lims (i + 1) = lims i ++ [⟨7, 0, 0, 2 + (i : Int), 1, 0, 0⟩] := by unfold lims; rw [List.range_succ, List.map_append]; rfl
theorem lims_len (i : Nat) : (lims i).length = i := by simp [lims]
theorem lim_a : ∀ q : Fin 8, ∀ m : Fin 16, editE (firstC (q.val + 1)) (lims m.val) = 0 ∧ (editC (firstC (q.val + 1)) (lims m.val)).vlans.length = m.val + 1 := by decide +kernel
theorem lim_b : ∀ q : Fin 8, ∀ m : Fin 17, editE (firstC (q.val + 1)) (lims (m.val + 16)) = 14 := by decide +kernel
theorem lim_c : ∀ q : Fin 8, ∀ m : Fin 7, editE (firstC (q.val + 1)) (lims (m.val + 33)) = 3 := by decide +kernel
theorem lim_g : ∀ q : Fin 8, editE (firstC (q.val + 1)) [⟨8, 0, 0, 1, 0, 0, 0⟩] = 14 ∧ editE (firstC (q.val + 1)) [⟨8, 0, 0, 2, 0, 0, 0⟩] = 13 ∧ editE (firstC (q.val + 1)) [⟨5, 1 + (q.val : Int), 5, 0, 0, 0, 0⟩] = 1 ∧ editE (firstC (q.val + 1)) [⟨5, 0, 0, 0, 0, 0, 0⟩] = 14 := by decide +kernel
end Go.Proofs.Ytbbadncdkiganaa
