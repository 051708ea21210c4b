/- Contract of sectors: what is read of a place. -/
import Derived.Test.YtnadknmammjfiaaJneed
namespace Go.Proofs.Ytnadknmammjfiaa
open Go.RowKit
set_option linter.unusedVariables false
set_option maxRecDepth 4000

theorem secs_scs {w : World} {g : Nat} {S : List Sct} (h : SecsAt w 44 g S) : ScsA w (some ⟨g, 0, none⟩) S := by
  intro _
  refine ⟨g, 0, rfl, fun j u hj => ?_⟩
  have hl : j < S.length * 64 := by have := (List.getElem?_eq_some_iff.1 hj).1; rwa [flatS_len] at this
  have hq : j / 64 < S.length := by omega
  have e : S[j / 64]? = some (S.getD (j / 64) zeroS) := by rw [List.getD_eq_getElem?_getD, List.getElem?_eq_getElem hq]; rfl
  have h1 := flatS_get S (j / 64) _ (j % 64) e (by omega)
  rw [show j / 64 * 64 + j % 64 = j by omega, hj] at h1
  have h2 := h.2 _ _ e (j % 64) u h1.symm
  rw [show j / 64 * 64 + j % 64 = j by omega] at h2
  rw [Nat.zero_add]; exact h2

/-- What has been read so far. -/
def fillS (D : List Sct) (k : Nat) : List Sct := D.take k ++ List.replicate (D.length - k) zeroS
theorem fillS_len (D : List Sct) (k : Nat) (h : k ≤ D.length) : (fillS D k).length = D.length := by unfold fillS; rw [List.length_append, List.length_take, List.length_replicate]; omega
theorem fillS_zero (D : List Sct) : fillS D 0 = List.replicate D.length zeroS := rfl
theorem fillS_all (D : List Sct) : fillS D D.length = D := by unfold fillS; rw [Nat.sub_self, List.take_length]; simp
theorem fillS_set (D : List Sct) (k : Nat) (h : k < D.length) : (fillS D k).set k (D.getD k zeroS) = fillS D (k + 1) := by
  unfold fillS
  refine List.ext_getElem? (fun i => ?_)
  rw [List.getElem?_set]
  have e : D[k]? = some (D.getD k zeroS) := by rw [List.getD_eq_getElem?_getD, List.getElem?_eq_getElem h]; rfl
  by_cases hi : k = i
  · subst hi
    rw [if_pos rfl, if_pos (by rw [List.length_append, List.length_take, List.length_replicate]; omega), List.getElem?_append_left (by rw [List.length_take]; omega), List.getElem?_take, if_pos (by omega), e]
  · rw [if_neg hi]
    by_cases hlt : i < k
    · rw [List.getElem?_append_left (by rw [List.length_take]; omega), List.getElem?_append_left (by rw [List.length_take]; omega), List.getElem?_take, List.getElem?_take, if_pos hlt, if_pos (by omega)]
    · rw [List.getElem?_append_right (by rw [List.length_take]; omega), List.getElem?_append_right (by rw [List.length_take]; omega), List.length_take, List.length_take, Nat.min_eq_left (by omega), Nat.min_eq_left (by omega), List.getElem?_replicate, List.getElem?_replicate]
      by_cases h2 : i < D.length
      · rw [if_pos (by omega), if_pos (by omega)]
      · rw [if_neg (by omega), if_neg (by omega)]

end Go.Proofs.Ytnadknmammjfiaa
