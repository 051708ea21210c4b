/- What was written over. -/
import Derived.Test.YtnadknmammjfiaaJput
namespace Go.Proofs.Ytnadknmammjfiaa
open Go.RowKit
set_option linter.unusedVariables false
set_option maxRecDepth 4000

theorem flush_get (P : List (Nat × Sct)) : ∀ (S : List Sct) (i : Nat), i < S.length → (flushS S P)[i]? = some (readS S P i) := fun S i hi => by
  have := flush_read i P S hi
  rw [List.getD_eq_getElem?_getD, List.getElem?_eq_getElem (by rw [flushS_len]; exact hi)] at this
  rw [List.getElem?_eq_getElem (by rw [flushS_len]; exact hi)]
  exact congrArg some this
theorem wr_read (at_ : Nat) (T S : List Sct) (i : Nat) : ∀ k, readS S (wrP at_ T k) i = if at_ ≤ i ∧ i < at_ + k then T.getD (i - at_) zeroS else S.getD i zeroS
  | 0 => by rw [if_neg (by omega)]; rfl
  | k + 1 => by
    rw [wrP_succ, readS_snoc, wr_read at_ T S i k]
    by_cases h : at_ + k = i
    · rw [if_pos h, if_pos (by omega), show i - at_ = k by omega]
    · rw [if_neg h]
      by_cases h2 : at_ ≤ i ∧ i < at_ + k
      · rw [if_pos h2, if_pos (by omega)]
      · rw [if_neg h2, if_neg (by omega)]
/-- What was written over. -/
def overS (S : List Sct) (at_ : Nat) (T : List Sct) : List Sct := S.take at_ ++ T ++ S.drop (at_ + T.length)
theorem getD_some (S : List Sct) (i : Nat) (h : i < S.length) : S[i]? = some (S.getD i zeroS) := by rw [List.getD_eq_getElem?_getD, List.getElem?_eq_getElem h]; rfl
theorem over_get (S : List Sct) (at_ : Nat) (T : List Sct) (hl : at_ + T.length ≤ S.length) (i : Nat) (hi : i < S.length) : (overS S at_ T)[i]? = some (if at_ ≤ i ∧ i < at_ + T.length then T.getD (i - at_) zeroS else S.getD i zeroS) := by
  unfold overS
  by_cases h1 : i < at_
  · rw [if_neg (by omega), List.append_assoc, List.getElem?_append_left (by rw [List.length_take]; omega), List.getElem?_take, if_pos h1, getD_some S i hi]
  · rw [List.append_assoc, List.getElem?_append_right (by rw [List.length_take]; omega), List.length_take, Nat.min_eq_left (by omega)]
    by_cases h2 : i < at_ + T.length
    · rw [if_pos (by omega), List.getElem?_append_left (by omega), getD_some T _ (by omega)]
    · rw [if_neg (by omega), List.getElem?_append_right (by omega), List.getElem?_drop, show at_ + T.length + (i - at_ - T.length) = i by omega, getD_some S i hi]
theorem over_len (S : List Sct) (at_ : Nat) (T : List Sct) (hl : at_ + T.length ≤ S.length) : (overS S at_ T).length = S.length := by
  unfold overS; simp only [List.length_append, List.length_take, List.length_drop]; omega
theorem lay_over (S : List Sct) (at_ : Nat) (T : List Sct) (h0 : 0 < T.length) (hl : at_ + T.length ≤ S.length) : layS S at_ T = overS S at_ T := by
  unfold layS
  refine List.ext_getElem? (fun i => ?_)
  have htl : (T.take 1).length = 1 := by rw [List.length_take]; omega
  have hdl : (T.drop 1).length = T.length - 1 := by rw [List.length_drop]
  by_cases hi : i < S.length
  · rw [over_get S at_ T hl i hi, flush_get _ _ _ (by rw [flushS_len]; exact hi), wr_read, flush_read _ _ _ hi, wr_read, htl, hdl]
    congr 1
    by_cases h1 : i = at_
    · subst h1
      rw [if_pos (by omega), if_pos (by omega), Nat.sub_self, List.getD_eq_getElem?_getD, List.getElem?_take, if_pos (by omega), ← List.getD_eq_getElem?_getD]
    · rw [if_neg (by omega)]
      by_cases h2 : at_ + 1 ≤ i ∧ i < at_ + 1 + (T.length - 1)
      · rw [if_pos h2, if_pos (by omega), List.getD_eq_getElem?_getD, List.getElem?_drop, ← List.getD_eq_getElem?_getD, show 1 + (i - (at_ + 1)) = i - at_ by omega]
      · rw [if_neg h2, if_neg (by omega)]
  · rw [List.getElem?_eq_none (by rw [flushS_len, flushS_len]; omega), List.getElem?_eq_none (by rw [over_len _ _ _ hl]; omega)]
end Go.Proofs.Ytnadknmammjfiaa
