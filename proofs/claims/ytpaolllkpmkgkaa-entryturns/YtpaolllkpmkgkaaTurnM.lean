/- Plain mathematics: one byte turned. -/
import Derived.Test.YtpaolllkpmkgkaaBackM
import Derived.Test.YtpaolllkpmkgkaaMath2
namespace Go.Proofs.Ytpaolllkpmkgkaa
open Go.RowKit
set_option linter.unusedVariables false
set_option maxRecDepth 4000

/-- One byte of a row of sectors turned. -/
def turnS (S : List Sct) (k : Nat) (v : Int) (hv : 0 ≤ v ∧ v ≤ 255) : List Sct := S.set (k / 64) (setS (S.getD (k / 64) zeroS) (k % 64) v hv)
theorem turnS_len (S : List Sct) (k : Nat) (v : Int) (hv : 0 ≤ v ∧ v ≤ 255) : (turnS S k v hv).length = S.length := by unfold turnS; simp
theorem setS_getD (s : Sct) (j i : Nat) (v : Int) (hv : 0 ≤ v ∧ v ≤ 255) (hi : i < 64) : (setS s j v hv).1.getD i 0 = if j = i then v else s.1.getD i 0 := by
  show (s.1.set j v).getD i 0 = _
  have hl := s.2.1
  rw [List.getD_eq_getElem?_getD, List.getElem?_set]
  by_cases h : j = i
  · rw [if_pos h, if_pos h, if_pos (by omega)]; rfl
  · rw [if_neg h, if_neg h, ← List.getD_eq_getElem?_getD]
theorem turnS_getD (S : List Sct) (k q : Nat) (v : Int) (hv : 0 ≤ v ∧ v ≤ 255) (hk : k / 64 < S.length) : (turnS S k v hv).getD q zeroS = if k / 64 = q then setS (S.getD (k / 64) zeroS) (k % 64) v hv else S.getD q zeroS := by
  unfold turnS
  rw [List.getD_eq_getElem?_getD, List.getElem?_set]
  by_cases h : k / 64 = q
  · rw [if_pos h, if_pos h, if_pos hk]; rfl
  · rw [if_neg h, if_neg h, ← List.getD_eq_getElem?_getD]
/-- A mark turned. -/
theorem turn_mark (S : List Sct) (k : Nat) (v : Int) (hv : 0 ≤ v ∧ v ≤ 255) (hk : k / 64 < S.length) (h0 : k % 64 = 0) (hM : Marks S) (hne : v ≠ (S.getD (k / 64) zeroS).1.getD 0 0) : ¬ Marks (turnS S k v hv) := by
  intro hT
  have h1 : S[k / 64]? = some (S.getD (k / 64) zeroS) := by rw [List.getD_eq_getElem?_getD, List.getElem?_eq_getElem hk]; rfl
  have h2 : (turnS S k v hv)[k / 64]? = some (setS (S.getD (k / 64) zeroS) (k % 64) v hv) := by unfold turnS; rw [List.getElem?_set, if_pos rfl, if_pos hk]
  have a := hM _ _ h1
  have b := hT _ _ h2
  rw [setS_getD _ _ _ _ _ (by omega), if_pos h0] at b
  exact hne (by rw [b, a])
/-- Any other byte turned: one byte of what is joined. -/
theorem turn_join (S : List Sct) (k : Nat) (v : Int) (hv : 0 ≤ v ∧ v ≤ 255) (hk : k / 64 < S.length) (h0 : k % 64 ≠ 0) : joinL (turnS S k v hv) = (joinL S).set (63 * (k / 64) + (k % 64 - 1)) v := by
  refine getD_ext (by rw [joinL_len, turnS_len, List.length_set, joinL_len]) (fun j hj => ?_)
  rw [joinL_len, turnS_len] at hj
  have e : j = 63 * (j / 63) + j % 63 := by omega
  have hq : j / 63 < S.length := by omega
  have lhs : (joinL (turnS S k v hv)).getD j 0 = ((turnS S k v hv).getD (j / 63) zeroS).1.getD (j % 63 + 1) 0 := by
    conv => lhs; rw [e]
    exact joinL_getD _ _ _ (by rw [turnS_len]; exact hq) (by omega)
  have rhs0 : (joinL S).getD j 0 = (S.getD (j / 63) zeroS).1.getD (j % 63 + 1) 0 := by
    conv => lhs; rw [e]
    exact joinL_getD _ _ _ hq (by omega)
  rw [lhs, turnS_getD _ _ _ _ _ hk]
  have rhs : ((joinL S).set (63 * (k / 64) + (k % 64 - 1)) v).getD j 0 = if 63 * (k / 64) + (k % 64 - 1) = j then v else (joinL S).getD j 0 := by
    rw [List.getD_eq_getElem?_getD, List.getElem?_set]
    split
    · rw [if_pos (by rw [joinL_len]; omega)]; rfl
    · rw [List.getD_eq_getElem?_getD]
  rw [rhs]
  by_cases h1 : k / 64 = j / 63
  · rw [if_pos h1, setS_getD _ _ _ _ _ (by omega)]
    by_cases h2 : k % 64 = j % 63 + 1
    · rw [if_pos h2, if_pos (by omega)]
    · rw [if_neg h2, if_neg (by omega), rhs0, h1]
  · rw [if_neg h1, if_neg (by omega), rhs0]

theorem num4_inj {l : List Int} (hB : Byt l) (i : Nat) (hi : i < 4) (hl : 4 ≤ l.length) (v : Int) (hv : 0 ≤ v ∧ v ≤ 255) (hne : v ≠ l.getD i 0) : num4 (l.set i v) ≠ num4 l := by
  match l, hl with
  | a :: b :: c :: d :: r, _ =>
    have h0 := hB 0
    have h1 := hB 1
    have h2 := hB 2
    have h3 := hB 3
    simp only [List.getD_cons_zero, List.getD_cons_succ] at h0 h1 h2 h3
    unfold num4
    have : i = 0 ∨ i = 1 ∨ i = 2 ∨ i = 3 := by omega
    rcases this with rfl | rfl | rfl | rfl
    all_goals
      simp only [List.set_cons_zero, List.set_cons_succ, List.getD_cons_zero, List.getD_cons_succ] at hne ⊢
      omega

/-- Of an entry's bytes with one turned, but the two of the length, the sum does not hold, or something behind it is not 0. -/
theorem turn_whole (k e s : Int) (b : List Int) (hk : 0 ≤ k ∧ k ≤ 255) (hB : Byt b) (n i : Nat) (hi : i < 15 + b.length + n) (v : Int) (hv : 0 ≤ v ∧ v ≤ 255) (hne : v ≠ (entL k e s b ++ List.replicate n 0).getD i 0) :
    ¬ Whole ((entL k e s b ++ List.replicate n 0).set i v) (11 + b.length) := by
  have hel := entL_len k e s b
  have hhl := headL_len k e s b
  intro hW
  obtain ⟨w1, w2⟩ := hW
  have hlen : (entL k e s b ++ List.replicate n 0).length = 15 + b.length + n := by rw [List.length_append, hel, List.length_replicate]
  by_cases h1 : i < 11 + b.length
  · rw [List.drop_set, if_pos h1, ent_drop, num4_four _ (more_lim 1 _), List.take_set, ent_take] at w1
    have hg : (headL k e s b).getD i 0 = (entL k e s b ++ List.replicate n 0).getD i 0 := by
      unfold entL
      rw [List.append_assoc, List.getD_eq_getElem?_getD, List.getD_eq_getElem?_getD, List.getElem?_append_left (by omega)]
    have ht := turn_eq (headL k e s b) i v (by omega) hv ((headL_byt hk hB) i)
    have hf : (v == (headL k e s b).getD i 0) = false := by rw [hg]; exact beq_eq_false_iff_ne.2 hne
    rw [hf] at ht
    have : more 1 ((headL k e s b).set i v) ≠ more 1 (headL k e s b) := by
      intro eq1
      have e2 : sums 1 [(headL k e s b).set i v] = sums 1 [headL k e s b] := eq1
      rw [e2] at ht
      simp at ht
    exact this w1.symm
  · by_cases h2 : i < 15 + b.length
    · rw [List.take_set_of_le (by omega), ent_take, List.drop_set, if_neg h1, ent_drop] at w1
      have hb4 : Byt (four (more 1 (headL k e s b)) ++ List.replicate n 0) := byt_app (four_byt _) (byt_of (by intro x hx; rw [List.eq_of_mem_replicate hx]; omega))
      have hg : (four (more 1 (headL k e s b)) ++ List.replicate n 0).getD (i - (11 + b.length)) 0 = (entL k e s b ++ List.replicate n 0).getD i 0 := by
        rw [← ent_drop, List.getD_eq_getElem?_getD, List.getElem?_drop, ← List.getD_eq_getElem?_getD, show 11 + b.length + (i - (11 + b.length)) = i by omega]
      refine num4_inj hb4 (i - (11 + b.length)) (by omega) (by simp [four_len]) v hv (by rw [hg]; exact hne) ?_
      rw [w1, num4_four _ (more_lim 1 _)]
    · rw [List.drop_set, if_neg (by omega), ent_drop4, List.all_eq_true] at w2
      have hz : (entL k e s b ++ List.replicate n 0).getD i 0 = 0 := by
        rw [List.getD_eq_getElem?_getD, List.getElem?_append_right (by omega), List.getElem?_replicate]
        split <;> rfl
      have hm := w2 v (List.mem_set (by rw [List.length_replicate]; omega) v)
      rw [hz] at hne
      simp at hm
      exact hne hm
end Go.Proofs.Ytpaolllkpmkgkaa
