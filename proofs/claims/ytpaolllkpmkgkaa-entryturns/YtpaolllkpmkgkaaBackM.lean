/- Plain mathematics: what was cut is put together as it was. -/
import Derived.Test.YtpaolllkpmkgkaaDec4
namespace Go.Proofs.Ytpaolllkpmkgkaa
open Go.RowKit
set_option linter.unusedVariables false
set_option maxRecDepth 4000

theorem joinL_getD (S : List Sct) : ∀ (q r : Nat), q < S.length → r < 63 → (joinL S).getD (63 * q + r) 0 = (S.getD q zeroS).1.getD (r + 1) 0 := by
  induction S with
  | nil => intro q r h; simp at h
  | cons s t ih =>
    intro q r hq hr
    show (tail s ++ joinL t).getD _ 0 = _
    rw [List.getD_eq_getElem?_getD]
    cases q with
    | zero =>
      rw [List.getElem?_append_left (by rw [tail_len]; omega), ← List.getD_eq_getElem?_getD, Nat.mul_zero, Nat.zero_add, tail_getD]
      rfl
    | succ q =>
      rw [List.getElem?_append_right (by rw [tail_len]; omega), tail_len, show 63 * (q + 1) + r - 63 = 63 * q + r by omega, ← List.getD_eq_getElem?_getD, ih q r (by simpa using hq) hr]
      rfl
def padL (E : List Int) : List Int := E ++ List.replicate (63 * pieces E.length - E.length) 0
theorem pad_len (E : List Int) : (padL E).length = 63 * pieces E.length := by
  unfold padL; rw [List.length_append, List.length_replicate]
  have : E.length ≤ 63 * pieces E.length := by unfold pieces; omega
  omega
theorem pad_getD (E : List Int) (j : Nat) : (padL E).getD j 0 = E.getD j 0 := by
  unfold padL
  rw [List.getD_eq_getElem?_getD, List.getElem?_append]
  split
  · rw [← List.getD_eq_getElem?_getD]
  · rename_i h
    rw [List.getElem?_replicate, List.getD_eq_getElem?_getD, List.getElem?_eq_none (by omega)]
    split <;> rfl
theorem getD_ext {a b : List Int} (hl : a.length = b.length) (h : ∀ j, j < a.length → a.getD j 0 = b.getD j 0) : a = b := by
  apply List.ext_getElem hl
  intro i h1 h2
  have := h i h1
  rw [List.getD_eq_getElem?_getD, List.getD_eq_getElem?_getD, List.getElem?_eq_getElem h1, List.getElem?_eq_getElem h2] at this
  exact this
theorem secOf_getD (i : Nat) (c : List Int) (r : Nat) (hr : r < 63) : (secOf i c).1.getD (r + 1) 0 = c.getD r 0 % 256 := by
  unfold secOf; rw [mkS_getD _ _ (by omega), List.getD_cons_succ]
theorem secOf_mark (i : Nat) (c : List Int) : (secOf i c).1.getD 0 0 = markI i := by
  unfold secOf; rw [mkS_getD _ _ (by omega)]
  have := markI_lim i
  show markI i % 256 = _
  omega
theorem join_cut (E : List Int) (hB : Byt E) : joinL (cutS E) = padL E := by
  have hl : (joinL (cutS E)).length = (padL E).length := by rw [joinL_len, cutS_len, pad_len]
  refine getD_ext hl (fun j hj => ?_)
  rw [joinL_len, cutS_len] at hj
  have hq : j / 63 < pieces E.length := by omega
  have e : j = 63 * (j / 63) + j % 63 := by omega
  rw [pad_getD]
  conv => lhs; rw [e]
  rw [joinL_getD _ _ _ (by rw [cutS_len]; exact hq) (by omega)]
  have : (cutS E).getD (j / 63) zeroS = secOf (j / 63) (chunk E (j / 63)) := by rw [List.getD_eq_getElem?_getD, cutS_get E _ hq]; rfl
  rw [this, secOf_getD _ _ _ (by omega), chunk_getD, if_pos (by omega), ← e, byt_mod hB]
theorem marks_cut (E : List Int) : Marks (cutS E) := by
  intro i s hs
  have hi : i < pieces E.length := by have := (List.getElem?_eq_some_iff.1 hs).1; rwa [cutS_len] at this
  rw [cutS_get E i hi] at hs
  cases hs
  exact secOf_mark _ _

theorem num4_four (x : Int) (hx : 0 ≤ x ∧ x ≤ 4294967295) (l : List Int) : num4 (four x ++ l) = x := by
  show x / 16777216 % 256 * 16777216 + x / 65536 % 256 * 65536 + x / 256 % 256 * 256 + x % 256 = x
  omega

section
variable {k e s : Int} {b : List Int}
theorem ent_lenL (l : List Int) : lenL (entL k e s b ++ l) = (b.length : Int) / 256 % 256 * 256 + (b.length : Int) % 256 := rfl
theorem ent_0 (l : List Int) : (entL k e s b ++ l).getD 0 0 = k := rfl
theorem ent_1 (he : 0 ≤ e ∧ e ≤ 4294967295) (l : List Int) : num4 ((entL k e s b ++ l).drop 1) = e := by
  show e / 16777216 % 256 * 16777216 + e / 65536 % 256 * 65536 + e / 256 % 256 * 256 + e % 256 = e
  omega
theorem ent_5 (hs : 0 ≤ s ∧ s ≤ 4294967295) (l : List Int) : num4 ((entL k e s b ++ l).drop 5) = s := by
  show s / 16777216 % 256 * 16777216 + s / 65536 % 256 * 65536 + s / 256 % 256 * 256 + s % 256 = s
  omega
theorem ent_take (l : List Int) : (entL k e s b ++ l).take (11 + b.length) = headL k e s b := by
  unfold entL
  rw [List.append_assoc, List.take_left' (headL_len k e s b)]
theorem ent_drop (l : List Int) : (entL k e s b ++ l).drop (11 + b.length) = four (more 1 (headL k e s b)) ++ l := by
  unfold entL
  rw [List.append_assoc, List.drop_left' (headL_len k e s b)]
theorem ent_drop4 (l : List Int) : (entL k e s b ++ l).drop (11 + b.length + 4) = l := List.drop_left' (by rw [entL_len]; omega)
theorem ent_body (l : List Int) : ((entL k e s b ++ l).drop 11).take b.length = b := by
  have : (entL k e s b ++ l).drop 11 = b ++ (four (more 1 (headL k e s b)) ++ l) := by
    unfold entL headL
    rw [List.append_assoc, List.append_assoc]
    exact List.drop_left' (by simp [leadL_len])
  rw [this, List.take_left' rfl]
theorem ent_whole (n : Nat) : Whole (entL k e s b ++ List.replicate n 0) (11 + b.length) := by
  refine ⟨?_, ?_⟩
  · rw [ent_drop, ent_take, num4_four _ (more_lim 1 _)]
  · rw [ent_drop4, List.all_eq_true]
    intro x hx
    rw [List.eq_of_mem_replicate hx]; rfl
end

theorem first_len (E : List Int) (hB : Byt E) (h : 11 ≤ E.length) (S : List Sct) (hS : S[0]? = some (secOf 0 (chunk E 0))) : lenS (secOf 0 (chunk E 0)) = E.getD 9 0 * 256 + E.getD 10 0 := by
  unfold lenS
  rw [secOf_getD 0 _ 9 (by omega), secOf_getD 0 _ 10 (by omega), chunk_getD, chunk_getD, if_pos (by omega), if_pos (by omega), byt_mod hB, byt_mod hB]

theorem ext_cut (k e s : Int) (b : List Int) (hk : 0 ≤ k ∧ k ≤ 255) (hB : Byt b) (hl : b.length ≤ 4000) (rest : List Sct) : extN (cutS (entL k e s b) ++ rest) = pieces (entL k e s b).length := by
  have hE : Byt (entL k e s b) := entL_byt hk hB
  have hp := pieces_ent k e s b
  have h0 : 0 < pieces (entL k e s b).length := by rw [hp]; omega
  have hg := cutS_get (entL k e s b) 0 h0
  obtain ⟨r, hr⟩ : ∃ r, cutS (entL k e s b) = secOf 0 (chunk (entL k e s b) 0) :: r := by
    cases hc : cutS (entL k e s b) with
    | nil => rw [hc] at hg; cases hg
    | cons x r => rw [hc] at hg; cases hg; exact ⟨r, rfl⟩
  have hrl : r.length + 1 = pieces (entL k e s b).length := by
    have := cutS_len (entL k e s b)
    rw [hr] at this
    simpa using this
  have hlen := first_len (entL k e s b) hE (by rw [entL_len]; omega) _ hg
  have hL : lenS (secOf 0 (chunk (entL k e s b) 0)) = (b.length : Int) := by
    rw [hlen]
    have := ent_lenL (k := k) (e := e) (s := s) (b := b) []
    rw [List.append_nil] at this
    unfold lenL at this
    rw [this]
    omega
  have hN : needN (secOf 0 (chunk (entL k e s b) 0)) = pieces (entL k e s b).length := by
    unfold needN needI
    rw [hL, if_neg (by omega), hp]
    omega
  rw [hr]
  show (if (r ++ rest).length + 1 < needN _ then 0 else needN _) = _
  rw [hN, if_neg (by rw [List.length_append]; omega)]
end Go.Proofs.Ytpaolllkpmkgkaa
