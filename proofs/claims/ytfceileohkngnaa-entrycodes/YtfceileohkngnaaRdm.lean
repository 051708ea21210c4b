/- Plain mathematics of the reference's Decode: it tells what Decode tells. -/
import Derived.Test.YtfceileohkngnaaRmath
namespace Go.Proofs.Ytfceileohkngnaa
open Go.RowKit
set_option linter.unusedVariables false
set_option maxRecDepth 4000

/-- So many sectors from the first one on bear their marks, and the next one not. -/
structure Led (S : List Sct) (K : Nat) : Prop where
  one : 1 ≤ K
  le : K ≤ S.length
  mark : ∀ j, j < K → (S.getD j zeroS).1.getD 0 0 = markI j
  stop : K = S.length ∨ (S.getD K zeroS).1.getD 0 0 ≠ markI K

/-- The entry that the first so many sectors' bytes tell, if they are one's. -/
def entB (bs : List Int) : List Int := entL (bs.getD 0 0) (num4 (bs.drop 1)) (num4 (bs.drop 5)) ((bs.drop 11).take (lenL bs).toNat)

theorem take_cut {S T : List Sct} {n : Nat} (h : S.take n = T) : S = T ++ S.drop n := by rw [← h, List.take_append_drop]

theorem dec_facts {S : List Sct} {K : Nat} (h : Led S K) {x : Ent} (hx : decS S = some x) :
    x.n = (x.b.length + 77) / 63 ∧ x.n ≤ K ∧ lenL (joinL (S.take K)) = (x.b.length : Int) ∧ entB (joinL (S.take K)) = entL x.k x.e x.s x.b ∧ S.take x.n = cutS (entL x.k x.e x.s x.b) := by
  obtain ⟨h0, h1, h2, hk, he, hs, hB, hl⟩ := decS_some hx
  have hc := dec_cut hx
  have hn : x.n = (x.b.length + 77) / 63 := by
    have e1 : (S.take x.n).length = x.n := by rw [List.length_take]; omega
    rw [hc, cutS_len, pieces_ent] at e1
    omega
  have hK : x.n ≤ K := by
    refine Nat.le_of_not_lt fun hlt => ?_
    rcases h.stop with e | e
    · omega
    · refine e ?_
      have g : (S.take x.n)[K]? = some (S.getD K zeroS) := by rw [List.getElem?_take, if_pos hlt, getD_some' S K (by omega)]
      rw [hc] at g
      exact marks_cut _ K _ g
  have hEB : Byt (entL x.k x.e x.s x.b) := entL_byt hk hB
  obtain ⟨R, hR⟩ : ∃ R, joinL (S.take K) = entL x.k x.e x.s x.b ++ R := by
    have e1 : S.take K = cutS (entL x.k x.e x.s x.b) ++ (S.drop x.n).take (K - x.n) := by
      rw [← hc, ← List.take_add]
      congr 1; omega
    refine ⟨List.replicate (63 * pieces (entL x.k x.e x.s x.b).length - (entL x.k x.e x.s x.b).length) 0 ++ joinL ((S.drop x.n).take (K - x.n)), ?_⟩
    rw [e1]
    show List.flatMap tail _ = _
    rw [List.flatMap_append]
    show joinL (cutS _) ++ _ = _
    rw [join_cut _ hEB, ← List.append_assoc]
    rfl
  have hL : lenL (joinL (S.take K)) = (x.b.length : Int) := by
    rw [hR, ent_lenL]; omega
  refine ⟨hn, hK, hL, ?_, hc⟩
  unfold entB
  rw [hL, hR, ent_0, ent_1 he, ent_5 hs, Int.toNat_natCast, ent_body]

/-- Too long, or not there as a whole: none. -/
theorem rd_none1 {S : List Sct} {K : Nat} (h : Led S K) (hno : 4000 < lenL (joinL (S.take K)) ∨ (63 * K : Int) < 63 * needI (lenL (joinL (S.take K)))) : decS S = none := by
  cases hx : decS S with
  | none => rfl
  | some x =>
    obtain ⟨h1, h2, h3, h4, h5⟩ := dec_facts h hx
    obtain ⟨_, _, _, _, _, _, _, hl⟩ := decS_some hx
    rw [h3] at hno
    unfold needI at hno
    rw [if_neg (by omega)] at hno
    omega
/-- A sector that is another one than the entry's: none. -/
theorem rd_none2 {S : List Sct} {K : Nat} (h : Led S K) {i : Nat} (hi : i < (cutS (entB (joinL (S.take K)))).length) (hne : S.getD i zeroS ≠ (cutS (entB (joinL (S.take K)))).getD i zeroS) : decS S = none := by
  cases hx : decS S with
  | none => rfl
  | some x =>
    obtain ⟨h1, h2, h3, h4, h5⟩ := dec_facts h hx
    rw [h4] at hi hne
    refine absurd ?_ hne
    rw [← h5, List.getD_eq_getElem?_getD, List.getD_eq_getElem?_getD, List.getElem?_take, if_pos (by rw [← h5, List.length_take] at hi; omega)]
/-- All sectors are the entry's: it. -/
theorem rd_some {S : List Sct} {K : Nat} (h : Led S K) (h4 : lenL (joinL (S.take K)) ≤ 4000) (hN : (cutS (entB (joinL (S.take K)))).length ≤ K) (hall : ∀ j, j < (cutS (entB (joinL (S.take K)))).length → S.getD j zeroS = (cutS (entB (joinL (S.take K)))).getD j zeroS) :
    decS S = some ⟨(joinL (S.take K)).getD 0 0, num4 ((joinL (S.take K)).drop 1), num4 ((joinL (S.take K)).drop 5), ((joinL (S.take K)).drop 11).take (lenL (joinL (S.take K))).toNat, (cutS (entB (joinL (S.take K)))).length⟩ := by
  have hB := joinL_byt (S.take K)
  generalize joinL (S.take K) = bs at *
  have hle := h.le
  have ht : S.take (cutS (entB bs)).length = cutS (entB bs) := by
    refine List.ext_getElem? fun j => ?_
    by_cases hj : j < (cutS (entB bs)).length
    · rw [List.getElem?_take, if_pos hj, getD_some' S j (by omega), getD_some' (cutS (entB bs)) j hj, hall j hj]
    · rw [List.getElem?_eq_none (by rw [List.length_take]; omega), List.getElem?_eq_none (by omega)]
  have hS := take_cut ht
  have h9 := hB 9
  have h10 := hB 10
  have hLn : 0 ≤ lenL bs := by unfold lenL; omega
  rw [hS]
  exact decS_ent _ _ _ (hB 0) (num4_lim (byt_drop hB _)) (num4_lim (byt_drop hB _)) _ (by rw [List.length_take]; omega) (byt_take (byt_drop hB _) _) _
end Go.Proofs.Ytfceileohkngnaa
