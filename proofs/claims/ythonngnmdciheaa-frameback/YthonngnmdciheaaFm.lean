/- There and back: mathematics. -/
import Derived.Test.YthonngnmdciheaaPal
import Derived.Test.YthonngnmdciheaaEnc
namespace Go.Proofs.Ythonngnmdciheaa
open Go.RowKit
set_option linter.unusedVariables false
theorem fo_six (n : Nat) (h : n < 281474976710656) : fo (sixL n) = n := by
  unfold fo sixL byN
  simp only [List.foldl]
  have e0 : (256 : Nat) ^ (5 - 0) = 1099511627776 := by decide
  have e1 : (256 : Nat) ^ (5 - 1) = 4294967296 := by decide
  have e2 : (256 : Nat) ^ (5 - 2) = 16777216 := by decide
  have e3 : (256 : Nat) ^ (5 - 3) = 65536 := by decide
  have e4 : (256 : Nat) ^ (5 - 4) = 256 := by decide
  have e5 : (256 : Nat) ^ (5 - 5) = 1 := by decide
  rw [e0, e1, e2, e3, e4, e5]
  omega
theorem six_fo (a b c d e f : Nat) (ha : a < 256) (hb : b < 256) (hc : c < 256) (hd : d < 256) (he : e < 256) (hf : f < 256) : sixL (fo [a, b, c, d, e, f]) = [a, b, c, d, e, f] := by
  unfold sixL byN fo
  simp only [List.foldl]
  have e0 : (256 : Nat) ^ (5 - 0) = 1099511627776 := by decide
  have e1 : (256 : Nat) ^ (5 - 1) = 4294967296 := by decide
  have e2 : (256 : Nat) ^ (5 - 2) = 16777216 := by decide
  have e3 : (256 : Nat) ^ (5 - 3) = 65536 := by decide
  have e4 : (256 : Nat) ^ (5 - 4) = 256 := by decide
  have e5 : (256 : Nat) ^ (5 - 5) = 1 := by decide
  rw [e0, e1, e2, e3, e4, e5]
  have : ∀ {p q r s t u p' q' r' s' t' u' : Nat}, p = p' → q = q' → r = r' → s = s' → t = t' → u = u' → [p, q, r, s, t, u] = [p', q', r', s', t', u'] := by intros; subst_vars; rfl
  apply this <;> omega
theorem sixL_lt (n : Nat) : ∀ x ∈ sixL n, x < 256 := by
  intro x hx
  simp [sixL] at hx
  rcases hx with rfl | rfl | rfl | rfl | rfl | rfl <;> exact byN_lt _ _
theorem two_lt (n : Nat) (h : n < 65536) : ∀ x ∈ twoB n, x < 256 := by
  intro x hx; simp [twoB] at hx; rcases hx with rfl | rfl <;> omega
theorem encB_len (f : Fr) : (encB f).length = leastN f.tag + f.bs.length := by
  unfold encB tagB leastN sixL twoB
  cases f.tag <;> simp <;> omega
theorem tci_lt (f : Fr) (h : tagF f = true) (ht : f.tag = true) : tciN f < 65536 ∧ ((tciN f / 8192 : Nat) : Int) = f.prio ∧ ((tciN f % 8192 : Nat) : Int) = f.vid := by
  simp [tagF, ht] at h
  unfold tciN
  omega
theorem encB_lt (f : Fr) (hf : f.Fit) (hg : goodF f = true) : ∀ x ∈ encB f, x < 256 := by
  obtain ⟨h1, h2, h3, _, _, _⟩ := goodF_parts f hg
  intro x hx
  unfold encB at hx
  simp only [List.mem_append] at hx
  rcases hx with h | h | h | h | h
  · exact sixL_lt _ x h
  · exact sixL_lt _ x h
  · unfold tagB at h
    split at h
    · rename_i ht
      simp only [List.mem_cons] at h
      rcases h with rfl | rfl | h
      · decide
      · decide
      · exact two_lt _ (tci_lt f h1 ht).1 x h
    · cases h
  · exact two_lt _ (by omega) x h
  · exact hf.bs x h
/-- What was encoded is parsed as it was. -/
theorem pars_enc (f : Fr) (hg : goodF f = true) : parsN (encB f) = (f, 0) := by
  obtain ⟨h1, h2, h3, h4, h5, h6⟩ := goodF_parts f hg
  have hk : kindF f.kind = true := by have := hg; simp [goodF] at this; exact this.2.2.1
  have hlen := encB_len f
  have hp : parF (encB f) = f ∧ ¬ ((encB f).length < 14 ∨ (mkB (encB f) = true ∧ (encB f).length < 18)) := by
    have ed := fo_six f.dst h5
    have es := fo_six f.src h6
    obtain ⟨d, s, t, p, v, k, bs⟩ := f
    simp only at *
    cases t with
    | true =>
      obtain ⟨g1, g2, g3⟩ := tci_lt _ h1 rfl
      simp only at g1 g2 g3
      generalize hT : tciN ⟨d, s, true, p, v, k, bs⟩ = T at *
      have e : encB ⟨d, s, true, p, v, k, bs⟩ = sixL d ++ (sixL s ++ ([129, 0, T / 256, T % 256] ++ ([k.toNat / 256, k.toNat % 256] ++ bs))) := by simp [encB, tagB, twoB, hT]
      have hm : mkB (encB ⟨d, s, true, p, v, k, bs⟩) = true := by rw [e]; simp [mkB, at2, sixL]
      have ha : at2 (encB ⟨d, s, true, p, v, k, bs⟩) 14 = T := by rw [e]; simp [at2, sixL]; omega
      have hb : at2 (encB ⟨d, s, true, p, v, k, bs⟩) 16 = k.toNat := by rw [e]; simp [at2, sixL]; omega
      have hd1 : (encB ⟨d, s, true, p, v, k, bs⟩).take 6 = sixL d := by rw [e]; simp [sixL]
      have hd2 : ((encB ⟨d, s, true, p, v, k, bs⟩).drop 6).take 6 = sixL s := by rw [e]; simp [sixL]
      have hd3 : (encB ⟨d, s, true, p, v, k, bs⟩).drop 18 = bs := by rw [e]; simp [sixL]
      refine ⟨?_, by rw [hlen]; simp [leastN]; omega⟩
      simp only [parF, endN, hm, leastN, if_true, ha, hd1, hd2, ed, es]
      simp only [show 18 - 2 = 16 from rfl, hb, hd3, g2, g3]
      rw [show ((k.toNat : Nat) : Int) = k by omega]
    | false =>
      have hpv : p = 0 ∧ v = 0 := by simp [tagF] at h1; exact h1
      obtain ⟨rfl, rfl⟩ := hpv
      have hkn : k ≠ 33024 := by simp [kindF] at hk; omega
      have e : encB ⟨d, s, false, 0, 0, k, bs⟩ = sixL d ++ (sixL s ++ ([k.toNat / 256, k.toNat % 256] ++ bs)) := by simp [encB, tagB, twoB]
      have hb : at2 (encB ⟨d, s, false, 0, 0, k, bs⟩) 12 = k.toNat := by rw [e]; simp [at2, sixL]; omega
      have hm : mkB (encB ⟨d, s, false, 0, 0, k, bs⟩) = false := by unfold mkB; rw [hb]; simp; omega
      have hd1 : (encB ⟨d, s, false, 0, 0, k, bs⟩).take 6 = sixL d := by rw [e]; simp [sixL]
      have hd2 : ((encB ⟨d, s, false, 0, 0, k, bs⟩).drop 6).take 6 = sixL s := by rw [e]; simp [sixL]
      have hd3 : (encB ⟨d, s, false, 0, 0, k, bs⟩).drop 14 = bs := by rw [e]; simp [sixL]
      refine ⟨?_, by rw [hlen, hm]; simp [leastN]⟩
      simp only [parF, endN, hm, leastN, if_false, hd1, hd2, ed, es, Bool.false_eq_true]
      simp only [show 14 - 2 = 12 from rfl, hb, hd3]
      rw [show ((k.toNat : Nat) : Int) = k by omega]
  unfold parsN
  rw [if_neg hp.2, hp.1, if_pos hg]
theorem encB_t (d s : Nat) (p v k : Int) (bs : List Nat) : encB ⟨d, s, true, p, v, k, bs⟩ = sixL d ++ (sixL s ++ ((129 :: 0 :: twoB (p * 8192 + v).toNat) ++ (twoB k.toNat ++ bs))) := rfl
theorem encB_f (d s : Nat) (p v k : Int) (bs : List Nat) : encB ⟨d, s, false, p, v, k, bs⟩ = sixL d ++ (sixL s ++ ([] ++ (twoB k.toNat ++ bs))) := rfl
theorem div256 (a b : Nat) (h : b < 256) : (a * 256 + b) / 256 = a ∧ (a * 256 + b) % 256 = b := by omega
theorem list_cut (bs : List Nat) (n : Nat) (h : n ≤ bs.length) : bs = (List.range n).map (fun j => bs.getD j 0) ++ bs.drop n := by
  apply List.ext_getElem?
  intro i
  rw [List.getElem?_append]
  split
  · rename_i hi
    simp at hi
    rw [List.getElem?_map, List.getElem?_range hi]
    simp [List.getD_eq_getElem?_getD]
    rw [List.getElem?_eq_getElem (by omega)]; rfl
  · rename_i hi
    simp at hi
    simp
    congr 1; omega
/-- What was parsed is encoded as it stood. -/
theorem enc_pars (bs : List Nat) (hx : ∀ x ∈ bs, x < 256) (h1 : ¬ (bs.length < 14 ∨ (mkB bs = true ∧ bs.length < 18))) : encB (parF bs) = bs := by
  have hg := fun j => getD_lt bs hx j
  cases hm : mkB bs with
  | true =>
    have h18 : 18 ≤ bs.length := by have := h1; rw [hm] at this; simp at this; omega
    have hc := list_cut bs 18 h18
    have hmm : bs.getD 12 0 = 129 ∧ bs.getD 13 0 = 0 := by
      have h2 : at2 bs 12 = bs.getD 12 0 * 256 + bs.getD 13 0 := rfl
      have := hm; unfold mkB at this; simp at this; have := hg 12; have := hg 13; omega
    have e14 : at2 bs 14 = bs.getD 14 0 * 256 + bs.getD 15 0 := rfl
    have e16 : at2 bs 16 = bs.getD 16 0 * 256 + bs.getD 17 0 := rfl
    have hr : (List.range 18).map (fun j => bs.getD j 0) = [bs.getD 0 0, bs.getD 1 0, bs.getD 2 0, bs.getD 3 0, bs.getD 4 0, bs.getD 5 0, bs.getD 6 0, bs.getD 7 0, bs.getD 8 0, bs.getD 9 0, bs.getD 10 0, bs.getD 11 0, bs.getD 12 0, bs.getD 13 0, bs.getD 14 0, bs.getD 15 0, bs.getD 16 0, bs.getD 17 0] := by rfl
    have t6 : bs.take 6 = [bs.getD 0 0, bs.getD 1 0, bs.getD 2 0, bs.getD 3 0, bs.getD 4 0, bs.getD 5 0] := by
      have h := congrArg (List.take 6) hc
      rw [hr] at h
      exact h
    have d6 : (bs.drop 6).take 6 = [bs.getD 6 0, bs.getD 7 0, bs.getD 8 0, bs.getD 9 0, bs.getD 10 0, bs.getD 11 0] := by
      have h := congrArg (fun l => (List.drop 6 l).take 6) hc
      simp only [hr] at h
      exact h
    have s1 := six_fo _ _ _ _ _ _ (hg 0) (hg 1) (hg 2) (hg 3) (hg 4) (hg 5)
    have s2 := six_fo _ _ _ _ _ _ (hg 6) (hg 7) (hg 8) (hg 9) (hg 10) (hg 11)
    have g14 := hg 14
    have g15 := hg 15
    have g16 := hg 16
    have g17 := hg 17
    refine Eq.trans ?_ (hc.trans (by rw [hr])).symm
    have hpF : parF bs = ⟨fo (bs.take 6), fo ((bs.drop 6).take 6), true, ((at2 bs 14 / 8192 : Nat) : Int), ((at2 bs 14 % 8192 : Nat) : Int), ((at2 bs 16 : Nat) : Int), bs.drop 18⟩ := by simp [parF, endN, hm, leastN]
    rw [hpF]
    have htc : (((at2 bs 14 / 8192 : Nat) : Int) * 8192 + ((at2 bs 14 % 8192 : Nat) : Int)).toNat = at2 bs 14 := by
      have : ∀ n : Nat, (((n / 8192 : Nat) : Int) * 8192 + ((n % 8192 : Nat) : Int)).toNat = n := by intro n; omega
      exact this _
    rw [encB_t, htc, Int.toNat_natCast, t6, d6, s1, s2, hmm.1, hmm.2, e14, e16]
    have q14 : (bs.getD 14 0 * 256 + bs.getD 15 0) / 256 = bs.getD 14 0 ∧ (bs.getD 14 0 * 256 + bs.getD 15 0) % 256 = bs.getD 15 0 := div256 _ _ (hg 15)
    have q16 : (bs.getD 16 0 * 256 + bs.getD 17 0) / 256 = bs.getD 16 0 ∧ (bs.getD 16 0 * 256 + bs.getD 17 0) % 256 = bs.getD 17 0 := div256 _ _ (hg 17)
    unfold twoB
    rw [q14.1, q14.2, q16.1, q16.2]
    rfl
  | false =>
    have h14 : 14 ≤ bs.length := by have := h1; rw [hm] at this; simp at this; omega
    have hc := list_cut bs 14 h14
    have e12 : at2 bs 12 = bs.getD 12 0 * 256 + bs.getD 13 0 := rfl
    have hr : (List.range 14).map (fun j => bs.getD j 0) = [bs.getD 0 0, bs.getD 1 0, bs.getD 2 0, bs.getD 3 0, bs.getD 4 0, bs.getD 5 0, bs.getD 6 0, bs.getD 7 0, bs.getD 8 0, bs.getD 9 0, bs.getD 10 0, bs.getD 11 0, bs.getD 12 0, bs.getD 13 0] := by rfl
    have t6 : bs.take 6 = [bs.getD 0 0, bs.getD 1 0, bs.getD 2 0, bs.getD 3 0, bs.getD 4 0, bs.getD 5 0] := by
      have h := congrArg (List.take 6) hc
      rw [hr] at h
      exact h
    have d6 : (bs.drop 6).take 6 = [bs.getD 6 0, bs.getD 7 0, bs.getD 8 0, bs.getD 9 0, bs.getD 10 0, bs.getD 11 0] := by
      have h := congrArg (fun l => (List.drop 6 l).take 6) hc
      simp only [hr] at h
      exact h
    have s1 := six_fo _ _ _ _ _ _ (hg 0) (hg 1) (hg 2) (hg 3) (hg 4) (hg 5)
    have s2 := six_fo _ _ _ _ _ _ (hg 6) (hg 7) (hg 8) (hg 9) (hg 10) (hg 11)
    have g12 := hg 12
    have g13 := hg 13
    refine Eq.trans ?_ (hc.trans (by rw [hr])).symm
    have hpF : parF bs = ⟨fo (bs.take 6), fo ((bs.drop 6).take 6), false, 0, 0, ((at2 bs 12 : Nat) : Int), bs.drop 14⟩ := by simp [parF, endN, hm, leastN]
    rw [hpF]
    rw [encB_f, Int.toNat_natCast, t6, d6, s1, s2, e12]
    have q12 : (bs.getD 12 0 * 256 + bs.getD 13 0) / 256 = bs.getD 12 0 ∧ (bs.getD 12 0 * 256 + bs.getD 13 0) % 256 = bs.getD 13 0 := div256 _ _ (hg 13)
    unfold twoB
    rw [q12.1, q12.2]
    rfl
end Go.Proofs.Ythonngnmdciheaa
