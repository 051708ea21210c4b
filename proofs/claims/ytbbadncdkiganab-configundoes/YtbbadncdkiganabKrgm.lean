/- The reference's Good: mathematics. -/
import Derived.Test.YtbbadncdkiganabKrg
namespace Go.Proofs.Ytbbadncdkiganab
open Go.RowKit
set_option linter.unusedVariables false
set_option maxRecDepth 4000
theorem rg_adj {α : Type} (lt : α → α → Bool) : ∀ (l : List α), (∀ j a b, l[j]? = some a → l[j + 1]? = some b → lt a b = true) → risB lt l = true
  | [], _ => rfl
  | [_], _ => rfl
  | a :: b :: t, h => by
    unfold risB
    rw [h 0 a b rfl rfl, rg_adj lt (b :: t) (fun j x y hx hy => h (j + 1) x y (by simpa using hx) (by simpa using hy))]; rfl
theorem rg_pair {α : Type} (lt : α → α → Bool) : ∀ (l : List α), risB lt l = true → ∀ j a b, l[j]? = some a → l[j + 1]? = some b → lt a b = true
  | [], _, j, a, b, h, _ => by simp at h
  | [_], _, j, a, b, _, h => by simp at h
  | x :: y :: t, hr, 0, a, b, ha, hb => by
    simp at ha hb; subst ha; subst hb
    unfold risB at hr
    rw [Bool.and_eq_true] at hr; exact hr.1
  | x :: y :: t, hr, j + 1, a, b, ha, hb => by
    unfold risB at hr
    rw [Bool.and_eq_true] at hr
    exact rg_pair lt (y :: t) hr.2 j a b (by simpa using ha) (by simpa using hb)
theorem rg_bad {α : Type} {lt : α → α → Bool} {l : List α} {j : Nat} {a b : α} (ha : l[j]? = some a) (hb : l[j + 1]? = some b) (h : lt a b = false) : risB lt l = false := by
  cases hr : risB lt l with
  | false => rfl
  | true => have := rg_pair lt l hr j a b ha hb; rw [h] at this; cases this
theorem every_mem : ∀ m : Fin 256, ∀ np : Fin 9, (bits .andNot .u8 (m.val : Int) (everyI np.val) == 0) = (List.range 8).all (fun q => decide (q < np.val) || !(bits .and .u8 ((m.val : Int) / 2 ^ q) 1 == 1)) := by decide +kernel
theorem every_iff (v : VlanC) (np : Nat) (hm : 0 ≤ v.2.1 ∧ v.2.1 ≤ 255) (hn : np ≤ 8) : (bits .andNot .u8 v.2.1 (everyI np) == 0) = true ↔ ∀ q : Nat, np ≤ q → q < 8 → isMem v q = false := by
  have h := every_mem ⟨v.2.1.toNat, by omega⟩ ⟨np, by omega⟩
  simp only [Int.toNat_of_nonneg hm.1] at h
  rw [h, List.all_eq_true]
  constructor
  · intro a q h1 h2
    have := a q (List.mem_range.2 h2)
    have h3 : ¬ q < np := by omega
    unfold isMem
    simp only [h3, decide_false, Bool.false_or, Bool.not_eq_true'] at this
    rw [Int.toNat_natCast, this]; simp
  · intro a q hq
    have h2 := List.mem_range.1 hq
    by_cases h3 : q < np
    · simp [h3]
    · have := a q (by omega) h2
      unfold isMem at this
      rw [wi_of (by omega) (by omega), Int.toNat_natCast, Bool.true_and] at this
      rw [this]; simp
/-- What the reference asks of the VLAN at place k. -/
def rvB (np : Nat) (vs : List VlanC) (k : Nat) (v : VlanC) : Prop :=
  wi v.1 1 4094 = true ∧ bits .andNot .u8 v.2.2 v.2.1 = 0 ∧ (∀ q : Nat, np ≤ q → q < 8 → isMem v q = false) ∧ ∀ j u, k = j + 1 → vs[j]? = some u → u.1 < v.1
theorem rv_all {np : Nat} {vs : List VlanC} (hm : ∀ v ∈ vs, 0 ≤ v.2.1 ∧ v.2.1 ≤ 255) (hn : np ≤ 8) (h : ∀ k v, k < vs.length → vs[k]? = some v → rvB np vs k v) : (vs.all (vlanOk (everyI np)) && risB ltV vs) = true := by
  rw [Bool.and_eq_true]
  refine ⟨all_t fun j x hj hx => ?_, rg_adj ltV vs fun j a b ha hb => ?_⟩
  · obtain ⟨h1, h2, h3, _⟩ := h j x hj hx
    unfold vlanOk
    rw [h1, (every_iff x np (hm x (List.mem_of_getElem? hx)) hn).2 h3, h2]; rfl
  · obtain ⟨_, _, _, h4⟩ := h (j + 1) b (List.getElem?_eq_some_iff.1 hb).1 hb
    have := h4 j a rfl ha
    simp [ltV, this]
theorem rv_bad {np : Nat} {vs : List VlanC} {k : Nat} {v : VlanC} (hv : vs[k]? = some v) (hm : 0 ≤ v.2.1 ∧ v.2.1 ≤ 255) (hn : np ≤ 8) (h : ¬ rvB np vs k v) : (vs.all (vlanOk (everyI np)) && risB ltV vs) = false := by
  cases hr : (vs.all (vlanOk (everyI np)) && risB ltV vs) with
  | false => rfl
  | true =>
    exfalso
    rw [Bool.and_eq_true] at hr
    have h1 := (List.all_eq_true.1 hr.1) v (List.mem_of_getElem? hv)
    unfold vlanOk at h1
    simp only [Bool.and_eq_true, beq_iff_eq] at h1
    refine h ⟨h1.1.1, h1.2, (every_iff v np hm hn).1 (by simpa using h1.1.2), ?_⟩
    intro j u hj hu
    subst hj
    have := rg_pair ltV vs hr.2 j u v hu hv
    simpa [ltV] using this
theorem bits_andN (a b : Nat) (ha : a < 18446744073709551616) (hb : b < 18446744073709551616) : bits .and .u64 (a : Int) (b : Int) = ((a &&& b : Nat) : Int) := by
  have h : a &&& b ≤ a := Nat.and_le_left
  simp [bits]
  have e : 2 ^ IntKind.u64.bits = 18446744073709551616 := by decide
  rw [e, Nat.mod_eq_of_lt ha, Nat.mod_eq_of_lt hb, IntKind.wrap_u64]
  omega
/-- The group's bit, asked in two ways. -/
theorem grp_bit (x : Int) (h0 : 0 ≤ x) (h1 : x < 18446744073709551616) : (bits .and .u64 (x / 1099511627776) 1 == 1) = !(bits .and .u64 x 1099511627776 == 0) := by
  obtain ⟨n, rfl⟩ := Int.eq_ofNat_of_zero_le h0
  have hn : n < 18446744073709551616 := by omega
  have b1 : bits .and .u64 ((n : Int) / 1099511627776) 1 = ((n / 1099511627776 &&& 1 : Nat) : Int) := by
    have := bits_andN (n / 1099511627776) 1 (by omega) (by decide)
    rw [← this]; simp
  have b2 : bits .and .u64 (n : Int) 1099511627776 = ((n &&& 1099511627776 : Nat) : Int) := bits_andN n 1099511627776 hn (by decide)
  have a1 : (n &&& 1099511627776) = if n / 1099511627776 % 2 = 1 then 1099511627776 else 0 := by
    rw [show (1099511627776 : Nat) = 2 ^ 40 from by decide]
    refine Nat.eq_of_testBit_eq fun j => ?_
    rw [Nat.testBit_and, Nat.testBit_two_pow]
    by_cases hj : 40 = j
    · subst hj
      by_cases h : n / 2 ^ 40 % 2 = 1
      · rw [if_pos h, Nat.testBit_two_pow_self, Nat.testBit_eq_decide_div_mod_eq, h]; simp
      · rw [if_neg h, Nat.testBit_eq_decide_div_mod_eq]; simp [h]
    · by_cases h : n / 2 ^ 40 % 2 = 1
      · rw [if_pos h, Nat.testBit_two_pow_of_ne hj]; simp [hj]
      · rw [if_neg h]; simp [hj]
  rw [b1, b2, a1, Nat.and_one_is_mod]
  by_cases h3 : n / 1099511627776 % 2 = 1
  · rw [if_pos h3, h3]; rfl
  · rw [if_neg h3]
    have : n / 1099511627776 % 2 = 0 := by omega
    rw [this]; rfl
end Go.Proofs.Ytbbadncdkiganab
