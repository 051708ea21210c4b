/- Plain mathematics: one byte turned, two bytes swapped, one byte more. -/
import Derived.Test.YtpaolllkpmkgkaaMath
namespace Go.Proofs.Ytpaolllkpmkgkaa

def tot : List Int → Int
  | [] => 0
  | x :: r => x + tot r
def wei : List Int → Int
  | [] => 0
  | x :: r => ((r.length : Int) + 1) * x + wei r

theorem adl_low (bs : List Int) (p : Int × Int) : (65521 : Int) ∣ (adl bs p).1 - (p.1 + tot bs) := by
  induction bs generalizing p with
  | nil => simp [adl, tot]
  | cons x r ih =>
    have h := ih ((p.1 + x) % 65521, (p.2 + (p.1 + x) % 65521) % 65521)
    simp only [adl, tot] at h ⊢
    omega

theorem adl_high (bs : List Int) (p : Int × Int) : (65521 : Int) ∣ (adl bs p).2 - (p.2 + (bs.length : Int) * p.1 + wei bs) := by
  induction bs generalizing p with
  | nil => simp [adl, wei]
  | cons x r ih =>
    have h := ih ((p.1 + x) % 65521, (p.2 + (p.1 + x) % 65521) % 65521)
    simp only [adl, wei, List.length_cons] at h ⊢
    obtain ⟨q, hq⟩ := h
    have e1 := Int.emod_add_mul_ediv (p.1 + x) 65521
    have e2 := Int.emod_add_mul_ediv (p.2 + (p.1 + x) % 65521) 65521
    generalize (p.1 + x) % 65521 = u at *
    generalize (p.1 + x) / 65521 = u' at *
    generalize (p.2 + u) % 65521 = v at *
    generalize (p.2 + u) / 65521 = v' at *
    refine ⟨q - v' - u' - (r.length : Int) * u', ?_⟩
    have e3 : u = p.1 + x - 65521 * u' := by omega
    subst e3
    have e4 : v = p.2 + (p.1 + x - 65521 * u') - 65521 * v' := by omega
    subst e4
    have e5 : (r.length : Int) * (65521 * u') = 65521 * ((r.length : Int) * u') := Int.mul_left_comm _ _ _
    have e6 : ((r.length + 1 : Nat) : Int) = (r.length : Int) + 1 := by omega
    rw [e6]
    simp only [Int.mul_add, Int.add_mul, Int.mul_sub, Int.one_mul, e5] at hq ⊢
    omega

theorem tot_set (bs : List Int) (i : Nat) (v : Int) (h : i < bs.length) : tot (bs.set i v) = tot bs + v - bs.getD i 0 := by
  induction bs generalizing i with
  | nil => simp at h
  | cons x r ih =>
    cases i with
    | zero => simp [tot]; omega
    | succ i =>
      have := ih i (by simpa using h)
      simp [tot] at this ⊢
      omega

theorem wei_set (bs : List Int) (i : Nat) (v : Int) (h : i < bs.length) : wei (bs.set i v) = wei bs + ((bs.length : Int) - i) * (v - bs.getD i 0) := by
  induction bs generalizing i with
  | nil => simp at h
  | cons x r ih =>
    cases i with
    | zero => simp [wei, Int.mul_sub]; omega
    | succ i =>
      have := ih i (by simpa using h)
      simp only [wei, List.set_cons_succ, List.length_set, List.getD_cons_succ, List.length_cons] at this ⊢
      rw [this]
      have e6 : ((r.length + 1 : Nat) : Int) - ((i + 1 : Nat) : Int) = (r.length : Int) - (i : Int) := by omega
      rw [e6]
      omega

theorem join_inj {p q : Int × Int} (hp : Lim p) (hq : Lim q) (h : join p = join q) : p = q := by
  have := congrArg halves h
  rwa [halves_join p hp, halves_join q hq] at this

theorem sums_one (bs : List Int) : sums 1 [bs] = join (adl bs (1, 0)) := by
  simp only [sums, more]; rfl

theorem one_lim : Lim (1, 0) := by simp [Lim]

theorem turn_eq (bs : List Int) (i : Nat) (v : Int) (h : i < bs.length) (hv : 0 ≤ v ∧ v ≤ 255) (hx : 0 ≤ bs.getD i 0 ∧ bs.getD i 0 ≤ 255) :
    (sums 1 [bs.set i v] == sums 1 [bs]) = (v == bs.getD i 0) := by
  by_cases e : v = bs.getD i 0
  · have : bs.set i v = bs := by
      apply List.ext_getElem?
      intro k
      rw [List.getElem?_set]
      split
      · rename_i hk; subst hk; rw [e, List.getD_eq_getElem?_getD, List.getElem?_eq_getElem h]; rfl
      · rfl
    rw [this, e]; simp
  · have h2 : sums 1 [bs.set i v] ≠ sums 1 [bs] := by
      rw [sums_one, sums_one]
      intro hj
      have hp := join_inj (adl_lim _ _ one_lim) (adl_lim _ _ one_lim) hj
      have l1 := adl_low (bs.set i v) (1, 0)
      have l2 := adl_low bs (1, 0)
      rw [hp, tot_set bs i v h] at l1
      have := congrArg Prod.fst hp
      simp only at l1 l2
      omega
    rw [beq_eq_false_iff_ne.2 h2, beq_eq_false_iff_ne.2 e]

theorem cop : ∀ d : Fin 256, d.val = 0 ∨ Nat.gcd 65521 d.val = 1 := by decide +kernel

theorem not_dvd (m d : Nat) (hm : 0 < m) (hm2 : m < 65521) (hd : 0 < d) (hd2 : d < 256) : ¬ 65521 ∣ m * d := by
  intro h
  have hg : Nat.Coprime 65521 d := by
    rcases cop ⟨d, hd2⟩ with h | h
    · simp at h; omega
    · exact h
  have := Nat.le_of_dvd hm (hg.dvd_of_dvd_mul_right h)
  omega

theorem not_dvd_int (m d : Int) (hm : m ≠ 0) (hm1 : -65521 < m) (hm2 : m < 65521) (hd : d ≠ 0) (hd1 : -256 < d) (hd2 : d < 256) : ¬ (65521 : Int) ∣ m * d := by
  intro h
  have h2 : (65521 : Nat) ∣ m.natAbs * d.natAbs := by
    rw [← Int.natAbs_mul]
    exact Int.natAbs_dvd_natAbs.2 h
  exact not_dvd m.natAbs d.natAbs (by omega) (by omega) (by omega) (by omega) h2

theorem swap_eq (bs : List Int) (i j : Nat) (hi : i < bs.length) (hj : j < bs.length) (hl : bs.length ≤ 20000) (hx : 0 ≤ bs.getD i 0 ∧ bs.getD i 0 ≤ 255) (hy : 0 ≤ bs.getD j 0 ∧ bs.getD j 0 ≤ 255) :
    (sums 1 [(bs.set i (bs.getD j 0)).set j (bs.getD i 0)] == sums 1 [bs]) = (bs.getD i 0 == bs.getD j 0) := by
  have self : ∀ (l : List Int) (k : Nat), k < l.length → l.set k (l.getD k 0) = l := by
    intro l k hk
    apply List.ext_getElem?
    intro m
    rw [List.getElem?_set]
    split
    · rename_i hk'; subst hk'; rw [List.getD_eq_getElem?_getD, List.getElem?_eq_getElem hk]; rfl
    · rfl
  by_cases e : bs.getD i 0 = bs.getD j 0
  · rw [← e, self bs i hi, e, self bs j hj]; simp
  · have hij : i ≠ j := by rintro rfl; exact e rfl
    have gj : (bs.set i (bs.getD j 0)).getD j 0 = bs.getD j 0 := by
      rw [List.getD_eq_getElem?_getD, List.getElem?_set, if_neg hij, ← List.getD_eq_getElem?_getD]
    have h2 : sums 1 [(bs.set i (bs.getD j 0)).set j (bs.getD i 0)] ≠ sums 1 [bs] := by
      rw [sums_one, sums_one]
      intro hjn
      have hp := join_inj (adl_lim _ _ one_lim) (adl_lim _ _ one_lim) hjn
      have l1 := adl_high ((bs.set i (bs.getD j 0)).set j (bs.getD i 0)) (1, 0)
      have l2 := adl_high bs (1, 0)
      rw [hp, wei_set _ j _ (by simpa using hj), gj, wei_set bs i _ hi] at l1
      simp only [List.length_set] at l1 l2
      have h3 : (65521 : Int) ∣ ((j : Int) - i) * (bs.getD j 0 - bs.getD i 0) := by
        have h4 := Int.dvd_sub l2 l1
        have e4 : ((adl bs (1, 0)).2 - (0 + (bs.length : Int) * 1 + wei bs)) - ((adl bs (1, 0)).2 - (0 + (bs.length : Int) * 1 + (wei bs + ((bs.length : Int) - i) * (bs.getD j 0 - bs.getD i 0) + ((bs.length : Int) - j) * (bs.getD i 0 - bs.getD j 0)))) = ((j : Int) - i) * (bs.getD j 0 - bs.getD i 0) := by
          simp only [Int.sub_mul, Int.mul_sub]
          omega
        rwa [e4] at h4
      exact not_dvd_int _ _ (by omega) (by omega) (by omega) (by omega) (by omega) (by omega) h3
    rw [beq_eq_false_iff_ne.2 h2, beq_eq_false_iff_ne.2 e]

end Go.Proofs.Ytpaolllkpmkgkaa
