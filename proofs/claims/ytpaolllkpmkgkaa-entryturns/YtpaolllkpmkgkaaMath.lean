/- Plain mathematics of the sum: lists of integers alone; no program. -/
namespace Go.Proofs.Ytpaolllkpmkgkaa

/-- The two halves of a sum behind the bytes of a list. -/
def adl : List Int → Int × Int → Int × Int
  | [], p => p
  | x :: r, p => adl r ((p.1 + x) % 65521, (p.2 + (p.1 + x) % 65521) % 65521)

theorem adl_append (xs ys : List Int) (p : Int × Int) : adl (xs ++ ys) p = adl ys (adl xs p) := by
  induction xs generalizing p with
  | nil => rfl
  | cons x r ih => simp only [List.cons_append, adl]; exact ih _

theorem adl_snoc (xs : List Int) (x : Int) (p : Int × Int) :
    adl (xs ++ [x]) p = (((adl xs p).1 + x) % 65521, ((adl xs p).2 + ((adl xs p).1 + x) % 65521) % 65521) := by
  rw [adl_append]; rfl

def Lim (p : Int × Int) : Prop := 0 ≤ p.1 ∧ p.1 < 65521 ∧ 0 ≤ p.2 ∧ p.2 < 65521

theorem adl_lim (xs : List Int) (p : Int × Int) (h : Lim p) : Lim (adl xs p) := by
  induction xs generalizing p with
  | nil => exact h
  | cons x r ih =>
    apply ih
    refine ⟨?_, ?_, ?_, ?_⟩ <;> simp only <;> omega

/-- The halves that a sum is read as. -/
def halves (s : Int) : Int × Int := (s % 65536 % 65521, s / 65536 % 65521)

theorem halves_lim (s : Int) : Lim (halves s) := by
  refine ⟨?_, ?_, ?_, ?_⟩ <;> simp only [halves] <;> omega

def join (p : Int × Int) : Int := p.2 * 65536 + p.1

theorem join_lim (p : Int × Int) (h : Lim p) : 0 ≤ join p ∧ join p ≤ 4294967295 := by
  obtain ⟨h1, h2, h3, h4⟩ := h
  unfold join; omega

theorem halves_join (p : Int × Int) (h : Lim p) : halves (join p) = p := by
  obtain ⟨h1, h2, h3, h4⟩ := h
  obtain ⟨a, b⟩ := p
  simp only at h1 h2 h3 h4
  simp only [halves, join, Prod.mk.injEq]
  omega

def more (s : Int) (bs : List Int) : Int := join (adl bs (halves s))

theorem more_lim (s : Int) (bs : List Int) : 0 ≤ more s bs ∧ more s bs ≤ 4294967295 := join_lim _ (adl_lim _ _ (halves_lim s))

def sums (s : Int) : List (List Int) → Int
  | [] => s
  | p :: r => sums (more s p) r

theorem sums_append (s : Int) (xs ys : List (List Int)) : sums s (xs ++ ys) = sums (sums s xs) ys := by
  induction xs generalizing s with
  | nil => rfl
  | cons x r ih => simp only [List.cons_append, sums]; exact ih _

theorem sums_snoc (s : Int) (xs : List (List Int)) (x : List Int) : sums s (xs ++ [x]) = more (sums s xs) x := by
  rw [sums_append]; rfl

theorem sums_lim (s : Int) (xs : List (List Int)) (h : 0 ≤ s ∧ s ≤ 4294967295) : 0 ≤ sums s xs ∧ sums s xs ≤ 4294967295 := by
  induction xs generalizing s with
  | nil => exact h
  | cons x r ih => exact ih _ (more_lim _ _)

/-- A sum that is one: both its halves are below the prime. -/
def Fine (s : Int) : Prop := ∃ p, Lim p ∧ s = join p
theorem fine_one : Fine 1 := ⟨(1, 0), by simp [Lim], rfl⟩
theorem fine_more (s : Int) (bs : List Int) : Fine (more s bs) := ⟨_, adl_lim _ _ (halves_lim s), rfl⟩
theorem fine_sums (s : Int) (xs : List (List Int)) (h : Fine s) : Fine (sums s xs) := by
  induction xs generalizing s with
  | nil => exact h
  | cons x r ih => exact ih _ (fine_more _ _)

theorem more_nil (s : Int) (h : Fine s) : more s [] = s := by
  obtain ⟨p, hp, rfl⟩ := h
  simp only [more, adl]; rw [halves_join p hp]

theorem more_append (s : Int) (xs ys : List Int) : more s (xs ++ ys) = more (more s xs) ys := by
  simp only [more]
  rw [adl_append, halves_join _ (adl_lim _ _ (halves_lim s))]

/-- The sum of parts is the sum of their bytes. -/
theorem sums_flat (s : Int) (xs : List (List Int)) (h : Fine s) : sums s xs = more s xs.flatten := by
  induction xs generalizing s with
  | nil => simp only [sums, List.flatten_nil]; rw [more_nil s h]
  | cons x r ih => simp only [sums, List.flatten_cons]; rw [ih _ (fine_more _ _), more_append]

theorem tmod_facts (k n : Int) (hn : 1 ≤ n) : -n < k.tmod n ∧ k.tmod n < n ∧ (k.tmod n + n) % n = k % n := by
  have e := Int.tmod_eq_emod (a := k) (b := n)
  have h1 := Int.emod_nonneg k (show n ≠ 0 by omega)
  have h2 := Int.emod_lt_of_pos k (show 0 < n by omega)
  have hna : (n.natAbs : Int) = n := by omega
  by_cases hc : 0 ≤ k ∨ n ∣ k
  · rw [if_pos hc] at e
    have e' : k.tmod n = k % n := by omega
    refine ⟨by omega, by omega, ?_⟩
    rw [Int.add_emod_right, e', Int.emod_emod_of_dvd _ (Int.dvd_refl n)]
  · rw [if_neg hc, hna] at e
    have h3 : k % n ≠ 0 := fun h => hc (.inr (Int.dvd_of_emod_eq_zero h))
    refine ⟨by omega, by omega, ?_⟩
    have e2 : k.tmod n + n = k % n := by omega
    rw [e2, Int.emod_emod_of_dvd _ (Int.dvd_refl n)]

end Go.Proofs.Ytpaolllkpmkgkaa
