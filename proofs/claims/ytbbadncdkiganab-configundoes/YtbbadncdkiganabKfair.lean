/- Fair, Mod. -/
import Derived.Test.YtbbadncdkiganabKwak
namespace Go.Proofs.Ytbbadncdkiganab
open Go.RowKit
set_option linter.unusedVariables false
set_option maxRecDepth 4000
theorem fair_t (p a d : Int) (Ap Av As : Option Addr) (np nv ns cp cv cs : Nat) (h : np ≤ 20 ∧ nv ≤ 40 ∧ ns ≤ 40) (w : World) :
    Calls Try.prog 4 #[.agg #[.int .i64 p, .int .i64 a, .int .i64 d, .slice Ap np cp, .slice Av nv cv, .slice As ns cs]] w fun e w' => e = .returned (.bool true) ∧ Below w.heap.size w w' := by
  obtain ⟨h1, h2, h3⟩ := h
  have g1 : (np : Int) ≤ 20 := by omega
  have g2 : (nv : Int) ≤ 40 := by omega
  have g3 : (ns : Int) ≤ 40 := by omega
  go_enter Try.func4, Try.ntmps4
  go_wp2
  go_ret
  exact ⟨rfl, below_alloc (Below.refl _ _) _⟩
theorem fair_f (p a d : Int) (Ap Av As : Option Addr) (np nv ns cp cv cs : Nat) (h : ¬ (np ≤ 20 ∧ nv ≤ 40 ∧ ns ≤ 40)) (w : World) :
    Calls Try.prog 4 #[.agg #[.int .i64 p, .int .i64 a, .int .i64 d, .slice Ap np cp, .slice Av nv cv, .slice As ns cs]] w fun e w' => e = .returned (.bool false) ∧ Below w.heap.size w w' := by
  by_cases h1 : np ≤ 20
  · have g1 : (np : Int) ≤ 20 := by omega
    by_cases h2 : nv ≤ 40
    · have g2 : (nv : Int) ≤ 40 := by omega
      have g3 : ¬ (ns : Int) ≤ 40 := by omega
      clear h h1 h2
      go_enter Try.func4, Try.ntmps4
      go_wp2
      go_ret
      exact ⟨rfl, below_alloc (Below.refl _ _) _⟩
    · have g2 : ¬ (nv : Int) ≤ 40 := by omega
      clear h h1 h2
      go_enter Try.func4, Try.ntmps4
      go_wp2
      go_ret
      exact ⟨rfl, below_alloc (Below.refl _ _) _⟩
  · have g1 : ¬ (np : Int) ≤ 20 := by omega
    clear h h1
    go_enter Try.func4, Try.ntmps4
    go_wp2
    go_ret
    exact ⟨rfl, below_alloc (Below.refl _ _) _⟩
theorem tmod_facts (k n : Int) (hn : 1 ≤ n) : -n < k.tmod n ∧ k.tmod n < n ∧ (k.tmod n + n) % n = k % n := by
  have e := Int.tmod_eq_emod (a := k) (b := n)
  have h1 := Int.emod_nonneg k (show n ≠ 0 by omega)
  have h2 := Int.emod_lt_of_pos k (show 0 < n by omega)
  have hna : (n.natAbs : Int) = n := by omega
  by_cases hc : 0 ≤ k ∨ n ∣ k
  · rw [if_pos hc] at e
    have e' : k.tmod n = k % n := by omega
    refine ⟨by omega, by omega, ?_⟩
    rw [Int.add_emod_right, e', Int.emod_emod_of_dvd _ (Int.dvd_refl n)]
  · rw [if_neg hc, hna] at e
    have h3 : k % n ≠ 0 := fun h => hc (.inr (Int.dvd_of_emod_eq_zero h))
    refine ⟨by omega, by omega, ?_⟩
    have e2 : k.tmod n + n = k % n := by omega
    rw [e2, Int.emod_emod_of_dvd _ (Int.dvd_refl n)]
end Go.Proofs.Ytbbadncdkiganab
