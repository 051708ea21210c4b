/- The reference's Good. -/
import Derived.Test.YthonngnmdciheaaGz
namespace Go.Proofs.Ythonngnmdciheaa
open Go.RowKit
set_option linter.unusedVariables false
set_option maxHeartbeats 4000000 in
theorem rfgood_any (f : Fr) (hf : f.Fit) (A : Option Addr) (c : Nat) (w : World) : Calls Try.prog 14 #[.agg #[.int .u64 (f.dst : Int), .int .u64 (f.src : Int), .bool f.tag, .int .i64 f.prio, .int .i64 f.vid, .int .i64 f.kind, .slice A f.bs.length c]] w fun e w' => e = .returned (.bool (goodF f)) ∧ Below w.heap.size w w' := by
  have G1 := hide (fun W => rgood_any f.dst W)
  have G2 := hide (fun W => rgood_any f.src W)
  have G3 := hide (fun W => rgroup_any f.src hf.src W)
  have hl := hf.len
  obtain ⟨_, _, hp, hv, hk, _, _⟩ := hf
  unfold I64 at hp hv hk
  rw [goodF_eq]
  unfold placesF
  obtain ⟨d, s, t, p, v, k, bs⟩ := f
  simp only at *
  generalize goodN d = b1 at *
  generalize goodN s = b2 at *
  generalize groupN s = b3 at *
  have A1 : Hid (∀ b2 b3 : Bool, ((false && (b2 && !b3)) && (tagF ⟨d, s, t, p, v, k, bs⟩ && (kindF k && decide ((bs.length : Int) ≤ 1518 - (leastN t : Int))))) = false) := by intro b2 b3; simp
  cases b1
  · go_enter Try.func14, Try.ntmps14
    cases t
    all_goals
      go_wp2_with (go_at_call 35; with_reducible refine (unhide G1 _).mono ?_; rintro e w' ⟨rfl, rfl⟩)
      go_ret
      exact ⟨rfl, below_alloc (Below.refl _ _) _⟩
  cases b2
  · go_enter Try.func14, Try.ntmps14
    cases t
    all_goals
      go_wp2_with (first | (go_at_call 35; with_reducible refine (unhide G1 _).mono ?_; rintro e w' ⟨rfl, rfl⟩) | (go_at_call 35; with_reducible refine (unhide G2 _).mono ?_; rintro e w' ⟨rfl, rfl⟩))
      go_ret
      exact ⟨rfl, below_alloc (Below.refl _ _) _⟩
  cases b3
  case true =>
    go_enter Try.func14, Try.ntmps14
    cases t
    all_goals
      go_wp2_with (first | (go_at_call 35; with_reducible refine (unhide G1 _).mono ?_; rintro e w' ⟨rfl, rfl⟩) | (go_at_call 35; with_reducible refine (unhide G2 _).mono ?_; rintro e w' ⟨rfl, rfl⟩) | (go_at_call 36; with_reducible refine (unhide G3 _).mono ?_; rintro e w' ⟨rfl, rfl⟩))
      go_ret
      exact ⟨rfl, below_alloc (Below.refl _ _) _⟩
  by_cases hk1 : k < 0
  · go_enter Try.func14, Try.ntmps14
    cases t
    all_goals
      go_wp2_with (first | (go_at_call 35; with_reducible refine (unhide G1 _).mono ?_; rintro e w' ⟨rfl, rfl⟩) | (go_at_call 35; with_reducible refine (unhide G2 _).mono ?_; rintro e w' ⟨rfl, rfl⟩) | (go_at_call 36; with_reducible refine (unhide G3 _).mono ?_; rintro e w' ⟨rfl, rfl⟩))
      go_ret
      exact ⟨ret_bool (by simp [kindF]; omega), below_alloc (Below.refl _ _) _⟩
  by_cases hk2 : 65535 < k
  · go_enter Try.func14, Try.ntmps14
    cases t
    all_goals
      go_wp2_with (first | (go_at_call 35; with_reducible refine (unhide G1 _).mono ?_; rintro e w' ⟨rfl, rfl⟩) | (go_at_call 35; with_reducible refine (unhide G2 _).mono ?_; rintro e w' ⟨rfl, rfl⟩) | (go_at_call 36; with_reducible refine (unhide G3 _).mono ?_; rintro e w' ⟨rfl, rfl⟩))
      go_ret
      exact ⟨ret_bool (by simp [kindF]; omega), below_alloc (Below.refl _ _) _⟩
  by_cases hk3 : k = 33024
  · subst hk3
    go_enter Try.func14, Try.ntmps14
    cases t
    all_goals
      go_wp2_with (first | (go_at_call 35; with_reducible refine (unhide G1 _).mono ?_; rintro e w' ⟨rfl, rfl⟩) | (go_at_call 35; with_reducible refine (unhide G2 _).mono ?_; rintro e w' ⟨rfl, rfl⟩) | (go_at_call 36; with_reducible refine (unhide G3 _).mono ?_; rintro e w' ⟨rfl, rfl⟩))
      go_ret
      exact ⟨ret_bool (by simp [kindF]), below_alloc (Below.refl _ _) _⟩
  have hk3b : (k == 33024) = false := by simpa using hk3
  cases t
  · by_cases h1 : p = 0 <;> by_cases h2 : v = 0 <;> by_cases h3 : (1504 : Int) < bs.length
    all_goals
      go_enter Try.func14, Try.ntmps14
      go_wp2_with (first | (go_at_call 35; with_reducible refine (unhide G1 _).mono ?_; rintro e w' ⟨rfl, rfl⟩) | (go_at_call 35; with_reducible refine (unhide G2 _).mono ?_; rintro e w' ⟨rfl, rfl⟩) | (go_at_call 36; with_reducible refine (unhide G3 _).mono ?_; rintro e w' ⟨rfl, rfl⟩))
      go_ret
      exact ⟨ret_bool (by simp [kindF, tagF, leastN, h1, h2, h3] <;> omega), below_alloc (Below.refl _ _) _⟩
  · by_cases h3 : (1500 : Int) < bs.length
    · go_enter Try.func14, Try.ntmps14
      go_wp2_with (first | (go_at_call 35; with_reducible refine (unhide G1 _).mono ?_; rintro e w' ⟨rfl, rfl⟩) | (go_at_call 35; with_reducible refine (unhide G2 _).mono ?_; rintro e w' ⟨rfl, rfl⟩) | (go_at_call 36; with_reducible refine (unhide G3 _).mono ?_; rintro e w' ⟨rfl, rfl⟩))
      go_ret
      exact ⟨ret_bool (by simp [kindF, tagF, leastN, h3] <;> omega), below_alloc (Below.refl _ _) _⟩
    · by_cases h1 : 0 ≤ p <;> by_cases h2 : p ≤ 7 <;> by_cases h4 : 0 ≤ v <;> by_cases h5 : v ≤ 4095 <;> (try omega)
      all_goals
        go_enter Try.func14, Try.ntmps14
        go_wp2_with (first | (go_at_call 35; with_reducible refine (unhide G1 _).mono ?_; rintro e w' ⟨rfl, rfl⟩) | (go_at_call 35; with_reducible refine (unhide G2 _).mono ?_; rintro e w' ⟨rfl, rfl⟩) | (go_at_call 36; with_reducible refine (unhide G3 _).mono ?_; rintro e w' ⟨rfl, rfl⟩))
        go_ret
        exact ⟨ret_bool (by simp [kindF, tagF, leastN, h1, h2, h3, h4, h5] <;> omega), below_alloc (Below.refl _ _) _⟩
end Go.Proofs.Ythonngnmdciheaa
