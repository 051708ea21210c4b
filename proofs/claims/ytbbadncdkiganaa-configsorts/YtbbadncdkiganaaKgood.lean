/- Whether a configuration may be: sizes and numbers. -/
import Derived.Test.YtbbadncdkiganaaKris
namespace Go.Proofs.Ytbbadncdkiganaa
open Go.RowKit
set_option linter.unusedVariables false
set_option maxRecDepth 4000

theorem within_t {x a b : Int} (h : wi x a b = true) (w : World) : Calls Try.prog 42 #[.int .i64 x, .int .i64 a, .int .i64 b] w fun e w' => e = .returned (.bool true) ∧ w' = w := by
  have := within_any x a b w
  rw [h] at this
  exact this
theorem within_f {x a b : Int} (h : wi x a b = false) (w : World) : Calls Try.prog 42 #[.int .i64 x, .int .i64 a, .int .i64 b] w fun e w' => e = .returned (.bool false) ∧ w' = w := by
  have := within_any x a b w
  rw [h] at this
  exact this
set_option maxHeartbeats 1000000 in
theorem sizes_any (x0 x1 x2 : Int) (Ap Av As : Option Addr) (np cp nv cv ns cs : Nat) (hp : np ≤ maxLen) (hv : nv ≤ maxLen) (hs : ns ≤ maxLen) (w : World) :
    Calls Try.prog 27 #[.agg #[.int .i64 x0, .int .i64 x1, .int .i64 x2, .slice Ap np cp, .slice Av nv cv, .slice As ns cs]] w fun e w' => e = .returned (.bool (wi np 1 8 && wi nv 1 16 && decide ((ns : Int) ≤ 16))) ∧ Below w.heap.size w w' := by
  unfold maxLen at hp hv hs
  have hb : Hid (∀ o, Below w.heap.size w (w.alloc o)) := fun o => below_alloc (Below.refl _ _) o
  cases h1 : wi np 1 8 with
  | false =>
    have g1 := hide (within_f h1)
    go_enter Try.func27, Try.ntmps27
    go_wp2_with (go_at_call 42; (with_reducible refine (unhide g1 _).mono ?_); rintro e w' ⟨rfl, rfl⟩)
    go_ret
    exact ⟨rfl, unhide hb _⟩
  | true =>
    have g1 := hide (within_t h1)
    cases h2 : wi nv 1 16 with
    | false =>
      have g2 := hide (within_f h2)
      go_enter Try.func27, Try.ntmps27
      go_wp2_with (first | (go_at_call 42; (with_reducible refine (unhide g1 _).mono ?_); rintro e w' ⟨rfl, rfl⟩) | (go_at_call 42; (with_reducible refine (unhide g2 _).mono ?_); rintro e w' ⟨rfl, rfl⟩))
      go_ret
      exact ⟨rfl, unhide hb _⟩
    | true =>
      have g2 := hide (within_t h2)
      by_cases h3 : (ns : Int) ≤ 16
      all_goals
        go_enter Try.func27, Try.ntmps27
        go_wp2_with (first | (go_at_call 42; (with_reducible refine (unhide g1 _).mono ?_); rintro e w' ⟨rfl, rfl⟩) | (go_at_call 42; (with_reducible refine (unhide g2 _).mono ?_); rintro e w' ⟨rfl, rfl⟩))
        go_ret
        exact ⟨ret_bool (by simp <;> omega), unhide hb _⟩
def treeI (prio age delay : Int) : Bool := wi prio 0 61440 && decide (prio % 4096 = 0) && wi age 6 40 && wi delay 4 30 && decide (age ≤ 2 * (delay - 1))
set_option maxHeartbeats 2000000 in
theorem tree_any (prio age delay : Int) (vp vv vs : Value) (w : World) :
    Calls Try.prog 28 #[.agg #[.int .i64 prio, .int .i64 age, .int .i64 delay, vp, vv, vs]] w fun e w' => e = .returned (.bool (treeI prio age delay)) ∧ Below w.heap.size w w' := by
  have hb : Hid (∀ o, Below w.heap.size w (w.alloc o)) := fun o => below_alloc (Below.refl _ _) o
  unfold treeI
  cases h1 : wi prio 0 61440 with
  | false =>
    have g1 := hide (within_f h1)
    go_enter Try.func28, Try.ntmps28
    go_wp2_with (go_at_call 42; (with_reducible refine (unhide g1 _).mono ?_); rintro e w' ⟨rfl, rfl⟩)
    go_ret
    exact ⟨rfl, unhide hb _⟩
  | true =>
    have g1 := hide (within_t h1)
    obtain ⟨p1, p2⟩ := wi_t h1
    by_cases h2 : prio % 4096 = 0
    · cases h3 : wi age 6 40 with
      | false =>
        have g3 := hide (within_f h3)
        go_enter Try.func28, Try.ntmps28
        go_wp2_with (first | (go_at_call 42; (with_reducible refine (unhide g1 _).mono ?_); rintro e w' ⟨rfl, rfl⟩) | (go_at_call 42; (with_reducible refine (unhide g3 _).mono ?_); rintro e w' ⟨rfl, rfl⟩))
        go_ret
        exact ⟨ret_bool (by simp), unhide hb _⟩
      | true =>
        have g3 := hide (within_t h3)
        obtain ⟨a1, a2⟩ := wi_t h3
        cases h4 : wi delay 4 30 with
        | false =>
          have g4 := hide (within_f h4)
          go_enter Try.func28, Try.ntmps28
          go_wp2_with (first | (go_at_call 42; (with_reducible refine (unhide g1 _).mono ?_); rintro e w' ⟨rfl, rfl⟩) | (go_at_call 42; (with_reducible refine (unhide g3 _).mono ?_); rintro e w' ⟨rfl, rfl⟩) | (go_at_call 42; (with_reducible refine (unhide g4 _).mono ?_); rintro e w' ⟨rfl, rfl⟩))
          go_ret
          exact ⟨ret_bool (by simp), unhide hb _⟩
        | true =>
          have g4 := hide (within_t h4)
          obtain ⟨d1, d2⟩ := wi_t h4
          by_cases h5 : age ≤ 2 * (delay - 1)
          all_goals
            go_enter Try.func28, Try.ntmps28
            go_wp2_with (first | (go_at_call 42; (with_reducible refine (unhide g1 _).mono ?_); rintro e w' ⟨rfl, rfl⟩) | (go_at_call 42; (with_reducible refine (unhide g3 _).mono ?_); rintro e w' ⟨rfl, rfl⟩) | (go_at_call 42; (with_reducible refine (unhide g4 _).mono ?_); rintro e w' ⟨rfl, rfl⟩))
            go_ret
            exact ⟨ret_bool (by simp [h2, h5]), unhide hb _⟩
    · go_enter Try.func28, Try.ntmps28
      go_wp2_with (go_at_call 42; (with_reducible refine (unhide g1 _).mono ?_); rintro e w' ⟨rfl, rfl⟩)
      go_ret
      exact ⟨ret_bool (by simp [h2]), unhide hb _⟩
end Go.Proofs.Ytbbadncdkiganaa
