/- The walk of EntryNeeds. -/
import Derived.Test.YtfpbbedgadmbdaaWk
namespace Go.Proofs.Ytfpbbedgadmbdaa
open Go.RowKit
set_option linter.unusedVariables false

theorem needI_out {n : Int} (h : n < 0 ∨ 4000 < n) : needI n = 0 := by unfold needI; rw [if_pos h]
theorem needI_in {n : Int} (h : 0 ≤ n ∧ n ≤ 4000) : needI n = (n + 77) / 63 := by unfold needI; rw [if_neg (by omega)]

set_option maxHeartbeats 1000000 in
theorem needs_walk (n : Int) (hn : -9223372036854775808 ≤ n ∧ n ≤ 9223372036854775807) (w : World) :
    Calls Try.prog 6 #[.int .i64 n] w fun e w' => e = .returned (.bool true) ∧ Below w.heap.size w w' := by
  obtain ⟨n1, n2⟩ := hn
  by_cases h1 : n < 0
  · have HA := hide (needI_out (.inl h1))
    go_enter Try.func6, Try.ntmps6
    go_wp2_with (first
      | (go_at_call 14; refine (need_any _ ?_ _).mono ?_; (focus omega); rintro x w2 ⟨rfl, rfl⟩; first | rw [unhide HA] | skip)
      | (go_at_call 7; refine (wakes_go _).mono ?_; rintro x w3 ⟨rfl, hb⟩))
    go_ret
    exact ⟨rfl, hb⟩
  · by_cases h2 : 4000 < n
    · have HA := hide (needI_out (.inr h2))
      by_cases h3 : n = 9223372036854775807
      · subst h3
        go_enter Try.func6, Try.ntmps6
        go_wp2_with (first
          | (go_at_call 14; refine (need_any _ ?_ _).mono ?_; (focus (first | omega | (unfold wrap64; omega))); rintro x w2 ⟨rfl, rfl⟩; first | rw [unhide HA] | skip)
          | (go_at_call 7; refine (wakes_go _).mono ?_; rintro x w3 ⟨rfl, hb⟩))
        go_ret
        exact ⟨rfl, hb⟩
      · have h4 : n ≤ 9223372036854775806 := by omega
        clear h3 n2
        go_enter Try.func6, Try.ntmps6
        go_wp2_with (first
          | (go_at_call 14; refine (need_any _ ?_ _).mono ?_; (focus omega); rintro x w2 ⟨rfl, rfl⟩; first | rw [unhide HA] | skip)
          | (go_at_call 7; refine (wakes_go _).mono ?_; rintro x w3 ⟨rfl, hb⟩))
        go_ret
        exact ⟨rfl, hb⟩
    · have h3 : 0 ≤ n := by omega
      have h4 : n ≤ 4000 := by omega
      have HA := hide (needI_in ⟨h3, h4⟩)
      clear h1 h2 n1 n2
      by_cases h5 : n < 4000
      · have HB := hide (needI_in (n := n + 1) ⟨by omega, by omega⟩)
        have hB : (n + 1 + 77) / 63 = (n + 77) / 63 ∨ (n + 1 + 77) / 63 = (n + 77) / 63 + 1 := by omega
        have a1 : n + 15 ≤ 63 * ((n + 77) / 63) := by omega
        have a2 : 63 * ((n + 77) / 63 - 1) < n + 15 := by omega
        have a3 : 0 ≤ (n + 77) / 63 := by omega
        have a4 : (n + 77) / 63 ≤ 100 := by omega
        generalize (n + 77) / 63 = a at *
        generalize (n + 1 + 77) / 63 = b at *
        rcases hB with rfl | rfl
        all_goals
          go_enter Try.func6, Try.ntmps6
          go_wp2_with (first
            | (go_at_call 14; refine (need_any _ ?_ _).mono ?_; (focus omega); rintro x w2 ⟨rfl, rfl⟩; first | rw [unhide HA] | rw [unhide HB])
            | (go_at_call 7; refine (wakes_go _).mono ?_; rintro x w3 ⟨rfl, hb⟩))
          go_ret
          exact ⟨rfl, hb⟩
      · obtain rfl : n = 4000 := by omega
        go_enter Try.func6, Try.ntmps6
        go_wp2_with (first
          | (go_at_call 14; refine (need_any _ ?_ _).mono ?_; (focus omega); rintro x w2 ⟨rfl, rfl⟩; first | rw [unhide HA] | rw [show needI 4001 = 0 from by decide])
          | (go_at_call 7; refine (wakes_go _).mono ?_; rintro x w3 ⟨rfl, hb⟩))
        go_ret
        exact ⟨rfl, hb⟩
end Go.Proofs.Ytfpbbedgadmbdaa
