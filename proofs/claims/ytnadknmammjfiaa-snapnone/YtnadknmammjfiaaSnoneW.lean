/- SnapNone. -/
import Derived.Test.YtnadknmammjfiaaSwk
namespace Go.Proofs.Ytnadknmammjfiaa
open Go.RowKit
set_option linter.unusedVariables false
set_option maxRecDepth 4000

set_option maxHeartbeats 2000000 in
theorem snone_walk (ep : Int) (A : Option Addr) (n c : Nat) (v : Int) (hv : 0 ≤ v ∧ v ≤ 255) (hn : n ≤ maxLen) (w : World) :
    Calls Try.prog 5 #[.int .u32 ep, .slice A n c, .int .u8 v] w fun e w' => e = .returned (.bool true) ∧ Below w.heap.size w w' := by
  have hml : maxLen = 9223372036854775807 := rfl
  rw [hml] at hn
  by_cases h : 3000 < n
  · have h' : (3000 : Int) < (n : Int) := by omega
    go_enter Try.func5, Try.ntmps5
    go_wp2_with (go_at_call 9; refine (wakesS _).mono ?_; rintro e w3 ⟨rfl, hb⟩)
    go_ret
    exact ⟨rfl, hb⟩
  · have h' : ¬ (3000 : Int) < (n : Int) := by omega
    obtain ⟨k, hk, hk1, hk2⟩ : ∃ k : Nat, (k : Int) = 1 + v % 31 ∧ 1 ≤ k ∧ k ≤ 31 := ⟨(1 + v % 31).toNat, by omega, by omega, by omega⟩
    have hm : v.tmod 31 = v % 31 := Int.tmod_eq_emod_of_nonneg hv.1
    have HNW : Hid (Calls Try.prog 10 #[.int .i64 (1 + v % 31)] w fun e w' => ∃ g gs, e = .returned (.tuple #[.pointer (some ⟨g, 0, none⟩), .int .i64 0]) ∧ Dsk 71 82 w' w.heap.size g gs (List.replicate k zeroS) [] ∧ Below w.heap.size w w') := by
      have := new_yes k hk1 (by omega) w
      rw [hk] at this
      exact this
    obtain ⟨hv1, hv2⟩ := hv
    have hr : 0 ≤ v % 31 ∧ v % 31 ≤ 30 := by omega
    go_enter Try.func5, Try.ntmps5
    go_wp2_with (first
      | (go_at_call 10; (with_reducible refine (unhide HNW).mono ?_); rintro e w1 ⟨g, gs, rfl, hd1, hb1⟩; have HD1 := hide hd1; have HB1 := hide hb1; clear hd1 hb1)
      | (go_at_call 14; (with_reducible refine (load_nil _).mono ?_); rintro e w3 ⟨rfl, rfl⟩)
      | (go_at_call 14; (with_reducible refine (load_no _ (unhide HD1) (by simp; omega)).mono ?_); rintro e w3 ⟨rfl, rfl⟩)
      | (go_at_call 12; (with_reducible refine (Save_nil _ _ _ _ _).mono ?_); rintro e w3 ⟨rfl, rfl⟩)
      | (go_at_call 12; (with_reducible refine (Save_no _ (unhide HD1) (by simp; omega) _ _ _ _).mono ?_); rintro e w3 ⟨rfl, rfl⟩)
      | (go_at_call 9; (with_reducible refine (wakesS _).mono ?_); rintro e w9 ⟨rfl, hb9⟩))
    go_ret
    exact ⟨rfl, below_then (unhide HB1) hb9⟩
end Go.Proofs.Ytnadknmammjfiaa
