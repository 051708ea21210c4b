/- The walk of TallyParts at a slice without room. -/
import Derived.Test.YtfbebnddedkcbaaPartsW
namespace Go.Proofs.Ytfbebnddedkcbaa
open Go.RowKit
set_option linter.unusedVariables false
attribute [local go_sem ↓] Go.wp_at_zero Go.wp_at_succ

theorem sums_empty (n : Nat) : sums 1 (List.replicate n []) = 1 := by
  induction n with
  | zero => rfl
  | succ n ih => rw [List.replicate_succ, sums, more_nil 1 fine_one]; exact ih

theorem parts_emp {W : World} {cs : List Value} (n N : Nat) (hN : N = W.heap.size) (h : ∀ i, i < n → ∃ a' cap', cs[i]? = some (.slice a' 0 cap')) :
    PartsA (W.alloc (.cells cs.toArray 26)) (some ⟨N, 0, none⟩) (List.replicate n []) := by
  refine parts_new hN fun i hi => ?_
  have hi' : i < n := by simpa using hi
  have e : (List.replicate n ([] : List Int)).getD i [] = [] := by simp [List.getD_eq_getElem?_getD, hi']
  obtain ⟨a', cap', hc⟩ := h i hi'
  rw [e]
  exact ⟨a', cap', hc, bysA_nil _ _⟩

theorem sumE (n : Nat) (hn : n ≤ 4) (W : World) (N : Nat) (hp : PartsA W (some ⟨N, 0, none⟩) (List.replicate n [])) :
    Calls Try.prog 11 #[.slice (some ⟨N, 0, none⟩) n n] W fun e w' => e = .returned (.int .u32 1) ∧ w' = W := by
  have := sum_any (some ⟨N, 0, none⟩) (List.replicate n []) n W hp (byts_of (by intro p hp; rw [List.eq_of_mem_replicate hp]; exact ⟨byt_nil, maxLen_ge _ (by simp)⟩)) (maxLen_ge _ (by simp; omega))
  rw [sums_empty, List.length_replicate] at this
  exact this

theorem partE1 {a : Option Addr} {c : Nat} (W : World) (N : Nat) (hN : N = W.heap.size) :
    PartsA (W.alloc (.cells #[.slice a 0 c] 26)) (some ⟨N, 0, none⟩) (List.replicate 1 []) :=
  parts_emp (cs := [_]) 1 N hN (fun i hi => by
    have : i = 0 := by omega
    subst this; exact ⟨_, _, rfl⟩)
theorem partE2 {a a' : Option Addr} {c c' : Nat} (W : World) (N : Nat) (hN : N = W.heap.size) :
    PartsA (W.alloc (.cells #[.slice a 0 c, .slice a' 0 c'] 26)) (some ⟨N, 0, none⟩) (List.replicate 2 []) :=
  parts_emp (cs := [_, _]) 2 N hN (fun i hi => by
    have : i = 0 ∨ i = 1 := by omega
    rcases this with rfl | rfl <;> exact ⟨_, _, rfl⟩)
theorem partE4 {a a' : Option Addr} {c c' : Nat} (W : World) (N : Nat) (hN : N = W.heap.size) :
    PartsA (W.alloc (.cells #[.slice a 0 c, .slice none 0 0, .slice a' 0 c', .slice none 0 0] 26)) (some ⟨N, 0, none⟩) (List.replicate 4 []) :=
  parts_emp (cs := [_, _, _, _]) 4 N hN (fun i hi => by
    have : i = 0 ∨ i = 1 ∨ i = 2 ∨ i = 3 := by omega
    rcases this with rfl | rfl | rfl | rfl <;> exact ⟨_, _, rfl⟩)

set_option maxHeartbeats 400000 in
theorem parts_zero (a0 : Option Addr) (a1 : Int) (ha1 : -9223372036854775808 ≤ a1 ∧ a1 ≤ 9223372036854775807) (w0 : World) :
    Calls Try.prog 4 #[.slice a0 0 0, .int .i64 a1] w0 fun e w' => e = .returned (.bool true) ∧ Below w0.heap.size w0 w' := by
  go_enter Try.func4, Try.ntmps4
  go_wp2_with fail
  refine (mod_any a1 1 ha1 (by omega) _).mono ?_
  rintro e w' ⟨rfl, hw0⟩
  subst hw0
  rw [Int.emod_one]
  go_wp2_with fail
  refine (sumE 1 (by omega) _ _ ?_).mono ?_
  · exact partE1 _ _ rfl
  rintro e w1 ⟨rfl, hw1⟩
  have b1 : Below w'.heap.size w' w1 := by rw [hw1]; exact (Below.refl _ _).alloc (Nat.le_refl _) _
  clear hw1
  have C := hide (fun n hn W N (hW : Below w'.heap.size w' W) hp => (sumE n hn W N hp).mono (fun e w2 (hh : _ ∧ w2 = W) => (⟨hh.1, hh.2 ▸ hW⟩ : _ ∧ Below w'.heap.size w' w2)))
  have CM := hide (fun a W (hW : Below w'.heap.size w' W) => (more_any 1 (by omega) a [] 0 W (bysA_nil _ _) byt_nil (maxLen_ge _ (by simp))).mono (fun e w2 (hh : _ ∧ w2 = W) => (⟨hh.1, hh.2 ▸ hW⟩ : _ ∧ Below w'.heap.size w' w2)))
  rw [more_nil 1 fine_one] at CM
  have CW := hide (fun W (hW : Below w'.heap.size w' W) => (wakes_any W).mono (fun e w2 hh => (⟨hh.1, hW.trans (hh.2.mono hW.size)⟩ : _ ∧ Below w'.heap.size w' w2)))
  go_wp2_with fail
  rcases a0 with _ | ⟨b, off, spot⟩
  all_goals
    go_region_held3 (fun w2 => Below w'.heap.size w' w2) (repeat (first | assumption | apply Below.drew | apply below_alloc))
      (first
        | (go_at_call_of 11 (2 : Nat); refine (unhide C 2 (by omega) _ _ ?_ ?_).mono ?_; (assumption); (exact partsA_drew (partE2 _ _ rfl)); (rintro e w2 ⟨rfl, hbel⟩))
        | (go_at_call_of 11 (4 : Nat); refine (unhide C 4 (by omega) _ _ ?_ ?_).mono ?_; (assumption); (exact partE4 _ _ rfl); (rintro e w2 ⟨rfl, hbel⟩))
        | (go_at_call_of 11 (1 : Nat); refine (unhide C 1 (by omega) _ _ ?_ ?_).mono ?_; (assumption); (exact partE1 _ _ rfl); (rintro e w2 ⟨rfl, hbel⟩))
        | (go_at_call 9; refine (unhide CM _ _ ?_).mono ?_; (assumption); (rintro e w2 ⟨rfl, hbel⟩))
        | (go_at_call 8; refine (unhide CW _ ?_).mono ?_; (assumption); (rintro e w2 ⟨rfl, hbel⟩)))
  all_goals go_wp2
  all_goals go_ret
  all_goals exact ⟨rfl, by assumption⟩
end Go.Proofs.Ytfbebnddedkcbaa
