/- The leaves of package mac. -/
import Derived.Test.YthonngnmdciheaaBit
import Derived.Laws.StandIn
namespace Go.Proofs.Ythonngnmdciheaa
open Go.RowKit
set_option linter.unusedVariables false

theorem ret_bool {a b : Bool} (h : a = b) : Ending.returned (.bool a) = .returned (.bool b) := by rw [h]
theorem ret_int {k : IntKind} {a b : Int} (h : a = b) : Ending.returned (.int k a) = .returned (.int k b) := by rw [h]

def goodN (n : Nat) : Bool := decide (n < 281474976710656)
theorem good_any (n : Nat) (w : World) : Calls Try.prog 37 #[.int .u64 n] w fun e w' => e = .returned (.bool (goodN n)) ∧ w' = w := by
  go_enter Try.func37, Try.ntmps37
  go_wp2
  go_ret
  exact ⟨ret_bool (by unfold goodN; simp; omega), rfl⟩
theorem rgood_any (n : Nat) (w : World) : Calls Try.prog 35 #[.int .u64 n] w fun e w' => e = .returned (.bool (goodN n)) ∧ w' = w := by
  go_enter Try.func35, Try.ntmps35
  go_wp2
  go_ret
  exact ⟨ret_bool (by unfold goodN; simp; omega), rfl⟩
theorem group_any (n : Nat) (hn : n < 18446744073709551616) (w : World) : Calls Try.prog 38 #[.int .u64 n] w fun e w' => e = .returned (.bool (groupN n)) ∧ w' = w := by
  have h1 := group_a n hn
  have hg := good_any n w
  by_cases h : n < 281474976710656
  · have e : goodN n = true := by simp [goodN, h]
    rw [e] at hg
    go_enter Try.func38, Try.ntmps38
    go_wp2_with (go_at_call 37; refine hg.mono ?_; rintro e w' ⟨rfl, rfl⟩)
    go_ret
    exact ⟨ret_bool (by unfold groupN; simp [h]), rfl⟩
  · have e : goodN n = false := by simp [goodN, h]
    rw [e] at hg
    go_enter Try.func38, Try.ntmps38
    go_wp2_with (go_at_call 37; refine hg.mono ?_; rintro e w' ⟨rfl, rfl⟩)
    go_ret
    exact ⟨ret_bool (by unfold groupN; simp [h]), rfl⟩
theorem rgroup_any (n : Nat) (hn : n < 18446744073709551616) (w : World) : Calls Try.prog 36 #[.int .u64 n] w fun e w' => e = .returned (.bool (groupN n)) ∧ w' = w := by
  have h1 := group_b n hn
  have hg := rgood_any n w
  by_cases h : n < 281474976710656
  · have e : goodN n = true := by simp [goodN, h]
    rw [e] at hg
    go_enter Try.func36, Try.ntmps36
    go_wp2_with (go_at_call 35; refine hg.mono ?_; rintro e w' ⟨rfl, rfl⟩)
    go_ret
    exact ⟨ret_bool (by unfold groupN; simp [h]), rfl⟩
  · have e : goodN n = false := by simp [goodN, h]
    rw [e] at hg
    go_enter Try.func36, Try.ntmps36
    go_wp2_with (go_at_call 35; refine hg.mono ?_; rintro e w' ⟨rfl, rfl⟩)
    go_ret
    exact ⟨ret_bool (by unfold groupN; simp [h]), rfl⟩
/-- The byte of n at place j, the highest one first. -/
def byN (n j : Nat) : Nat := n / 256 ^ (5 - j) % 256
theorem byN_lt (n j : Nat) : byN n j < 256 := Nat.mod_lt _ (by decide)
def cel (n k j : Nat) : Value := .int .u8 ((if j < k then byN n j else 0 : Nat) : Int)
def lay (n k : Nat) : Array Value := #[cel n k 0, cel n k 1, cel n k 2, cel n k 3, cel n k 4, cel n k 5]
theorem lay_get (n k j : Nat) (h : j < 6) : (lay n k)[j]? = some (cel n k j) := by
  have : j = 0 ∨ j = 1 ∨ j = 2 ∨ j = 3 ∨ j = 4 ∨ j = 5 := by omega
  rcases this with rfl | rfl | rfl | rfl | rfl | rfl <;> rfl
theorem cel_self (n k : Nat) (h : k < 6) : Value.int .u8 ((n : Int) / 2 ^ (8 * (5 - k)) % 256) = cel n (k + 1) k := by
  unfold cel byN
  rw [if_pos (by omega), show (256 : Nat) ^ (5 - k) = 2 ^ (8 * (5 - k)) from by rw [Nat.pow_mul]]
  simp
theorem lay_set (n k : Nat) (h : k < 6) : (lay n k).setIfInBounds k (Value.int .u8 ((n : Int) / 2 ^ (8 * (5 - k)) % 256)) = lay n (k + 1) := by
  rw [cel_self n k h]
  have : k = 0 ∨ k = 1 ∨ k = 2 ∨ k = 3 ∨ k = 4 ∨ k = 5 := by omega
  rcases this with rfl | rfl | rfl | rfl | rfl | rfl <;> rfl
theorem lay_zero (n : Nat) : lay n 0 = #[Value.int .u8 0, Value.int .u8 0, Value.int .u8 0, Value.int .u8 0, Value.int .u8 0, Value.int .u8 0] := rfl
theorem bytes_any (n : Nat) (w : World) : Calls Try.prog 21 #[.int .u64 n] w fun e w' => e = .returned (.agg (lay n 6)) ∧ Below w.heap.size w w' := by
  go_enter Try.func21, Try.ntmps21
  go_wp2
  go_loopw [5] (fun i W => ∃ k : Nat, k ≤ 6 ∧ i = .int .i64 k ∧ W = (w.alloc (Obj.cells #[Value.int IntKind.u8 0, Value.int IntKind.u8 0, Value.int IntKind.u8 0, Value.int IntKind.u8 0, Value.int IntKind.u8 0, Value.int IntKind.u8 0] 46)).alloc (.cells (lay n k) 46)) (fun i _ => (6 - intOf i).toNat)
  case atStart => exact ⟨0, by omega, rfl, rfl⟩
  case round =>
    obtain ⟨k, hk, rfl, rfl⟩ := hrel
    by_cases h6 : k < 6
    · have hg := lay_get n k k h6
      have HS := hide (lay_set n k h6)
      go_wp2
      go_roundw
      case rel => exact ⟨k + 1, by omega, by go_num, by rw [unhide HS]⟩
      case measure => simp [intOf]; omega
    · obtain rfl : k = 6 := by omega
      clear h6 hk
      rw [show lay n 6 = #[Value.int .u8 (byN n 0 : Nat), Value.int .u8 (byN n 1 : Nat), Value.int .u8 (byN n 2 : Nat), Value.int .u8 (byN n 3 : Nat), Value.int .u8 (byN n 4 : Nat), Value.int .u8 (byN n 5 : Nat)] from rfl]
      go_wp2
      refine bodyPost_ret (v := .agg #[Value.int .u8 (byN n 0 : Nat), Value.int .u8 (byN n 1 : Nat), Value.int .u8 (byN n 2 : Nat), Value.int .u8 (byN n 3 : Nat), Value.int .u8 (byN n 4 : Nat), Value.int .u8 (byN n 5 : Nat)]) (by simp [results, Try.results21, go_sem]) rfl ⟨rfl, below_alloc (below_alloc (Below.refl _ _) _) _⟩
end Go.Proofs.Ythonngnmdciheaa
