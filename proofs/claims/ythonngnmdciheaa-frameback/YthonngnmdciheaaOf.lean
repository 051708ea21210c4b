/- Of. -/
import Derived.Test.YthonngnmdciheaaLeaf
namespace Go.Proofs.Ythonngnmdciheaa
open Go.RowKit
set_option linter.unusedVariables false

def fo (xs : List Nat) : Nat := xs.foldl (fun a x => a * 256 + x) 0
theorem fo_snoc (xs : List Nat) (x : Nat) : fo (xs ++ [x]) = fo xs * 256 + x := by unfold fo; rw [List.foldl_append]; rfl
theorem fo_take (xs : List Nat) (k : Nat) (h : k < xs.length) : fo (xs.take (k + 1)) = fo (xs.take k) * 256 + xs[k] := by
  rw [List.take_succ_eq_append_getElem h, fo_snoc]
theorem fo_lt (xs : List Nat) (h : ∀ x ∈ xs, x < 256) (k : Nat) (hk : k ≤ xs.length) : fo (xs.take k) < 256 ^ k := by
  induction k with
  | zero => simp [fo]
  | succ k ih =>
    rw [fo_take xs k (by omega), Nat.pow_succ]
    have h1 := ih (by omega)
    have h2 := h xs[k] (List.getElem_mem _)
    omega
def ofN (xs : List Nat) : Nat × Nat := if xs.length = 6 then (fo xs, 0) else (0, 11)
def u8s (xs : List Nat) : List Value := xs.map fun (x : Nat) => Value.int .u8 (x : Int)
theorem u8s_get (xs : List Nat) (k : Nat) (h : k < xs.length) : (u8s xs)[k]? = some (.int .u8 (xs[k] : Nat)) := by unfold u8s; rw [List.getElem?_map, List.getElem?_eq_getElem h]; rfl
theorem rbytes_any (n : Nat) (w : World) : Calls Try.prog 25 #[.int .u64 n] w fun e w' => e = .returned (.slice (some ⟨w.heap.size, 0, none⟩) 6 6) ∧ w' = w.alloc (.cells (lay n 6) 5) := by
  have hl : lay n 6 = #[Value.int IntKind.u8 ((n : Int) / 1099511627776 % 256), Value.int IntKind.u8 ((n : Int) / 4294967296 % 256),
          Value.int IntKind.u8 ((n : Int) / 16777216 % 256), Value.int IntKind.u8 ((n : Int) / 65536 % 256),
          Value.int IntKind.u8 ((n : Int) / 256 % 256), Value.int IntKind.u8 ((n : Int) % 256)] := by simp [lay, cel, byN]
  rw [hl]
  clear hl
  go_enter Try.func25, Try.ntmps25
  go_wp2
  go_ret
  exact ⟨rfl, rfl⟩
theorem of_any (w : World) (A : Option Addr) (c : Nat) (xs : List Nat) (hx : ∀ x ∈ xs, x < 256) (hA : RowA w A (u8s xs)) :
    Calls Try.prog 29 #[.slice A xs.length c] w fun e w' => e = .returned (.tuple #[.int .u64 (ofN xs).1, .int .i64 (ofN xs).2]) ∧ w' = w := by
  by_cases h6 : xs.length = 6
  · have e : ofN xs = (fo xs, 0) := if_pos h6
    obtain ⟨b, off, rfl, hc⟩ := hA (by intro h; have := congrArg List.length h; simp [u8s] at this; simp [this] at h6)
    rw [e, h6]
    clear e hA
    go_enter Try.func29, Try.ntmps29
    go_wp2
    go_loop [4, 12] (fun v i => ∃ k : Nat, k ≤ 6 ∧ i = .int .i64 k ∧ v = .int .u64 (fo (xs.take k))) (fun _ i => (6 - intOf i).toNat)
    case atStart => exact ⟨0, by omega, rfl, rfl⟩
    case round =>
      obtain ⟨k, hk, rfl, rfl⟩ := hrel
      by_cases hk6 : k < 6
      · have hcell := hc k _ (u8s_get xs k (by omega))
        have hx0 := hx (xs[k]'(by omega)) (List.getElem_mem _)
        have hb := fo_lt xs hx k (by omega)
        have hp : 256 ^ k ≤ 256 ^ 5 := Nat.pow_le_pow_right (by decide) (by omega)
        have HB : Hid (bits BinOp.or IntKind.u64 ((fo (xs.take k) : Int) * 256) ((xs[k]'(by omega) : Nat) : Int) = (fo (xs.take (k + 1)) : Int)) := by
          show _ = _
          have h1 := bits_or (fo (xs.take k) * 256) (xs[k]'(by omega)) (by omega) (by omega)
          have h2 := shl_or (fo (xs.take k)) (xs[k]'(by omega)) 8 (by omega)
          rw [show (2 : Nat) ^ 8 = 256 from rfl] at h2
          rw [h2, ← fo_take xs k (by omega)] at h1
          rw [← h1]; simp
        have hv : fo (xs.take k) < 1099511627776 := by omega
        clear hc hb hp
        generalize fo (xs.take k) = v0 at *
        generalize xs[k]'(by omega) = x at *
        go_wp2
        go_round
        case rel => exact ⟨k + 1, by omega, by go_num, by rw [unhide HB]⟩
        case measure => simp [intOf]; omega
      · obtain rfl : k = 6 := by omega
        rw [List.take_of_length_le (by omega)]
        clear hk hk6 hc
        go_wp2
        go_ret2
        exact ⟨rfl, rfl⟩
  · have e : ofN xs = (0, 11) := if_neg h6
    rw [e]
    clear e
    go_enter Try.func29, Try.ntmps29
    go_wp2
    go_ret2
    exact ⟨rfl, rfl⟩
theorem rof_any (w : World) (A : Option Addr) (c : Nat) (xs : List Nat) (hx : ∀ x ∈ xs, x < 256) (hA : RowA w A (u8s xs)) :
    Calls Try.prog 31 #[.slice A xs.length c] w fun e w' => e = .returned (.tuple #[.int .u64 (ofN xs).1, .int .i64 (ofN xs).2]) ∧ w' = w := by
  by_cases h6 : xs.length = 6
  · have e : ofN xs = (fo xs, 0) := if_pos h6
    obtain ⟨b, off, rfl, hc⟩ := hA (by intro h; have := congrArg List.length h; simp [u8s] at this; simp [this] at h6)
    rw [e, h6]
    clear e hA
    go_enter Try.func31, Try.ntmps31
    go_wp2
    go_loop [4, 5] (fun v i => ∃ k : Nat, k ≤ 6 ∧ i = .int .i64 k ∧ v = .int .u64 (fo (xs.take k))) (fun _ i => (6 - intOf i).toNat)
    case atStart => exact ⟨0, by omega, rfl, rfl⟩
    case round =>
      obtain ⟨k, hk, rfl, rfl⟩ := hrel
      by_cases hk6 : k < 6
      · have hcell := hc k _ (u8s_get xs k (by omega))
        have hx0 := hx (xs[k]'(by omega)) (List.getElem_mem _)
        have hb := fo_lt xs hx k (by omega)
        have hp : 256 ^ k ≤ 256 ^ 5 := Nat.pow_le_pow_right (by decide) (by omega)
        have HB : Hid (((fo (xs.take k) : Int) * 256) + ((xs[k]'(by omega) : Nat) : Int) = (fo (xs.take (k + 1)) : Int)) := by
          show _ = _
          rw [fo_take xs k (by omega)]; simp
        have hv : fo (xs.take k) < 1099511627776 := by omega
        clear hc hb hp
        generalize fo (xs.take k) = v0 at *
        generalize xs[k]'(by omega) = x at *
        go_wp2
        go_round
        case rel => exact ⟨k + 1, by omega, by go_num, by rw [unhide HB]⟩
        case measure => simp [intOf]; omega
      · obtain rfl : k = 6 := by omega
        rw [List.take_of_length_le (by omega)]
        clear hk hk6 hc
        go_wp2
        go_ret2
        exact ⟨rfl, rfl⟩
  · have e : ofN xs = (0, 11) := if_neg h6
    rw [e]
    clear e
    go_enter Try.func31, Try.ntmps31
    go_wp2
    go_ret2
    exact ⟨rfl, rfl⟩
end Go.Proofs.Ythonngnmdciheaa
