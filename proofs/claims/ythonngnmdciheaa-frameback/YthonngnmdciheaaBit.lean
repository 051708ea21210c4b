/- Bits, as numbers. -/
import Derived.Test.YthonngnmdciheaaBase
import Derived.Laws.BitsLemmas
import Derived.Laws.Bits64
namespace Go.Proofs.Ythonngnmdciheaa
open Go.RowKit
set_option linter.unusedVariables false
theorem bits_and (a b : Nat) (ha : a < 18446744073709551616) (hb : b < 18446744073709551616) : bits .and .u64 (a : Int) (b : Int) = ((a &&& b : Nat) : Int) := by
  have h : a &&& b ≤ a := Nat.and_le_left
  simp [bits]
  have e : 2 ^ IntKind.u64.bits = 18446744073709551616 := by decide
  rw [e, Nat.mod_eq_of_lt ha, Nat.mod_eq_of_lt hb, IntKind.wrap_u64]
  omega
theorem bits_or (a b : Nat) (ha : a < 18446744073709551616) (hb : b < 18446744073709551616) : bits .or .u64 (a : Int) (b : Int) = ((a ||| b : Nat) : Int) := by
  have h : a ||| b < 2 ^ 64 := Nat.or_lt_two_pow (by simpa using ha) (by simpa using hb)
  simp [bits]
  have e : 2 ^ IntKind.u64.bits = 18446744073709551616 := by decide
  rw [e, Nat.mod_eq_of_lt ha, Nat.mod_eq_of_lt hb, IntKind.wrap_u64]
  omega
theorem bits_xor (a b : Nat) (ha : a < 18446744073709551616) (hb : b < 18446744073709551616) : bits .xor .u64 (a : Int) (b : Int) = ((a ^^^ b : Nat) : Int) := by
  have h : a ^^^ b < 2 ^ 64 := Nat.xor_lt_two_pow (by simpa using ha) (by simpa using hb)
  simp [bits]
  have e : 2 ^ IntKind.u64.bits = 18446744073709551616 := by decide
  rw [e, Nat.mod_eq_of_lt ha, Nat.mod_eq_of_lt hb, IntKind.wrap_u64]
  omega
theorem bits_or8 (a b : Nat) (ha : a < 256) (hb : b < 256) : bits .or .i64 (a : Int) (b : Int) = ((a ||| b : Nat) : Int) := by
  have h : a ||| b < 2 ^ 8 := Nat.or_lt_two_pow (by simpa using ha) (by simpa using hb)
  simp [bits]
  have e : 2 ^ IntKind.i64.bits = 18446744073709551616 := by decide
  rw [e, Nat.mod_eq_of_lt (by omega), Nat.mod_eq_of_lt (by omega), IntKind.wrap_i64]
  omega
theorem bits_and8 (a b : Nat) (ha : a < 256) (hb : b < 256) : bits .and .u8 (a : Int) (b : Int) = ((a &&& b : Nat) : Int) := by
  have h : a &&& b ≤ a := Nat.and_le_left
  simp [bits]
  have e : 2 ^ IntKind.u8.bits = 256 := by decide
  rw [e, Nat.mod_eq_of_lt ha, Nat.mod_eq_of_lt hb, IntKind.wrap_u8]
  omega
theorem shl_or (a b i : Nat) (hb : b < 2 ^ i) : a * 2 ^ i ||| b = a * 2 ^ i + b := by
  rw [Nat.mul_comm, ← Nat.two_pow_add_eq_or_of_lt hb]
theorem and_bit (a i : Nat) : (a &&& 2 ^ i) = if a / 2 ^ i % 2 = 1 then 2 ^ i else 0 := by
  refine Nat.eq_of_testBit_eq fun j => ?_
  rw [Nat.testBit_and, Nat.testBit_two_pow]
  by_cases hj : i = j
  · subst hj
    by_cases h : a / 2 ^ i % 2 = 1
    · rw [if_pos h, Nat.testBit_two_pow_self, Nat.testBit_eq_decide_div_mod_eq, h]; simp
    · rw [if_neg h, Nat.testBit_eq_decide_div_mod_eq]; simp [h]
  · by_cases h : a / 2 ^ i % 2 = 1
    · rw [if_pos h, Nat.testBit_two_pow_of_ne hj]; simp [hj]
    · rw [if_neg h]; simp [hj]
theorem xor_bit (a i : Nat) : decide ((a ^^^ 2 ^ i) / 2 ^ i % 2 = 1) = !decide (a / 2 ^ i % 2 = 1) := by
  rw [← Nat.testBit_eq_decide_div_mod_eq, ← Nat.testBit_eq_decide_div_mod_eq, Nat.testBit_xor, Nat.testBit_two_pow_self]; simp
def groupN (n : Nat) : Bool := decide (n < 281474976710656) && decide (n / 1099511627776 % 2 = 1)
theorem group_a (n : Nat) (h : n < 18446744073709551616) : (bits .and .u64 (n : Int) 1099511627776 != 0) = decide (n / 1099511627776 % 2 = 1) := by
  have := bits_and n 1099511627776 h (by decide)
  have e : (1099511627776 : Nat) = 2 ^ 40 := by decide
  have h2 := and_bit n 40
  rw [← e] at h2
  rw [show (1099511627776 : Int) = ((1099511627776 : Nat) : Int) from rfl, this, h2]
  by_cases h3 : n / 1099511627776 % 2 = 1 <;> simp [h3]
theorem group_b (n : Nat) (h : n < 18446744073709551616) : (bits .and .u64 ((n : Int) / 1099511627776) 1 == 1) = decide (n / 1099511627776 % 2 = 1) := by
  have := bits_and (n / 1099511627776) 1 (by omega) (by decide)
  rw [show ((n : Int) / 1099511627776) = ((n / 1099511627776 : Nat) : Int) from by simp, show (1 : Int) = ((1 : Nat) : Int) from rfl, this, Nat.and_one_is_mod]
  by_cases h3 : n / 1099511627776 % 2 = 1 <;> simp [h3] <;> omega
end Go.Proofs.Ythonngnmdciheaa
