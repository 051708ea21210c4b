/- Contracts of the leaves: numbers as bytes and back, copies, bytes put together. -/
import Derived.Test.YtpaolllkpmkgkaaCut
import Derived.Lib.AppendZerosOnto
namespace Go.Proofs.Ytpaolllkpmkgkaa
open Go.RowKit
set_option linter.unusedVariables false

def four (x : Int) : List Int := [x / 16777216 % 256, x / 65536 % 256, x / 256 % 256, x % 256]
theorem four_byt (x : Int) : Byt (four x) := byt_of (by unfold four; simp only [List.mem_cons, List.not_mem_nil, or_false]; rintro y (rfl | rfl | rfl | rfl) <;> omega)
theorem four_len (x : Int) : (four x).length = 4 := rfl

theorem bits_or_i64_nat (a b : Nat) (ha : a < 4611686018427387904) (hb : b < 4611686018427387904) : bits .or .i64 (a : Int) (b : Int) = ((a ||| b : Nat) : Int) := by
  have hx : a ||| b < 2 ^ 62 := Nat.or_lt_two_pow (by omega) (by omega)
  have h1 : (BitVec.ofInt 64 (a : Int)).toNat = a := by
    rw [BitVec.ofInt_natCast, BitVec.toNat_ofNat]; exact Nat.mod_eq_of_lt (by omega)
  have h2 : (BitVec.ofInt 64 (b : Int)).toNat = b := by
    rw [BitVec.ofInt_natCast, BitVec.toNat_ofNat]; exact Nat.mod_eq_of_lt (by omega)
  show IntKind.i64.wrap ((BitVec.ofInt 64 (a : Int) ||| BitVec.ofInt 64 (b : Int)).toNat : Int) = _
  rw [BitVec.toNat_or, h1, h2, IntKind.wrap_i64]
  omega
theorem bits_or_u32_nat (a b : Nat) (ha : a < 4294967296) (hb : b < 4294967296) : bits .or .u32 (a : Int) (b : Int) = ((a ||| b : Nat) : Int) := by
  have hx : a ||| b < 2 ^ 32 := Nat.or_lt_two_pow (by omega) (by omega)
  have h1 : (BitVec.ofInt 32 (a : Int)).toNat = a := by
    rw [BitVec.ofInt_natCast, BitVec.toNat_ofNat]; exact Nat.mod_eq_of_lt (by omega)
  have h2 : (BitVec.ofInt 32 (b : Int)).toNat = b := by
    rw [BitVec.ofInt_natCast, BitVec.toNat_ofNat]; exact Nat.mod_eq_of_lt (by omega)
  show IntKind.u32.wrap ((BitVec.ofInt 32 (a : Int) ||| BitVec.ofInt 32 (b : Int)).toNat : Int) = _
  rw [BitVec.toNat_or, h1, h2, IntKind.wrap_u32]
  omega
theorem or_i64 (x y : Int) (hx : 0 ≤ x ∧ x ≤ 255) (hy : 0 ≤ y ∧ y ≤ 255) : bits .or .i64 (x * 256) y = x * 256 + y := by
  obtain ⟨a, rfl⟩ : ∃ a : Nat, x = a := ⟨x.toNat, by omega⟩
  obtain ⟨b, rfl⟩ : ∃ b : Nat, y = b := ⟨y.toNat, by omega⟩
  have h := bits_or_i64_nat (2 ^ 8 * a) b (by omega) (by omega)
  rw [← Nat.two_pow_add_eq_or_of_lt (show b < 2 ^ 8 by omega)] at h
  rw [show (a : Int) * 256 = ((2 ^ 8 * a : Nat) : Int) by omega, h]
  omega
theorem or_u32 (i a b : Nat) (hb : b < 2 ^ i) (ha : 2 ^ i * a < 4294967296) (hb2 : b < 4294967296) : bits .or .u32 ((2 ^ i * a : Nat) : Int) (b : Int) = ((2 ^ i * a + b : Nat) : Int) := by
  rw [bits_or_u32_nat _ _ ha hb2, ← Nat.two_pow_add_eq_or_of_lt hb]
theorem or_four (x y z u : Int) (hx : 0 ≤ x ∧ x ≤ 255) (hy : 0 ≤ y ∧ y ≤ 255) (hz : 0 ≤ z ∧ z ≤ 255) (hu : 0 ≤ u ∧ u ≤ 255) :
    bits .or .u32 (bits .or .u32 (bits .or .u32 (x * 16777216) (y * 65536)) (z * 256)) u = x * 16777216 + y * 65536 + z * 256 + u := by
  obtain ⟨a, rfl⟩ : ∃ a : Nat, x = a := ⟨x.toNat, by omega⟩
  obtain ⟨b, rfl⟩ : ∃ b : Nat, y = b := ⟨y.toNat, by omega⟩
  obtain ⟨c, rfl⟩ : ∃ c : Nat, z = c := ⟨z.toNat, by omega⟩
  obtain ⟨d, rfl⟩ : ∃ d : Nat, u = d := ⟨u.toNat, by omega⟩
  have h1 := or_u32 24 a (65536 * b) (by omega) (by omega) (by omega)
  rw [show (a : Int) * 16777216 = ((2 ^ 24 * a : Nat) : Int) by omega, show (b : Int) * 65536 = ((65536 * b : Nat) : Int) by omega, h1]
  have h2 := or_u32 16 (256 * a + b) (256 * c) (by omega) (by omega) (by omega)
  rw [show ((2 ^ 24 * a + 65536 * b : Nat) : Int) = ((2 ^ 16 * (256 * a + b) : Nat) : Int) by omega, show (c : Int) * 256 = ((256 * c : Nat) : Int) by omega, h2]
  have h3 := or_u32 8 (65536 * a + 256 * b + c) d (by omega) (by omega) (by omega)
  rw [show ((2 ^ 16 * (256 * a + b) + 256 * c : Nat) : Int) = ((2 ^ 8 * (65536 * a + 256 * b + c) : Nat) : Int) by omega, h3]
  omega

set_option maxHeartbeats 400000 in
theorem wide_any (x : Int) (hx : 0 ≤ x ∧ x ≤ 4294967295) (w : World) :
    Calls Try.prog 62 #[.int .u32 x] w fun e w' => e = .returned (.slice (some ⟨w.heap.size, 0, none⟩) 4 4) ∧ w' = w.alloc (.cells #[.int .u8 (x / 16777216 % 256), .int .u8 (x / 65536 % 256), .int .u8 (x / 256 % 256), .int .u8 (x % 256)] 5) := by
  obtain ⟨h1, h2⟩ := hx
  have he : Hid (x / 16777216 % 256 = x / 16777216) := by show _ = _; omega
  go_enter Try.func62, Try.ntmps62
  go_wp2
  go_ret
  rw [he.out]
  exact ⟨rfl, rfl⟩
set_option maxHeartbeats 400000 in
theorem length_any (b off cap : Nat) (bs : List Int) (w : World) (hb : BysA w (some ⟨b, off, none⟩) bs) (hB : Byt bs) (hl : 11 ≤ bs.length) (hl2 : bs.length ≤ 100000) :
    Calls Try.prog 66 #[.slice (some ⟨b, off, none⟩) bs.length cap] w fun e w' => e = .returned (.int .i64 (bs.getD 9 0 * 256 + bs.getD 10 0)) ∧ ∃ n, w' = w.drewN n := by
  obtain ⟨b', off', e, hc⟩ := hb (by rintro rfl; simp at hl)
  cases e
  have h9 := hc 9 (by omega)
  have h10 := hc 10 (by omega)
  have b9 := hB 9
  have b10 := hB 10
  generalize bs.getD 9 0 = x at *
  generalize bs.getD 10 0 = y at *
  generalize bs.length = n at *
  obtain ⟨x1, x2⟩ := b9
  obtain ⟨y1, y2⟩ := b10
  clear hc hB hb
  have l9 : (9 : Int) < (n : Int) := by omega
  have l10 : (10 : Int) < (n : Int) := by omega
  have he := hide (or_i64 x y ⟨x1, x2⟩ ⟨y1, y2⟩)
  go_enter Try.func66, Try.ntmps66
  go_wp2
  go_quiet (fail)
  go_wp2
  go_ret
  exact ⟨ret_int (unhide he), _, rfl⟩
set_option maxHeartbeats 400000 in
theorem number_any (b off cap : Nat) (bs : List Int) (w : World) (hb : BysA w (some ⟨b, off, none⟩) bs) (hB : Byt bs) (hl : 4 ≤ bs.length) (hl2 : bs.length ≤ 100000) :
    Calls Try.prog 67 #[.slice (some ⟨b, off, none⟩) bs.length cap] w fun e w' => e = .returned (.int .u32 (bs.getD 0 0 * 16777216 + bs.getD 1 0 * 65536 + bs.getD 2 0 * 256 + bs.getD 3 0)) ∧ ∃ n, w' = w.drewN n := by
  obtain ⟨b', off', e, hc⟩ := hb (by rintro rfl; simp at hl)
  cases e
  have h0 := hc 0 (by omega)
  rw [Nat.add_zero] at h0
  have h1 := hc 1 (by omega)
  have h2 := hc 2 (by omega)
  have h3 := hc 3 (by omega)
  obtain ⟨a1, a2⟩ := hB 0
  obtain ⟨b1, b2⟩ := hB 1
  obtain ⟨c1, c2⟩ := hB 2
  obtain ⟨d1, d2⟩ := hB 3
  generalize bs.getD 0 0 = x at *
  generalize bs.getD 1 0 = y at *
  generalize bs.getD 2 0 = z at *
  generalize bs.getD 3 0 = u at *
  generalize bs.length = n at *
  clear hc hB hb
  have l9 : (0 : Int) < (n : Int) := by omega
  have l10 : (1 : Int) < (n : Int) := by omega
  have l11 : (2 : Int) < (n : Int) := by omega
  have l12 : (3 : Int) < (n : Int) := by omega
  have he := hide (or_four x y z u ⟨a1, a2⟩ ⟨b1, b2⟩ ⟨c1, c2⟩ ⟨d1, d2⟩)
  go_enter Try.func67, Try.ntmps67
  go_wp2
  go_quiet (fail)
  go_wp2
  go_ret
  exact ⟨ret_int (unhide he), _, rfl⟩
end Go.Proofs.Ytpaolllkpmkgkaa
