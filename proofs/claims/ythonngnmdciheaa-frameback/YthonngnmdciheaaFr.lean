/- Frames: values, whether one has a form; the small functions. -/
import Derived.Test.YthonngnmdciheaaTxt
namespace Go.Proofs.Ythonngnmdciheaa
open Go.RowKit
set_option linter.unusedVariables false

structure Fr where
  dst : Nat
  src : Nat
  tag : Bool
  prio : Int
  vid : Int
  kind : Int
  bs : List Nat
def Fr.cells (f : Fr) (A : Option Addr) (c : Nat) : Array Value := #[.int .u64 (f.dst : Int), .int .u64 (f.src : Int), .bool f.tag, .int .i64 f.prio, .int .i64 f.vid, .int .i64 f.kind, .slice A f.bs.length c]
abbrev Fr.val (f : Fr) (A : Option Addr) (c : Nat) : Value := .agg #[.int .u64 (f.dst : Int), .int .u64 (f.src : Int), .bool f.tag, .int .i64 f.prio, .int .i64 f.vid, .int .i64 f.kind, .slice A f.bs.length c]
def I64 (x : Int) : Prop := -9223372036854775808 ≤ x ∧ x ≤ 9223372036854775807
structure Fr.Fit (f : Fr) : Prop where
  dst : f.dst < 18446744073709551616
  src : f.src < 18446744073709551616
  prio : I64 f.prio
  vid : I64 f.vid
  kind : I64 f.kind
  bs : ∀ x ∈ f.bs, x < 256
  len : f.bs.length ≤ 9223372036854775807
/-- The zero frame. -/
def fr0 : Fr := ⟨0, 0, false, 0, 0, 0, []⟩
def placesF (f : Fr) : Bool := goodN f.dst && (goodN f.src && !groupN f.src)
def tagF (f : Fr) : Bool := if f.tag then decide (0 ≤ f.prio) && (decide (f.prio ≤ 7) && (decide (0 ≤ f.vid) && decide (f.vid ≤ 4095))) else decide (f.prio = 0) && decide (f.vid = 0)
def kindF (k : Int) : Bool := decide (0 ≤ k) && (decide (k ≤ 65535) && !decide (k = 33024))
def leastN (t : Bool) : Nat := if t then 18 else 14
def goodF (f : Fr) : Bool := placesF f && (tagF f && (kindF f.kind && decide ((f.bs.length : Int) ≤ 1518 - (leastN f.tag : Int))))

theorem least_any (t : Bool) (w : World) : Calls Try.prog 27 #[.bool t] w fun e w' => e = .returned (.int .i64 (leastN t : Nat)) ∧ w' = w := by
  cases t
  all_goals
    go_enter Try.func27, Try.ntmps27
    go_wp2
    go_ret
    exact ⟨rfl, rfl⟩
theorem two_any (n : Nat) (hn : n < 65536) (w : World) : Calls Try.prog 24 #[.int .i64 n] w fun e w' => e = .returned (.slice (some ⟨w.heap.size, 0, none⟩) 2 2) ∧ w' = w.alloc (.cells #[.int .u8 (n / 256 : Nat), .int .u8 (n % 256 : Nat)] 5) := by
  go_enter Try.func24, Try.ntmps24
  go_wp2
  go_ret
  refine ⟨rfl, ?_⟩
  rw [Int.natCast_ediv, Int.natCast_emod]; rfl
theorem rtwo_any (n : Nat) (hn : n < 65536) (w : World) : Calls Try.prog 26 #[.int .i64 n] w fun e w' => e = .returned (.slice (some ⟨w.heap.size, 0, none⟩) 2 2) ∧ w' = w.alloc (.cells #[.int .u8 (n / 256 : Nat), .int .u8 (n % 256 : Nat)] 5) := by
  go_enter Try.func26, Try.ntmps26
  go_wp2
  go_ret
  refine ⟨rfl, ?_⟩
  rw [Int.natCast_ediv, Int.natCast_emod]; rfl
theorem bits_or16 (a b : Nat) (ha : a < 65536) (hb : b < 65536) : bits .or .i64 (a : Int) (b : Int) = ((a ||| b : Nat) : Int) := by
  have h : a ||| b < 2 ^ 16 := Nat.or_lt_two_pow (by simpa using ha) (by simpa using hb)
  simp [bits]
  have e : 2 ^ IntKind.i64.bits = 18446744073709551616 := by decide
  rw [e, Nat.mod_eq_of_lt (by omega), Nat.mod_eq_of_lt (by omega), IntKind.wrap_i64]
  omega
theorem or_256 (x y : Nat) (hx : x < 256) (hy : y < 256) : bits .or .i64 ((x : Int) * 256) (y : Int) = ((x * 256 + y : Nat) : Int) := by
  have h1 := shl_or x y 8 (by omega)
  rw [show (2 : Nat) ^ 8 = 256 from rfl] at h1
  have h := bits_or16 (x * 256) y (by omega) (by omega)
  rw [← h1, ← h]
  simp
theorem number_any (b o m c x y : Nat) (w : World) (hm : 2 ≤ m) (hm2 : m ≤ 9223372036854775807) (hx : x < 256) (hy : y < 256) (h0 : w.cell? ⟨b, o, none⟩ = some (.int .u8 (x : Nat))) (h1 : w.cell? ⟨b, o + 1, none⟩ = some (.int .u8 (y : Nat))) :
    Calls Try.prog 30 #[.slice (some ⟨b, o, none⟩) m c] w fun e w' => e = .returned (.int .i64 (x * 256 + y : Nat)) ∧ ∃ n, w' = w.drewN n := by
  have HB := hide (or_256 x y hx hy)
  go_enter Try.func30, Try.ntmps30
  go_wp2
  go_quiet (fail)
  go_wp2
  go_ret
  exact ⟨by rw [unhide HB]; rfl, _, rfl⟩
theorem kind_any (k : Int) (hk : I64 k) (w : World) : Calls Try.prog 34 #[.int .i64 k] w fun e w' => e = .returned (.bool (kindF k)) ∧ w' = w := by
  unfold I64 at hk
  by_cases h1 : 0 ≤ k <;> by_cases h2 : k ≤ 65535 <;> by_cases h3 : k = 33024 <;> (try omega)
  all_goals
    go_enter Try.func34, Try.ntmps34
    go_wp2
    go_ret
    exact ⟨ret_bool (by simp [kindF, h1, h2, h3] <;> omega), rfl⟩
theorem gtag_any (f : Fr) (hf : f.Fit) (A : Option Addr) (c : Nat) (w : World) : Calls Try.prog 33 #[.agg #[.int .u64 (f.dst : Int), .int .u64 (f.src : Int), .bool f.tag, .int .i64 f.prio, .int .i64 f.vid, .int .i64 f.kind, .slice A f.bs.length c]] w fun e w' => e = .returned (.bool (tagF f)) ∧ Below w.heap.size w w' := by
  obtain ⟨d, s, t, p, v, k, bs⟩ := f
  obtain ⟨_, _, hp, hv, _, _, _⟩ := hf
  unfold I64 at hp hv
  simp only at hp hv
  cases t
  · by_cases h1 : p = 0 <;> by_cases h2 : v = 0
    all_goals
      go_enter Try.func33, Try.ntmps33
      go_wp2
      go_ret
      exact ⟨ret_bool (by simp [tagF, h1, h2]), below_alloc (Below.refl _ _) _⟩
  · by_cases h1 : 0 ≤ p <;> by_cases h2 : p ≤ 7 <;> by_cases h3 : 0 ≤ v <;> by_cases h4 : v ≤ 4095 <;> (try omega)
    all_goals
      go_enter Try.func33, Try.ntmps33
      go_wp2
      go_ret
      exact ⟨ret_bool (by simp [tagF, h1, h2, h3, h4] <;> omega), below_alloc (Below.refl _ _) _⟩
theorem places_any (f : Fr) (hf : f.Fit) (A : Option Addr) (c : Nat) (w : World) : Calls Try.prog 32 #[.agg #[.int .u64 (f.dst : Int), .int .u64 (f.src : Int), .bool f.tag, .int .i64 f.prio, .int .i64 f.vid, .int .i64 f.kind, .slice A f.bs.length c]] w fun e w' => e = .returned (.bool (placesF f)) ∧ Below w.heap.size w w' := by
  have G1 := hide (fun W => good_any f.dst W)
  have G2 := hide (fun W => good_any f.src W)
  have G3 := hide (fun W => group_any f.src hf.src W)
  obtain ⟨d, s, t, p, v, k, bs⟩ := f
  simp only at G1 G2 G3
  unfold placesF
  simp only
  generalize goodN d = b1 at *
  generalize goodN s = b2 at *
  generalize groupN s = b3 at *
  cases b1 <;> cases b2 <;> cases b3
  all_goals
    go_enter Try.func32, Try.ntmps32
    go_wp2_with (first
      | (go_at_call 37; with_reducible refine (unhide G1 _).mono ?_; rintro e w' ⟨rfl, rfl⟩)
      | (go_at_call 37; with_reducible refine (unhide G2 _).mono ?_; rintro e w' ⟨rfl, rfl⟩)
      | (go_at_call 38; with_reducible refine (unhide G3 _).mono ?_; rintro e w' ⟨rfl, rfl⟩))
    go_ret
    exact ⟨rfl, below_alloc (Below.refl _ _) _⟩
end Go.Proofs.Ythonngnmdciheaa
