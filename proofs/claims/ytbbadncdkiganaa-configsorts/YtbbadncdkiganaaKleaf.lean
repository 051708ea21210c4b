/- The leaves of package config. -/
import Derived.Test.YtbbadncdkiganaaKmath
namespace Go.Proofs.Ytbbadncdkiganaa
open Go.RowKit
set_option linter.unusedVariables false
set_option maxRecDepth 4000

theorem ret_bool {a b : Bool} (h : a = b) : Ending.returned (.bool a) = .returned (.bool b) := by rw [h]
theorem ret_int {k : IntKind} {a b : Int} (h : a = b) : Ending.returned (.int k a) = .returned (.int k b) := by rw [h]

theorem cmp_lt {x y : Int} (h : x < y) : cmpI x y = -1 := by unfold cmpI; rw [if_pos h]
theorem cmp_gt {x y : Int} (h : y < x) : cmpI x y = 1 := by unfold cmpI; rw [if_neg (by omega), if_pos h]
theorem cmp_eq {x y : Int} (h : x = y) : cmpI x y = 0 := by unfold cmpI; rw [if_neg (by omega), if_neg (by omega)]
def encP (p : PortC) : List Value := [.bool p.1, .int .u32 p.2.1, .int .i64 p.2.2]
def encV (v : VlanC) : List Value := [.int .i64 v.1, .int .u8 v.2.1, .int .u8 v.2.2]
def encS (s : StatC) : List Value := [.int .u64 s.1, .int .i64 s.2.1, .int .i64 s.2.2]

set_option maxHeartbeats 400000 in
theorem within_any (x a b : Int) (w : World) : Calls Try.prog 42 #[.int .i64 x, .int .i64 a, .int .i64 b] w fun e w' => e = .returned (.bool (wi x a b)) ∧ w' = w := by
  by_cases h1 : a ≤ x
  · by_cases h2 : x ≤ b
    · go_enter Try.func42, Try.ntmps42
      go_wp2
      go_ret
      exact ⟨ret_bool (wi_of h1 h2).symm, rfl⟩
    · go_enter Try.func42, Try.ntmps42
      go_wp2
      go_ret
      exact ⟨ret_bool (wi_not (by omega)).symm, rfl⟩
  · go_enter Try.func42, Try.ntmps42
    go_wp2
    go_ret
    exact ⟨ret_bool (wi_not (by omega)).symm, rfl⟩
set_option maxHeartbeats 400000 in
theorem every_any (n : Nat) (hn : n ≤ 8) (w : World) : Calls Try.prog 23 #[.int .i64 n] w fun e w' => e = .returned (.int .u8 (everyI n)) ∧ w' = w := by
  have h : n = 0 ∨ n = 1 ∨ n = 2 ∨ n = 3 ∨ n = 4 ∨ n = 5 ∨ n = 6 ∨ n = 7 ∨ n = 8 := by omega
  rcases h with rfl | rfl | rfl | rfl | rfl | rfl | rfl | rfl | rfl
  all_goals
    go_enter Try.func23, Try.ntmps23
    go_wp2
    go_ret
    exact ⟨ret_int (by decide), rfl⟩
set_option maxHeartbeats 400000 in
theorem compare_any (x y : Int) (w : World) : Calls Try.prog 59 #[.int .i64 x, .int .i64 y] w fun e w' => e = .returned (.int .i64 (cmpI x y)) ∧ w' = w := by
  by_cases h1 : x < y
  · go_enter Try.func59, Try.ntmps59
    go_wp2
    go_ret
    exact ⟨ret_int (cmp_lt h1).symm, rfl⟩
  · by_cases h2 : y < x
    · go_enter Try.func59, Try.ntmps59
      go_wp2
      go_ret
      exact ⟨ret_int (cmp_gt h2).symm, rfl⟩
    · go_enter Try.func59, Try.ntmps59
      go_wp2
      go_ret
      exact ⟨ret_int (cmp_eq (by omega)).symm, rfl⟩
set_option maxHeartbeats 400000 in
theorem compare64_any (x y : Int) (w : World) : Calls Try.prog 63 #[.int .u64 x, .int .u64 y] w fun e w' => e = .returned (.int .i64 (cmpI x y)) ∧ w' = w := by
  by_cases h1 : x < y
  · go_enter Try.func63, Try.ntmps63
    go_wp2
    go_ret
    exact ⟨ret_int (cmp_lt h1).symm, rfl⟩
  · by_cases h2 : y < x
    · go_enter Try.func63, Try.ntmps63
      go_wp2
      go_ret
      exact ⟨ret_int (cmp_gt h2).symm, rfl⟩
    · go_enter Try.func63, Try.ntmps63
      go_wp2
      go_ret
      exact ⟨ret_int (cmp_eq (by omega)).symm, rfl⟩
set_option maxHeartbeats 400000 in
theorem byId_any (a b : VlanC) (w : World) : Calls Try.prog 44 #[.agg #[.int .i64 a.1, .int .u8 a.2.1, .int .u8 a.2.2], .agg #[.int .i64 b.1, .int .u8 b.2.1, .int .u8 b.2.2]] w fun e w' => e = .returned (.int .i64 (ordV a b)) ∧ Below w.heap.size w w' := by
  have hc := compare_any a.1 b.1
  rw [cmp_v] at hc
  go_enter Try.func44, Try.ntmps44
  go_wp2_with (go_at_call 59; refine (hc _).mono ?_; rintro e w' ⟨rfl, rfl⟩)
  go_ret
  exact ⟨rfl, ((Below.refl _ _).alloc (Nat.le_refl _) _).alloc (by simp) _⟩
set_option maxHeartbeats 400000 in
theorem or_any (b : Nat) (x y : Int) (w : World) (h0 : w.cell? ⟨b, 0, none⟩ = some (.int .i64 x)) (h1 : w.cell? ⟨b, 1, none⟩ = some (.int .i64 y)) (c : Nat) :
    Calls Try.prog 62 #[.slice (some ⟨b, 0, none⟩) 2 c] w fun e w' => e = .returned (.int .i64 (orI x y)) ∧ w' = w := by
  go_enter Try.func62, Try.ntmps62
  go_wp2
  go_loop [8] (fun i => ∃ k : Nat, k ≤ 2 ∧ i = .int .i64 k ∧ (1 ≤ k → x = 0) ∧ (2 ≤ k → y = 0)) (fun i => (2 - intOf i).toNat)
  case atStart => exact ⟨0, by omega, rfl, by omega, by omega⟩
  case round =>
    obtain ⟨k, hk, rfl, hx, hy⟩ := hrel
    have h : k = 0 ∨ k = 1 ∨ k = 2 := by omega
    rcases h with rfl | rfl | rfl
    · clear hy hx
      by_cases e : x = 0
      · go_wp2
        exact ⟨⟨1, by omega, rfl, fun _ => e, by omega⟩, by simp [intOf]⟩
      · go_wp2
        go_ret
        exact ⟨ret_int (by unfold orI; rw [if_neg e]), rfl⟩
    · have e := hx (by omega)
      clear hy hx
      by_cases e2 : y = 0
      · go_wp2
        exact ⟨⟨2, by omega, rfl, fun _ => e, fun _ => e2⟩, by simp [intOf]⟩
      · go_wp2
        go_ret
        exact ⟨ret_int (by simp [orI]), rfl⟩
    · have e := hx (by omega)
      have e2 := hy (by omega)
      clear hy hx
      go_wp2
      go_ret
      exact ⟨ret_int (by simp [orI]), rfl⟩
set_option maxHeartbeats 400000 in
theorem within32_any (x a b : Int) (w : World) : Calls Try.prog 46 #[.int .u32 x, .int .u32 a, .int .u32 b] w fun e w' => e = .returned (.bool (wi x a b)) ∧ w' = w := by
  by_cases h1 : a ≤ x
  · by_cases h2 : x ≤ b
    · go_enter Try.func46, Try.ntmps46
      go_wp2
      go_ret
      exact ⟨ret_bool (wi_of h1 h2).symm, rfl⟩
    · go_enter Try.func46, Try.ntmps46
      go_wp2
      go_ret
      exact ⟨ret_bool (wi_not (by omega)).symm, rfl⟩
  · go_enter Try.func46, Try.ntmps46
    go_wp2
    go_ret
    exact ⟨ret_bool (wi_not (by omega)).symm, rfl⟩
set_option maxHeartbeats 400000 in
theorem within64_any (x a b : Int) (w : World) : Calls Try.prog 48 #[.int .u64 x, .int .u64 a, .int .u64 b] w fun e w' => e = .returned (.bool (wi x a b)) ∧ w' = w := by
  by_cases h1 : a ≤ x
  · by_cases h2 : x ≤ b
    · go_enter Try.func48, Try.ntmps48
      go_wp2
      go_ret
      exact ⟨ret_bool (wi_of h1 h2).symm, rfl⟩
    · go_enter Try.func48, Try.ntmps48
      go_wp2
      go_ret
      exact ⟨ret_bool (wi_not (by omega)).symm, rfl⟩
  · go_enter Try.func48, Try.ntmps48
    go_wp2
    go_ret
    exact ⟨ret_bool (wi_not (by omega)).symm, rfl⟩
set_option maxHeartbeats 400000 in
theorem withinI_any (x a b : Int) (w : World) : Calls Try.prog 64 #[.int .i64 x, .int .i64 a, .int .i64 b] w fun e w' => e = .returned (.bool (wi x a b)) ∧ w' = w := by
  by_cases h1 : a ≤ x
  · by_cases h2 : x ≤ b
    · go_enter Try.func64, Try.ntmps64
      go_wp2
      go_ret
      exact ⟨ret_bool (wi_of h1 h2).symm, rfl⟩
    · go_enter Try.func64, Try.ntmps64
      go_wp2
      go_ret
      exact ⟨ret_bool (wi_not (by omega)).symm, rfl⟩
  · go_enter Try.func64, Try.ntmps64
    go_wp2
    go_ret
    exact ⟨ret_bool (wi_not (by omega)).symm, rfl⟩
set_option maxHeartbeats 400000 in
theorem isMember_any (v : VlanC) (hv : 0 ≤ v.2.1 ∧ v.2.1 ≤ 255) (p : Int) (w : World) : Calls Try.prog 47 #[.agg #[.int .i64 v.1, .int .u8 v.2.1, .int .u8 v.2.2], .int .i64 p] w fun e w' => e = .returned (.bool (isMem v p)) ∧ Below w.heap.size w w' := by
  obtain ⟨hv1, hv2⟩ := hv
  cases hw : wi p 0 7 with
  | true =>
    have hwc := within_any p 0 7
    rw [hw] at hwc
    have hp := wi_t hw
    obtain ⟨n, rfl⟩ := Int.eq_ofNat_of_zero_le hp.1
    go_enter Try.func47, Try.ntmps47
    go_wp2_with (go_at_call 42; refine (hwc _).mono ?_; rintro e w' ⟨rfl, rfl⟩)
    go_ret
    exact ⟨ret_bool (by unfold isMem; rw [hw]; rfl), (Below.refl _ _).alloc (Nat.le_refl _) _⟩
  | false =>
    have hwc := within_any p 0 7
    rw [hw] at hwc
    go_enter Try.func47, Try.ntmps47
    go_wp2_with (go_at_call 42; refine (hwc _).mono ?_; rintro e w' ⟨rfl, rfl⟩)
    go_ret
    exact ⟨ret_bool (by simp [isMem, hw]), (Below.refl _ _).alloc (Nat.le_refl _) _⟩
set_option maxHeartbeats 400000 in
theorem finder_any (v : VlanC) (b : Nat) (id : Int) (w : World) (hb : w.cell? ⟨b, 0, none⟩ = some (.int .i64 id)) : Calls Try.prog 61 #[.agg #[.int .i64 v.1, .int .u8 v.2.1, .int .u8 v.2.2], .pointer (some ⟨b, 0, none⟩)] w fun e w' => e = .returned (.bool (decide (v.1 = id))) ∧ Below w.heap.size w w' := by
  have hb2 : ∀ o, (w.alloc o).cell? ⟨b, 0, none⟩ = some (.int .i64 id) := fun o => Lib.cell?_alloc_marked o hb
  go_enter Try.func61, Try.ntmps61
  go_wp2
  go_ret
  exact ⟨rfl, (Below.refl _ _).alloc (Nat.le_refl _) _⟩
theorem cell_at (w : World) (c : Array Value) (t : TypeId) (r : Nat × Nat) (n i : Nat) (hn : n = w.heap.size) : (w.alloc (.cells c t r)).cell? ⟨n, i, none⟩ = c[i]? := by
  subst hn
  unfold World.cell? World.alloc
  simp only [Array.getElem?_push, if_true]
  rfl
theorem cell_lit {w : World} {c : Array Value} {t : TypeId} {r : Nat × Nat} {N i : Nat} {v : Value} (h : N = w.heap.size) (hc : c[i]? = some v) : (w.alloc (.cells c t r)).cell? ⟨N, i, none⟩ = some v := (cell_at w c t r N i h).trans hc
theorem lt_of_cell {w : World} {b i : Nat} {v : Value} (h : w.cell? ⟨b, i, none⟩ = some v) : b < w.heap.size := World.block_lt_of_cell? w ⟨b, i, none⟩ h
theorem keep_cell {w W : World} {b i : Nat} {v : Value} (h : w.cell? ⟨b, i, none⟩ = some v) (hb : Below w.heap.size w W) : W.cell? ⟨b, i, none⟩ = some v := (hb.cell (p := ⟨b, i, none⟩) (lt_of_cell h)).trans h
set_option maxHeartbeats 1000000 in
theorem byVM_any (a b : StatC) (w : World) : Calls Try.prog 50 #[.agg #[.int .u64 a.1, .int .i64 a.2.1, .int .i64 a.2.2], .agg #[.int .u64 b.1, .int .i64 b.2.1, .int .i64 b.2.2]] w fun e w' => e = .returned (.int .i64 (ordS a b)) ∧ Below w.heap.size w w' := by
  rw [← cmp_s]
  obtain ⟨a1, a2, a3⟩ := a
  obtain ⟨b1, b2, b3⟩ := b
  have h1 := hide (compare_any a2 b2)
  have h2 := hide (compare64_any a1 b1)
  dsimp only
  generalize cmpI a2 b2 = x at *
  generalize cmpI a1 b1 = y at *
  have c0 : ((w.alloc (.cells #[.int .u64 a1, .int .i64 a2, .int .i64 a3] 52)).alloc (.cells #[.int .u64 b1, .int .i64 b2, .int .i64 b3] 52)).cell? ⟨w.heap.size, 0, none⟩ = some (.int .u64 a1) := Lib.cell?_alloc_marked _ (cell_lit rfl rfl)
  have c1 : ((w.alloc (.cells #[.int .u64 a1, .int .i64 a2, .int .i64 a3] 52)).alloc (.cells #[.int .u64 b1, .int .i64 b2, .int .i64 b3] 52)).cell? ⟨w.heap.size, 1, none⟩ = some (.int .i64 a2) := Lib.cell?_alloc_marked _ (cell_lit rfl rfl)
  have d0 : ((w.alloc (.cells #[.int .u64 a1, .int .i64 a2, .int .i64 a3] 52)).alloc (.cells #[.int .u64 b1, .int .i64 b2, .int .i64 b3] 52)).cell? ⟨w.heap.size + 1, 0, none⟩ = some (.int .u64 b1) := cell_lit (by simp) rfl
  have d1 : ((w.alloc (.cells #[.int .u64 a1, .int .i64 a2, .int .i64 a3] 52)).alloc (.cells #[.int .u64 b1, .int .i64 b2, .int .i64 b3] 52)).cell? ⟨w.heap.size + 1, 1, none⟩ = some (.int .i64 b2) := cell_lit (by simp) rfl
  have HB : Hid (Below w.heap.size w ((w.alloc (.cells #[.int .u64 a1, .int .i64 a2, .int .i64 a3] 52)).alloc (.cells #[.int .u64 b1, .int .i64 b2, .int .i64 b3] 52))) := below_alloc (below_alloc (Below.refl _ _) _) _
  go_enter Try.func50, Try.ntmps50
  go_wp2
  generalize (w.alloc (.cells #[.int .u64 a1, .int .i64 a2, .int .i64 a3] 52)).alloc (.cells #[.int .u64 b1, .int .i64 b2, .int .i64 b3] 52) = w1 at *
  have HK := hide (fun (W : World) (h : Below w1.heap.size w1 W) => (⟨h, keep_cell c0 h, keep_cell c1 h, keep_cell d0 h, keep_cell d1 h⟩ : Below w1.heap.size w1 W ∧ W.cell? ⟨w.heap.size, 0, none⟩ = some (.int .u64 a1) ∧ W.cell? ⟨w.heap.size, 1, none⟩ = some (.int .i64 a2) ∧ W.cell? ⟨w.heap.size + 1, 0, none⟩ = some (.int .u64 b1) ∧ W.cell? ⟨w.heap.size + 1, 1, none⟩ = some (.int .i64 b2)))
  go_region_held3 (fun W => Below w1.heap.size w1 W ∧ W.cell? ⟨w.heap.size, 0, none⟩ = some (.int .u64 a1) ∧ W.cell? ⟨w.heap.size, 1, none⟩ = some (.int .i64 a2) ∧ W.cell? ⟨w.heap.size + 1, 0, none⟩ = some (.int .u64 b1) ∧ W.cell? ⟨w.heap.size + 1, 1, none⟩ = some (.int .i64 b2)) ((go_split_ands; refine unhide HK _ ?_; repeat (first | assumption | exact Below.refl _ _ | apply Below.drew | apply below_alloc))) (first
    | (go_at_call 59; refine (unhide h1 _).mono ?_; rintro e w' ⟨rfl, rfl⟩)
    | (go_at_call 63; refine (unhide h2 _).mono ?_; rintro e w' ⟨rfl, rfl⟩)
    | (go_at_call 62; refine (or_any _ x y _ ?_ ?_ 2).mono ?_; (focus (simp; done)); (focus (simp; done)); rintro e w' ⟨rfl, rfl⟩))
  all_goals
    go_wp2
    go_ret
    exact ⟨rfl, below_then (unhide HB) (below_alloc (Below.refl _ _) _).drew⟩
end Go.Proofs.Ytbbadncdkiganaa
