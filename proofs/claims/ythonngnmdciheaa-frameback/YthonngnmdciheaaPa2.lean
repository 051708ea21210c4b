/- Parse: a part. -/
import Derived.Test.YthonngnmdciheaaPar
namespace Go.Proofs.Ythonngnmdciheaa
open Go.RowKit
set_option linter.unusedVariables false
attribute [local go_sem] drewN_alloc drewN_set
set_option maxHeartbeats 8000000 in
theorem parse_Pa2 (b off c : Nat) (bs : List Nat) (w : World) (hx : ∀ x ∈ bs, x < 256) (hc : ∀ W, Below w.heap.size w W → ∀ j, j < bs.length → W.cell? ⟨b, off + j, none⟩ = some (.int .u8 (bs.getD j 0 : Nat))) (hl2 : bs.length ≤ 100000) (hc2 : bs.length ≤ c) (hc3 : c ≤ 9223372036854775807) (hm : mkB bs = true) (h18 : 18 ≤ bs.length) (hce : c = 18) : Calls Try.prog 11 #[.slice (some ⟨b, off, none⟩) bs.length c] w fun e w' => ParO e (parF bs) w w' := by
  have KM := hide (fun W (hW : Below w.heap.size w W) => marked_any b off c bs W hx (by omega) (by omega) hc2 hc3 (hc W hW))
  rw [hm] at KM
  have KL := hide (fun W => least_any true W)
  rw [show ((leastN true : Nat) : Int) = 18 from rfl] at KL
  have KD := hide (fun W (hW : Below w.heap.size w W) c' => of_any W (some ⟨b, off, none⟩) c' (bs.take 6) (fun x h => hx x (List.mem_of_mem_take h)) (by have := row_drop (hc W hW) 0 6; simpa using this))
  have KS := hide (fun W (hW : Below w.heap.size w W) c' => of_any W (some ⟨b, off + 6, none⟩) c' ((bs.drop 6).take 6) (fun x h => hx x (List.mem_of_mem_drop (List.mem_of_mem_take h))) (row_drop (hc W hW) 6 6))
  rw [ofN_six _ (by simp; omega), show (bs.take 6).length = 6 by simp; omega] at KD
  rw [ofN_six _ (by simp; omega), show ((bs.drop 6).take 6).length = 6 by simp; omega] at KS
  simp only at KD KS
  have KT := hide (fun W (hW : Below w.heap.size w W) => number_any b (off + 14) (bs.length - 14) (c - 14) (bs.getD 14 0) (bs.getD 15 0) W (by omega) (by omega) (getD_lt bs hx 14) (getD_lt bs hx 15) (hc W hW 14 (by omega)) (by have := hc W hW 15 (by omega); rw [Nat.add_assoc]; exact this))
  rw [show bs.getD 14 0 * 256 + bs.getD 15 0 = at2 bs 14 from rfl] at KT
  have ht := at2_lt bs hx 14
  have KN := hide (fun W (hW : Below w.heap.size w W) => number_any b (off + 16) (bs.length - 16) (c - 16) (bs.getD 16 0) (bs.getD 17 0) W (by omega) (by omega) (getD_lt bs hx 16) (getD_lt bs hx 17) (hc W hW 16 (by omega)) (by have := hc W hW 17 (by omega); rw [Nat.add_assoc]; exact this))
  rw [show bs.getD 16 0 * 256 + bs.getD 17 0 = at2 bs 16 from rfl] at KN
  have hn : ¬ (bs.length : Int) < 14 := by omega
  have hn8 : ¬ (bs.length : Int) < 18 := by omega
  have KG := hide (fun W A c' => fgood_any (parF bs) (parF_fit bs hx (by omega) (by omega)) A c' W)
  have hd0 : bs.drop 18 = [] := List.drop_eq_nil_of_le (by omega)
  have KR := hide (fun W (hW : Below w.heap.size w W) => (by rw [hd0]; exact rowA_nil _ _ : RowA W (some ⟨b, off, none⟩) (u8s (bs.drop 18))))
  clear hd0
  have hbl : (bs.drop 18).length = bs.length - 18 := List.length_drop
  have KJ := hide (fun W (hW : Below w.heap.size w W) => join_one (some ⟨b, off, none⟩) (c - 18) (bs.drop 18) W (unhide KR W hW) (by omega))
  have hq1 : ¬ c = 6 := by omega
  have hq12 : ¬ c = 12 := by omega
  have hq14 : ¬ c = 14 := by omega
  have hq16 : ¬ c = 16 := by omega
  have HP : Hid (parF bs = ⟨fo (bs.take 6), fo ((bs.drop 6).take 6), true, (at2 bs 14 : Int) / 8192, (at2 bs 14 : Int) % 8192, ((at2 bs 16 : Nat) : Int), bs.drop 18⟩) := by show _ = _; simp [parF, endN, hm, leastN]
  rw [unhide HP] at KG ⊢
  simp only [hbl] at KG KJ
  have HL := hide hbl
  clear hc hx hm HP hbl KR
  generalize at2 bs 14 = tci at *
  generalize at2 bs 16 = kd at *
  generalize fo (bs.take 6) = ds at *
  generalize fo ((bs.drop 6).take 6) = sr at *
  generalize bs.drop 18 = bd at *
  obtain ⟨F, hF⟩ : ∃ F : Fr, F = ⟨ds, sr, true, (tci : Int) / 8192, (tci : Int) % 8192, ((kd : Nat) : Int), bd⟩ := ⟨_, rfl⟩
  rw [← hF] at KG ⊢
  have HF := hide hF
  clear hF
  have hi1 : (16 : Int) ≤ (bs.length : Int) := by omega
  have hi3 : (bs.length : Int) ≤ (c : Int) := by omega
  have hi4 : (18 : Int) ≤ (bs.length : Int) := by omega
  have hw : IntKind.i64.wrap 16 = 16 := by decide
  have hce2 : (c = 18) = True := eq_true hce
  clear hce
  go_enter Try.func11, Try.ntmps11
  go_wp2_with (first
    | (go_at_call 28; (with_reducible refine (unhide KM _ (by (repeat (first | (with_reducible assumption) | (with_reducible exact Below.refl _ _) | (with_reducible refine Below.drew ?_) | (with_reducible refine below_drewN ?_ _) | (with_reducible refine below_alloc ?_ _) | (with_reducible refine below_set ?_ _ _ _ (by omega)))))).mono ?_); rintro e w1 ⟨rfl, k, rfl⟩)
    | (go_at_call 29; (with_reducible refine (unhide KD _ (by (repeat (first | (with_reducible assumption) | (with_reducible exact Below.refl _ _) | (with_reducible refine Below.drew ?_) | (with_reducible refine below_drewN ?_ _) | (with_reducible refine below_alloc ?_ _) | (with_reducible refine below_set ?_ _ _ _ (by omega))))) _).mono ?_); rintro e w1 ⟨rfl, rfl⟩)
    | (go_at_call 29; (with_reducible refine (unhide KS _ (by (repeat (first | (with_reducible assumption) | (with_reducible exact Below.refl _ _) | (with_reducible refine Below.drew ?_) | (with_reducible refine below_drewN ?_ _) | (with_reducible refine below_alloc ?_ _) | (with_reducible refine below_set ?_ _ _ _ (by omega))))) _).mono ?_); rintro e w1 ⟨rfl, rfl⟩)
    | (go_at_call 30; (with_reducible refine (unhide KT _ (by (repeat (first | (with_reducible assumption) | (with_reducible exact Below.refl _ _) | (with_reducible refine Below.drew ?_) | (with_reducible refine below_drewN ?_ _) | (with_reducible refine below_alloc ?_ _) | (with_reducible refine below_set ?_ _ _ _ (by omega)))))).mono ?_); rintro e w1 ⟨rfl, k, rfl⟩)
    | (go_at_call 27; (with_reducible refine (unhide KL _).mono ?_); rintro e w1 ⟨rfl, rfl⟩))
  go_cut [4] from 5 (fun va w' => va = .pointer (some ⟨w.heap.size + 1, 0, none⟩) ∧ w'.heap[w.heap.size + 1]? = some (.cells #[.int .u64 (ds : Int), .int .u64 (sr : Int), .bool true, .int .i64 ((tci : Int) / 8192), .int .i64 ((tci : Int) % 8192), .int .i64 (kd : Int), .slice (some ⟨b, off, none⟩) (bs.length - 18) (c - 18)] 25 (0, 0)) ∧ w'.heap[w.heap.size]? = some (.cells #[.int .u64 0, .int .u64 0, .bool false, .int .i64 0, .int .i64 0, .int .i64 0, .slice none 0 0] 25 (0, 0)) ∧ Below w.heap.size w w')
  case first =>
    have HT := hide (two_blocks w #[.int .u64 0, .int .u64 0, .bool false, .int .i64 0, .int .i64 0, .int .i64 0, .slice none 0 0] #[.int .u64 (ds : Int), .int .u64 (sr : Int), .bool true, .int .i64 ((tci : Int) / 8192), .int .i64 ((tci : Int) % 8192), .int .i64 (kd : Int), .slice (some ⟨b, off, none⟩) (bs.length - 18) (c - 18)])
    go_region_held3 (fun W => Below w.heap.size w W)
      ((repeat (first | (with_reducible assumption) | (with_reducible exact Below.refl _ _) | (with_reducible refine Below.drew ?_) | (with_reducible refine below_drewN ?_ _) | (with_reducible refine below_alloc ?_ _) | (with_reducible refine below_set ?_ _ _ _ (by omega)))))
      (first
        | (go_at_call 30; (with_reducible refine (unhide KN _ (by (repeat (first | (with_reducible assumption) | (with_reducible exact Below.refl _ _) | (with_reducible refine Below.drew ?_) | (with_reducible refine below_drewN ?_ _) | (with_reducible refine below_alloc ?_ _) | (with_reducible refine below_set ?_ _ _ _ (by omega)))))).mono ?_); rintro e w1 ⟨rfl, k, rfl⟩))
    all_goals
      go_wp2
      go_meet
      case rel => exact ⟨rfl, (unhide HT).2.2.1, (unhide HT).2.1, by (repeat (first | (with_reducible assumption) | (with_reducible exact Below.refl _ _) | (with_reducible refine Below.drew ?_) | (with_reducible refine below_drewN ?_ _) | (with_reducible refine below_alloc ?_ _) | (with_reducible refine below_set ?_ _ _ _ (by omega))))⟩
  case rest =>
    obtain ⟨rfl, h1, h0, hbw⟩ := hcut
    have H1 := hide h1
    have H0 := hide h0
    have HBW := hide hbw
    clear h1 h0 hbw
    have q0 : wc.cell? ⟨w.heap.size + 1, 0, none⟩ = some (.int .u64 (ds : Int)) := (heap_cell (unhide H1) 0).1
    have q1 : wc.cell? ⟨w.heap.size + 1, 1, none⟩ = some (.int .u64 (sr : Int)) := (heap_cell (unhide H1) 1).1
    have q2 : wc.cell? ⟨w.heap.size + 1, 2, none⟩ = some (.bool true) := (heap_cell (unhide H1) 2).1
    have q3 : wc.cell? ⟨w.heap.size + 1, 3, none⟩ = some (.int .i64 ((tci : Int) / 8192)) := (heap_cell (unhide H1) 3).1
    have q4 : wc.cell? ⟨w.heap.size + 1, 4, none⟩ = some (.int .i64 ((tci : Int) % 8192)) := (heap_cell (unhide H1) 4).1
    have q5 : wc.cell? ⟨w.heap.size + 1, 5, none⟩ = some (.int .i64 (kd : Int)) := (heap_cell (unhide H1) 5).1
    have q6 : wc.cell? ⟨w.heap.size + 1, 6, none⟩ = some (.slice (some ⟨b, off, none⟩) (bs.length - 18) (c - 18)) := (heap_cell (unhide H1) 6).1
    cases hg : goodF F with
    | false =>
      rw [hg] at KG
      go_wp2_with (go_at_call 13; (with_reducible refine (unhide KG _ _ _).mono ?_); rintro e w2 ⟨rfl, hb2⟩; have HB2 := hide hb2; have K0 := hide (heap_keep (unhide H0) hb2); obtain ⟨m0, l0⟩ := heap_cell (unhide K0) 0; obtain ⟨m1, l1⟩ := heap_cell (unhide K0) 1; obtain ⟨m2, l2⟩ := heap_cell (unhide K0) 2; obtain ⟨m3, l3⟩ := heap_cell (unhide K0) 3; obtain ⟨m4, l4⟩ := heap_cell (unhide K0) 4; obtain ⟨m5, l5⟩ := heap_cell (unhide K0) 5; obtain ⟨m6, l6⟩ := heap_cell (unhide K0) 6; clear hb2)
      exact ret_cell2 (x := .int .i64 11) (g := w.heap.size) (c := #[.int .u64 0, .int .u64 0, .bool false, .int .i64 0, .int .i64 0, .int .i64 0, .slice none 0 0]) (t := 25) rfl rfl rfl rfl (heap_sets7 (unhide K0) (.int .u64 0) (.int .u64 0) (.bool false) (.int .i64 0) (.int .i64 0) (.int .i64 0) (.slice none 0 0)) Try.underlying25 rfl Try.size25 ⟨fun h => absurd (hg.symm.trans h) (by decide), fun _ => frO2_zero (below_sets7 (below_then (unhide HBW) (unhide HB2)) w.heap.size (Nat.le_refl _) (.int .u64 0) (.int .u64 0) (.bool false) (.int .i64 0) (.int .i64 0) (.int .i64 0) (.slice none 0 0))⟩
    | true =>
      rw [hg] at KG
      go_wp2_with (first
        | (go_at_call 13; (with_reducible refine (unhide KG _ _ _).mono ?_); rintro e w2 ⟨rfl, hb2⟩; have HB2 := hide hb2; obtain ⟨r6, _⟩ := heap_cell (heap_keep (unhide H1) hb2) 6; clear hb2)
        | (go_at_call 22; go_loud ((refine (unhide KJ w2 (below_then (unhide HBW) (unhide HB2)) _ rfl).mono ?_); rintro e w5 ⟨B, d, rfl, ho5, hb5⟩; have HO := hide ho5; have HB := hide hb5; have K1 := hide (heap_keep (unhide H1) (below_then (unhide HB2) hb5)); have K2 := hide (heap_keep (unhide H0) (below_then (unhide HB2) hb5)); have f6 := (heap_cell (unhide K1) 6).2; have c6 : w5.cell? ⟨w.heap.size + 1, 6, none⟩ = some (.slice (some ⟨b, off, none⟩) (bs.length - 18) (c - 18)) := (heap_cell (unhide K1) 6).1; have KA : Hid ((w5.setCell ⟨w.heap.size + 1, 6, none⟩ (.slice B (bs.length - 18) d)).heap[w.heap.size + 1]? = some (.cells #[.int .u64 (ds : Int), .int .u64 (sr : Int), .bool true, .int .i64 ((tci : Int) / 8192), .int .i64 ((tci : Int) % 8192), .int .i64 (kd : Int), .slice B (bs.length - 18) d] 25 (0, 0))) := hide (by have := heap_set (unhide K1) 6 (.slice B (bs.length - 18) d); simpa using this); have KB := hide (heap_setC (unhide K2) (g := w.heap.size + 1) (by omega) 6 (.slice B (bs.length - 18) d)); obtain ⟨a0, b0⟩ := heap_cell (unhide KA) 0; obtain ⟨a1, b1⟩ := heap_cell (unhide KA) 1; obtain ⟨a2, b2⟩ := heap_cell (unhide KA) 2; obtain ⟨a3, b3⟩ := heap_cell (unhide KA) 3; obtain ⟨a4, b4⟩ := heap_cell (unhide KA) 4; obtain ⟨a5, b5⟩ := heap_cell (unhide KA) 5; obtain ⟨a6, b6⟩ := heap_cell (unhide KA) 6; obtain ⟨m0, l0⟩ := heap_cell (unhide KB) 0; obtain ⟨m1, l1⟩ := heap_cell (unhide KB) 1; obtain ⟨m2, l2⟩ := heap_cell (unhide KB) 2; obtain ⟨m3, l3⟩ := heap_cell (unhide KB) 3; obtain ⟨m4, l4⟩ := heap_cell (unhide KB) 4; obtain ⟨m5, l5⟩ := heap_cell (unhide KB) 5; obtain ⟨m6, l6⟩ := heap_cell (unhide KB) 6; clear ho5 hb5)))
      clear a0 b0 m0 l0 a1 b1 m1 l1 a2 b2 m2 l2 a3 b3 m3 l3 a4 b4 m4 l4 a5 b5 m5 l5 a6 b6 m6 l6
      have HO2 := hide (own_sets7 (ownsRow_setCell_below (a := ⟨w.heap.size + 1, 6, none⟩) (unhide HO) (by have := lt_of_get (heap_keep (unhide H1) (unhide HB2)); show w.heap.size + 1 < _; omega) (.slice B (bs.length - 18) d)) w.heap.size (by have := lt_of_get (heap_keep (unhide H1) (unhide HB2)); omega) (.int .u64 (ds : Int)) (.int .u64 (sr : Int)) (.bool true) (.int .i64 ((tci : Int) / 8192)) (.int .i64 ((tci : Int) % 8192)) (.int .i64 (kd : Int)) (.slice B (bs.length - 18) d))
      obtain ⟨B', d', he, hr⟩ := own_row1 (unhide HO2)
      cases he
      refine ret_cell2 (x := .int .i64 0) (g := w.heap.size) (c := #[.int .u64 (ds : Int), .int .u64 (sr : Int), .bool true, .int .i64 ((tci : Int) / 8192), .int .i64 ((tci : Int) % 8192), .int .i64 (kd : Int), .slice B (bs.length - 18) d]) (t := 25) rfl rfl rfl rfl (heap_sets7 (unhide KB) (.int .u64 (ds : Int)) (.int .u64 (sr : Int)) (.bool true) (.int .i64 ((tci : Int) / 8192)) (.int .i64 ((tci : Int) % 8192)) (.int .i64 (kd : Int)) (.slice B (bs.length - 18) d)) Try.underlying25 rfl Try.size25 ?_
      refine ⟨fun _ => ?_, fun h => absurd (hg.symm.trans h) (by decide)⟩
      rw [unhide HF]
      refine ⟨B, d, by simp only [unhide HL], hr, ?_⟩
      exact below_sets7 (below_set (below_then (unhide HBW) (below_then (unhide HB2) (unhide HB))) (w.heap.size + 1) 6 _ (by omega)) w.heap.size (Nat.le_refl _) (.int .u64 (ds : Int)) (.int .u64 (sr : Int)) (.bool true) (.int .i64 ((tci : Int) / 8192)) (.int .i64 ((tci : Int) % 8192)) (.int .i64 (kd : Int)) (.slice B (bs.length - 18) d)
end Go.Proofs.Ythonngnmdciheaa
