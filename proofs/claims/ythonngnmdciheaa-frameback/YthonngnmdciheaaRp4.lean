/- The reference's Parse: a part. -/
import Derived.Test.YthonngnmdciheaaPar
import Derived.Test.YthonngnmdciheaaRg
namespace Go.Proofs.Ythonngnmdciheaa
open Go.RowKit
set_option linter.unusedVariables false
attribute [local go_sem] drewN_alloc drewN_set
set_option maxRecDepth 10000 in
set_option maxHeartbeats 8000000 in
theorem rparse_Rp4 (b off c : Nat) (bs : List Nat) (w : World) (hx : ∀ x ∈ bs, x < 256) (hc : ∀ W, Below w.heap.size w W → ∀ j, j < bs.length → W.cell? ⟨b, off + j, none⟩ = some (.int .u8 (bs.getD j 0 : Nat))) (hl2 : bs.length ≤ 100000) (hc2 : bs.length ≤ c) (hc3 : c ≤ 9223372036854775807) (hm : mkB bs = false) (hz : ¬ bs.getD 12 0 = 129) (h18 : 14 ≤ bs.length) (hce : c = 14) : Calls Try.prog 12 #[.slice (some ⟨b, off, none⟩) bs.length c] w fun e w' => ParO e (parF bs) w w' := by
  have KD := hide (fun W (hW : Below w.heap.size w W) c' => rof_any W (some ⟨b, off, none⟩) c' (bs.take 6) (fun x h => hx x (List.mem_of_mem_take h)) (by have := row_drop (hc W hW) 0 6; simpa using this))
  have KS := hide (fun W (hW : Below w.heap.size w W) c' => rof_any W (some ⟨b, off + 6, none⟩) c' ((bs.drop 6).take 6) (fun x h => hx x (List.mem_of_mem_drop (List.mem_of_mem_take h))) (row_drop (hc W hW) 6 6))
  rw [ofN_six _ (by simp; omega), show (bs.take 6).length = 6 by simp; omega] at KD
  rw [ofN_six _ (by simp; omega), show ((bs.drop 6).take 6).length = 6 by simp; omega] at KS
  simp only at KD KS
  have hn : ¬ (bs.length : Int) < 14 := by omega
  have KG := hide (fun W A c' => rfgood_any (parF bs) (parF_fit bs hx (by omega) (by omega)) A c' W)
  have hd0 : bs.drop 14 = [] := List.drop_eq_nil_of_le (by omega)
  have KR := hide (fun W (hW : Below w.heap.size w W) => (by rw [hd0]; exact rowA_nil _ _ : RowA W (some ⟨b, off, none⟩) (u8s (bs.drop 14))))
  clear hd0
  have hbl : (bs.drop 14).length = bs.length - 14 := List.length_drop
  have HQ := hide (fun W (hW : Below w.heap.size w W) => (⟨hW, hc W hW 12 (by omega), hc W hW 13 (by omega)⟩ : Below w.heap.size w W ∧ W.cell? ⟨b, off + 12, none⟩ = some (.int .u8 (bs.getD 12 0 : Nat)) ∧ W.cell? ⟨b, off + 13, none⟩ = some (.int .u8 (bs.getD 13 0 : Nat))))
  have hy12 := getD_lt bs hx 12
  have hy13 := getD_lt bs hx 13
  have hblk : b < w.heap.size := World.block_lt_of_cell? _ _ (hc w (Below.refl _ _) 12 (by omega))
  have hb1 : ¬ b = w.heap.size := by omega
  have hb2 : ¬ b = w.heap.size + 1 := by omega
  have hq1 : ¬ c = 6 := by omega
  have h2 : at2 bs 12 = bs.getD 12 0 * 256 + bs.getD 13 0 := rfl
  have hmm : ¬ bs.getD 12 0 = 129 := by have := hm; unfold mkB at this; simp at this; omega
  have HP : Hid (parF bs = ⟨fo (bs.take 6), fo ((bs.drop 6).take 6), false, 0, 0, (((bs.getD 12 0 : Nat) : Int) * 256 + ((bs.getD 13 0 : Nat) : Int)), bs.drop 14⟩) := by show _ = _; simp [parF, endN, hm, leastN, at2]
  rw [unhide HP] at KG ⊢
  simp only [hbl] at KG
  have HL := hide hbl
  clear hc hx hm HP hbl h2
  generalize bs.getD 12 0 = y0 at *
  generalize bs.getD 13 0 = y1 at *
  generalize fo (bs.take 6) = ds at *
  generalize fo ((bs.drop 6).take 6) = sr at *
  generalize bs.drop 14 = bd at *
  obtain ⟨F, hF⟩ : ∃ F : Fr, F = ⟨ds, sr, false, 0, 0, ((y0 : Int) * 256 + (y1 : Int)), bd⟩ := ⟨_, rfl⟩
  rw [← hF] at KG ⊢
  have HF := hide hF
  clear hF
  obtain ⟨i0, hi, hz0, hz1, hz2⟩ := i5
  have hi12 : (12 : Int) < (bs.length : Int) := by omega
  have hi13 : (13 : Int) < (bs.length : Int) := by omega
  have hi3 : (bs.length : Int) ≤ (c : Int) := by omega
  obtain ⟨_, p12, p13⟩ := unhide HQ w (Below.refl _ _)
  have hce2 : (c = 14) = True := eq_true hce
  clear hce
  have he1 : ((y0 : Int) == 129) = false := by simp; omega
  have he2 : decide ((y0 : Int) = 129) = false := by simp; omega
  clear hmm hz
  go_enter Try.func12, Try.ntmps12
  go_wp2_with (first
    | (go_at_call 31; (with_reducible refine (unhide KD _ (by (repeat (first | (with_reducible assumption) | (with_reducible exact Below.refl _ _) | (with_reducible refine Below.drew ?_) | (with_reducible refine below_drewN ?_ _) | (with_reducible refine below_alloc ?_ _) | (with_reducible refine below_set ?_ _ _ _ (by omega))))) _).mono ?_); rintro e w1 ⟨rfl, rfl⟩)
    | (go_at_call 31; (with_reducible refine (unhide KS _ (by (repeat (first | (with_reducible assumption) | (with_reducible exact Below.refl _ _) | (with_reducible refine Below.drew ?_) | (with_reducible refine below_drewN ?_ _) | (with_reducible refine below_alloc ?_ _) | (with_reducible refine below_set ?_ _ _ _ (by omega))))) _).mono ?_); rintro e w1 ⟨rfl, rfl⟩))
  go_cut [4, 5] from 6 (fun va vb w' => va = .pointer (some ⟨w.heap.size + 1, 0, none⟩) ∧ vb = .int .i64 12 ∧ w'.heap[w.heap.size + 1]? = some (.cells #[.int .u64 (ds : Int), .int .u64 (sr : Int), .bool false, .int .i64 0, .int .i64 0, .int .i64 ((y0 : Int) * 256 + (y1 : Int)), .slice none 0 0] 25 (0, 0)) ∧ w'.heap[w.heap.size]? = some (.cells #[.int .u64 0, .int .u64 0, .bool false, .int .i64 0, .int .i64 0, .int .i64 0, .slice none 0 0] 25 (0, 0)) ∧ Below w.heap.size w w')
  case first =>
    have HT := hide (two_blocks w #[.int .u64 0, .int .u64 0, .bool false, .int .i64 0, .int .i64 0, .int .i64 0, .slice none 0 0] #[.int .u64 (ds : Int), .int .u64 (sr : Int), .bool false, .int .i64 0, .int .i64 0, .int .i64 ((y0 : Int) * 256 + (y1 : Int)), .slice none 0 0])
    have hv1 : IntKind.i64.wrap (y0 : Int) = (y0 : Int) := by rw [IntKind.wrap_i64]; omega
    have hv2 : IntKind.i64.wrap (y1 : Int) = (y1 : Int) := by rw [IntKind.wrap_i64]; omega
    have hv3 : IntKind.i64.wrap ((y0 : Int) * 256) = (y0 : Int) * 256 := by rw [IntKind.wrap_i64]; omega
    have hv4 : IntKind.i64.wrap ((y0 : Int) * 256 + (y1 : Int)) = (y0 : Int) * 256 + (y1 : Int) := by rw [IntKind.wrap_i64]; omega
    have hv5 : IntKind.i64.wrap 13 = 13 := by decide
    go_region_held3 (fun W => Below w.heap.size w W ∧ W.cell? ⟨b, off + 12, none⟩ = some (.int .u8 (y0 : Int)) ∧ W.cell? ⟨b, off + 13, none⟩ = some (.int .u8 (y1 : Int)))
      ((go_split_ands; refine (fun hW => ⟨hW, (unhide HQ _ hW).2.1, (unhide HQ _ hW).2.2⟩ : ∀ {W}, Below w.heap.size w W → Below w.heap.size w W ∧ W.cell? ⟨b, off + 12, none⟩ = some (.int .u8 (y0 : Int)) ∧ W.cell? ⟨b, off + 13, none⟩ = some (.int .u8 (y1 : Int))) ?_; (repeat (first | (with_reducible assumption) | (with_reducible exact Below.refl _ _) | (with_reducible refine Below.drew ?_) | (with_reducible refine below_drewN ?_ _) | (with_reducible refine below_alloc ?_ _) | (with_reducible refine below_set ?_ _ _ _ (by omega))))))
      (fail)
    all_goals
      go_wp2
      go_meet
      case rel => exact ⟨rfl, rfl, (unhide HT).2.2.1, (unhide HT).2.1, by (repeat (first | (with_reducible assumption) | (with_reducible exact Below.refl _ _) | (with_reducible refine Below.drew ?_) | (with_reducible refine below_drewN ?_ _) | (with_reducible refine below_alloc ?_ _) | (with_reducible refine below_set ?_ _ _ _ (by omega))))⟩
  case rest =>
    obtain ⟨rfl, rfl, h1, h0, hbw⟩ := hcut
    have H1 := hide h1
    have H0 := hide h0
    have HBW := hide hbw
    clear h1 h0
    have q6 : wc.cell? ⟨w.heap.size + 1, 6, none⟩ = some (.slice none 0 0) := (heap_cell (unhide H1) 6).1
    cases hg : goodF F with
    | false =>
      rw [hg] at KG
      go_wp2_with (first
        | (at_builtin; go_loud (refine wpList_append_row rfl _ _ 23 rfl wc.heap.size 5 i0 (.int .u8 0) 1 1 Try.underlying23 hi hz0 hz1 hz2 rfl (by decide) (by decide) _ 0 [] rfl (own_lit0 wc) (some ⟨b, off, none⟩) (bs.length - 14) (c - 14) (u8s bd) rfl (by rw [u8s_len, unhide HL]; omega) (unhide KR _ (by (repeat (first | (with_reducible assumption) | (with_reducible exact Below.refl _ _) | (with_reducible refine Below.drew ?_) | (with_reducible refine below_drewN ?_ _) | (with_reducible refine below_alloc ?_ _) | (with_reducible refine below_set ?_ _ _ _ (by omega)))))) (u8s_one _) (by omega) (by simp) ?_; intro v5 w5 h2 h3 _; rw [Nat.zero_add, List.nil_append] at h2; obtain ⟨B, d, rfl, _⟩ := own_row1 h2; have HO := hide h2; have HB := hide (below_base (below_alloc (Below.refl _ _) _ : Below wc.heap.size wc _) h3 (fun k e => by cases e; exact Nat.le_refl _)); have K1 := hide (heap_keep (unhide H1) (unhide HB)); have K2 := hide (heap_keep (unhide H0) (unhide HB)); have f6 := (heap_cell (unhide K1) 6).2; have c6 : w5.cell? ⟨w.heap.size + 1, 6, none⟩ = some (.slice none 0 0) := (heap_cell (unhide K1) 6).1; have KA : Hid ((w5.setCell ⟨w.heap.size + 1, 6, none⟩ (.slice B (bs.length - 14) d)).heap[w.heap.size + 1]? = some (.cells #[.int .u64 (ds : Int), .int .u64 (sr : Int), .bool false, .int .i64 0, .int .i64 0, .int .i64 ((y0 : Int) * 256 + (y1 : Int)), .slice B (bs.length - 14) d] 25 (0, 0))) := hide (by have := heap_set (unhide K1) 6 (.slice B (bs.length - 14) d); simpa using this); have KB := hide (heap_setC (unhide K2) (g := w.heap.size + 1) (by omega) 6 (.slice B (bs.length - 14) d)); obtain ⟨a0, b0⟩ := heap_cell (unhide KA) 0; obtain ⟨a1, b1⟩ := heap_cell (unhide KA) 1; obtain ⟨a2, b2⟩ := heap_cell (unhide KA) 2; obtain ⟨a3, b3⟩ := heap_cell (unhide KA) 3; obtain ⟨a4, b4⟩ := heap_cell (unhide KA) 4; obtain ⟨a5, b5⟩ := heap_cell (unhide KA) 5; obtain ⟨a6, b6⟩ := heap_cell (unhide KA) 6; clear h2 h3))
        | (go_at_call 14; (with_reducible refine (unhide KG _ _ _).mono ?_); rintro e w2 ⟨rfl, hb2⟩; have HB2 := hide hb2; have KA2 := hide (heap_keep (unhide KA) hb2); have KB2 := hide (heap_keep (unhide KB) hb2); obtain ⟨m0, l0⟩ := heap_cell (unhide KB2) 0; obtain ⟨m1, l1⟩ := heap_cell (unhide KB2) 1; obtain ⟨m2, l2⟩ := heap_cell (unhide KB2) 2; obtain ⟨m3, l3⟩ := heap_cell (unhide KB2) 3; obtain ⟨m4, l4⟩ := heap_cell (unhide KB2) 4; obtain ⟨m5, l5⟩ := heap_cell (unhide KB2) 5; obtain ⟨m6, l6⟩ := heap_cell (unhide KB2) 6; clear hb2))
      exact ret_cell2 (x := .int .i64 11) (g := w.heap.size) (c := #[.int .u64 0, .int .u64 0, .bool false, .int .i64 0, .int .i64 0, .int .i64 0, .slice none 0 0]) (t := 25) rfl rfl rfl rfl (heap_sets7 (unhide KB2) (.int .u64 0) (.int .u64 0) (.bool false) (.int .i64 0) (.int .i64 0) (.int .i64 0) (.slice none 0 0)) Try.underlying25 rfl Try.size25 ⟨fun h => absurd (hg.symm.trans h) (by decide), fun _ => frO2_zero (below_sets7 (below_then (below_set (below_then (unhide HBW) (unhide HB)) (w.heap.size + 1) 6 _ (by omega)) (unhide HB2)) w.heap.size (Nat.le_refl _) (.int .u64 0) (.int .u64 0) (.bool false) (.int .i64 0) (.int .i64 0) (.int .i64 0) (.slice none 0 0))⟩
    | true =>
      rw [hg] at KG
      go_wp2_with (first
        | (at_builtin; go_loud (refine wpList_append_row rfl _ _ 23 rfl wc.heap.size 5 i0 (.int .u8 0) 1 1 Try.underlying23 hi hz0 hz1 hz2 rfl (by decide) (by decide) _ 0 [] rfl (own_lit0 wc) (some ⟨b, off, none⟩) (bs.length - 14) (c - 14) (u8s bd) rfl (by rw [u8s_len, unhide HL]; omega) (unhide KR _ (by (repeat (first | (with_reducible assumption) | (with_reducible exact Below.refl _ _) | (with_reducible refine Below.drew ?_) | (with_reducible refine below_drewN ?_ _) | (with_reducible refine below_alloc ?_ _) | (with_reducible refine below_set ?_ _ _ _ (by omega)))))) (u8s_one _) (by omega) (by simp) ?_; intro v5 w5 h2 h3 _; rw [Nat.zero_add, List.nil_append] at h2; obtain ⟨B, d, rfl, _⟩ := own_row1 h2; have HO := hide h2; have HB := hide (below_base (below_alloc (Below.refl _ _) _ : Below wc.heap.size wc _) h3 (fun k e => by cases e; exact Nat.le_refl _)); have K1 := hide (heap_keep (unhide H1) (unhide HB)); have K2 := hide (heap_keep (unhide H0) (unhide HB)); have f6 := (heap_cell (unhide K1) 6).2; have c6 : w5.cell? ⟨w.heap.size + 1, 6, none⟩ = some (.slice none 0 0) := (heap_cell (unhide K1) 6).1; have KA : Hid ((w5.setCell ⟨w.heap.size + 1, 6, none⟩ (.slice B (bs.length - 14) d)).heap[w.heap.size + 1]? = some (.cells #[.int .u64 (ds : Int), .int .u64 (sr : Int), .bool false, .int .i64 0, .int .i64 0, .int .i64 ((y0 : Int) * 256 + (y1 : Int)), .slice B (bs.length - 14) d] 25 (0, 0))) := hide (by have := heap_set (unhide K1) 6 (.slice B (bs.length - 14) d); simpa using this); have KB := hide (heap_setC (unhide K2) (g := w.heap.size + 1) (by omega) 6 (.slice B (bs.length - 14) d)); obtain ⟨a0, b0⟩ := heap_cell (unhide KA) 0; obtain ⟨a1, b1⟩ := heap_cell (unhide KA) 1; obtain ⟨a2, b2⟩ := heap_cell (unhide KA) 2; obtain ⟨a3, b3⟩ := heap_cell (unhide KA) 3; obtain ⟨a4, b4⟩ := heap_cell (unhide KA) 4; obtain ⟨a5, b5⟩ := heap_cell (unhide KA) 5; obtain ⟨a6, b6⟩ := heap_cell (unhide KA) 6; clear h2 h3))
        | (go_at_call 14; (with_reducible refine (unhide KG _ _ _).mono ?_); rintro e w2 ⟨rfl, hb2⟩; have HB2 := hide hb2; have KA2 := hide (heap_keep (unhide KA) hb2); have KB2 := hide (heap_keep (unhide KB) hb2); obtain ⟨m0, l0⟩ := heap_cell (unhide KB2) 0; obtain ⟨m1, l1⟩ := heap_cell (unhide KB2) 1; obtain ⟨m2, l2⟩ := heap_cell (unhide KB2) 2; obtain ⟨m3, l3⟩ := heap_cell (unhide KB2) 3; obtain ⟨m4, l4⟩ := heap_cell (unhide KB2) 4; obtain ⟨m5, l5⟩ := heap_cell (unhide KB2) 5; obtain ⟨m6, l6⟩ := heap_cell (unhide KB2) 6; obtain ⟨n0, o0⟩ := heap_cell (unhide KA2) 0; obtain ⟨n1, o1⟩ := heap_cell (unhide KA2) 1; obtain ⟨n2, o2⟩ := heap_cell (unhide KA2) 2; obtain ⟨n3, o3⟩ := heap_cell (unhide KA2) 3; obtain ⟨n4, o4⟩ := heap_cell (unhide KA2) 4; obtain ⟨n5, o5⟩ := heap_cell (unhide KA2) 5; obtain ⟨n6, o6⟩ := heap_cell (unhide KA2) 6; clear hb2))
      clear m0 l0 n0 o0 m1 l1 n1 o1 m2 l2 n2 o2 m3 l3 n3 o3 m4 l4 n4 o4 m5 l5 n5 o5 m6 l6 n6 o6
      have hlt := lt_of_get (unhide H1)
      have HO2 := hide (own_sets7 (own_below (ownsRow_setCell_below (a := ⟨w.heap.size + 1, 6, none⟩) (unhide HO) (by show w.heap.size + 1 < _; omega) (.slice B (bs.length - 14) d)) (unhide HB2)) w.heap.size (by omega) (.int .u64 (ds : Int)) (.int .u64 (sr : Int)) (.bool false) (.int .i64 0) (.int .i64 0) (.int .i64 ((y0 : Int) * 256 + (y1 : Int))) (.slice B (bs.length - 14) d))
      obtain ⟨B', d', he, hr⟩ := own_row1 (unhide HO2)
      cases he
      refine ret_cell2 (x := .int .i64 0) (g := w.heap.size) (c := #[.int .u64 (ds : Int), .int .u64 (sr : Int), .bool false, .int .i64 0, .int .i64 0, .int .i64 ((y0 : Int) * 256 + (y1 : Int)), .slice B (bs.length - 14) d]) (t := 25) rfl rfl rfl rfl (heap_sets7 (unhide KB2) (.int .u64 (ds : Int)) (.int .u64 (sr : Int)) (.bool false) (.int .i64 0) (.int .i64 0) (.int .i64 ((y0 : Int) * 256 + (y1 : Int))) (.slice B (bs.length - 14) d)) Try.underlying25 rfl Try.size25 ?_
      refine ⟨fun _ => ?_, fun h => absurd (hg.symm.trans h) (by decide)⟩
      rw [unhide HF]
      refine ⟨B, d, by simp only [unhide HL], hr, ?_⟩
      exact below_sets7 (below_then (below_set (below_then (unhide HBW) (unhide HB)) (w.heap.size + 1) 6 _ (by omega)) (unhide HB2)) w.heap.size (Nat.le_refl _) (.int .u64 (ds : Int)) (.int .u64 (sr : Int)) (.bool false) (.int .i64 0) (.int .i64 0) (.int .i64 ((y0 : Int) * 256 + (y1 : Int))) (.slice B (bs.length - 14) d)
end Go.Proofs.Ythonngnmdciheaa
