/- ConfigStays: its walk. -/
import Derived.Test.YtbbadncdkiganaaKsta
import Derived.Test.YtbbadncdkiganaaKfair
import Derived.Test.YtbbadncdkiganaaKwakes
namespace Go.Proofs.Ytbbadncdkiganaa
open Go.RowKit
set_option linter.unusedVariables false
set_option maxRecDepth 4000

theorem ar_sub (a b : Nat) (h : b ≤ a) : ((a : Int) - (b : Int)) = ((a - b : Nat) : Int) := by omega
abbrev cCells (R : Cfg) (A1 A2 A3 : Option Addr) (k1 k2 k3 : Nat) : Array Value := #[.int .i64 R.prio, .int .i64 R.age, .int .i64 R.delay, .slice A1 R.ports.length k1, .slice A2 R.vlans.length k2, .slice A3 R.stats.length k3]
theorem stays_no (c : Cfg) (n : Nat) (cut : Int) (Ap Av As A : Option Addr) (cp cv cs ce : Nat) (w : World) (h : ¬ (c.ports.length ≤ 20 ∧ c.vlans.length ≤ 40 ∧ c.stats.length ≤ 40) ∨ 32 < n) :
    Calls Try.prog 5 #[.agg #[.int .i64 c.prio, .int .i64 c.age, .int .i64 c.delay, .slice Ap c.ports.length cp, .slice Av c.vlans.length cv, .slice As c.stats.length cs], .slice A n ce, .int .i64 cut] w fun e w' => e = .returned (.bool true) ∧ Below w.heap.size w w' := by
  have HB : Hid (Below w.heap.size w (w.alloc (.cells #[.int .i64 c.prio, .int .i64 c.age, .int .i64 c.delay, .slice Ap c.ports.length cp, .slice Av c.vlans.length cv, .slice As c.stats.length cs] 26))) := hide (below_alloc (Below.refl _ _) _)
  by_cases hf : c.ports.length ≤ 20 ∧ c.vlans.length ≤ 40 ∧ c.stats.length ≤ 40
  · have h32 : 32 < n := by rcases h with h | h; exact absurd hf h; exact h
    have h32z : (32 : Int) < (n : Int) := by omega
    have HF := hide (fun W => fair_t c.prio c.age c.delay Ap Av As _ _ _ cp cv cs hf W)
    clear h hf
    go_enter Try.func5, Try.ntmps5
    go_wp2_with (first
      | (go_at_call 9; (with_reducible refine (unhide HF _).mono ?_); rintro e w1 ⟨rfl, hb1⟩; have HB1 := hide (below_then (unhide HB) hb1); clear hb1)
      | (go_at_call 10; (with_reducible refine (wakes_any _).mono ?_); rintro e w2 ⟨rfl, hb2⟩; have HB2 := hide (below_then (unhide HB1) hb2); clear hb2))
    go_ret
    exact ⟨rfl, unhide HB2⟩
  · have HF := hide (fun W => fair_f c.prio c.age c.delay Ap Av As _ _ _ cp cv cs hf W)
    clear h hf
    go_enter Try.func5, Try.ntmps5
    go_wp2_with (first
      | (go_at_call 9; (with_reducible refine (unhide HF _).mono ?_); rintro e w1 ⟨rfl, hb1⟩; have HB1 := hide (below_then (unhide HB) hb1); clear hb1)
      | (go_at_call 10; (with_reducible refine (wakes_any _).mono ?_); rintro e w2 ⟨rfl, hb2⟩; have HB2 := hide (below_then (unhide HB1) hb2); clear hb2))
    go_ret
    exact ⟨rfl, unhide HB2⟩
theorem setDel_mem : ∀ e ∈ setDel, 0 ≤ e.member ∧ e.member ≤ 255 := by simp [setDel]
set_option maxHeartbeats 32000000 in
theorem stays_a (c : Cfg) (l : List Ed) (cut : Int) (hcut : -9223372036854775808 ≤ cut ∧ cut ≤ 9223372036854775807) (Ap Av As : Option Addr) (x : Addr) (cp cv cs ce : Nat) (hL : Lens c) (hM : Mems c) (w : World) (hA : CfgA w c Ap Av As) (hE : RowA w (some x) (flE l)) (hEm : ∀ e ∈ l, 0 ≤ e.member ∧ e.member ≤ 255) (hlc : l.length ≤ ce) (hce : ce ≤ maxLen)
    (hf : c.ports.length ≤ 20 ∧ c.vlans.length ≤ 40 ∧ c.stats.length ≤ 40) (h32 : l.length ≤ 32) :
    Calls Try.prog 5 #[.agg #[.int .i64 c.prio, .int .i64 c.age, .int .i64 c.delay, .slice Ap c.ports.length cp, .slice Av c.vlans.length cv, .slice As c.stats.length cs], .slice (some x) l.length ce, .int .i64 cut] w fun e w' => e = .returned (.bool true) ∧ Below w.heap.size w w' := by
  have HF := hide (fun W => fair_t c.prio c.age c.delay Ap Av As _ _ _ cp cv cs hf W)
  obtain ⟨n, hn⟩ : ∃ n, l.length = n := ⟨_, rfl⟩
  obtain ⟨k, hk⟩ : ∃ k : Nat, cut % ((n : Int) + 1) = (k : Int) := ⟨(cut % ((n : Int) + 1)).toNat, by have := Int.emod_nonneg cut (show (n : Int) + 1 ≠ 0 by omega); omega⟩
  have hkn : k ≤ n := by have := Int.emod_lt_of_pos cut (show 0 < (n : Int) + 1 by omega); omega
  have HMO := hide (fun W => mod_any cut ((n : Int) + 1) hcut (by omega) W)
  rw [hk] at HMO
  have hlm : l.length ≤ maxLen := by omega
  have E1 := hide (fun W (hW : Below w.heap.size w W) => edit_uni c l Ap Av As (some x) cp cv cs ce hL hM W (hA.below hW) (rowA_below hE hW) hlm hEm)
  have E2 := hide (fun W (hW : Below w.heap.size w W) => edit_uni c (l.take k) Ap Av As (some x) cp cv cs ce hL hM W (hA.below hW) (rowA_below (row_takeE k hE) hW) (by rw [List.length_take]; omega) (fun e he => hEm e (List.mem_of_mem_take he)))
  have hrown : ce = k → RowA w (some x) (flE (l.drop k)) := fun h => by
    rw [List.drop_eq_nil_of_le (by omega)]
    exact rowA_nil _ _
  have E3 := hide (fun (h2 : editE c (l.take k) = 0) W Bp Bv Bs dp dv ds cc (hA : CfgA W (resC c (l.take k)) Bp Bv Bs) (hW : Below w.heap.size w W) => by
    have h := edit_uni (resC c (l.take k)) (l.drop k) Bp Bv Bs (some (x.add (k * 7))) dp dv ds cc (res_lens c (l.take k)) (res_mems c (l.take k) hM (fun e he => hEm e (List.mem_of_mem_take he))) W hA (rowA_below (row_dropE k (by omega) hE) hW) (by rw [List.length_drop]; omega) (fun e he => hEm e (List.mem_of_mem_drop he))
    rw [(two_edits c l k h32 h2).1, (two_edits c l k h32 h2).2] at h
    exact h)
  have E3n := hide (fun (h2 : editE c (l.take k) = 0) (hck : ce = k) W Bp Bv Bs dp dv ds cc (hA : CfgA W (resC c (l.take k)) Bp Bv Bs) (hW : Below w.heap.size w W) => by
    have h := edit_uni (resC c (l.take k)) (l.drop k) Bp Bv Bs (some x) dp dv ds cc (res_lens c (l.take k)) (res_mems c (l.take k) hM (fun e he => hEm e (List.mem_of_mem_take he))) W hA (rowA_below (hrown hck) hW) (by rw [List.length_drop]; omega) (fun e he => hEm e (List.mem_of_mem_drop he))
    rw [(two_edits c l k h32 h2).1, (two_edits c l k h32 h2).2] at h
    exact h)
  have E4 := hide (fun W N (hN : W.heap[N]? = some (.cells #[.int .i64 7, .int .i64 0, .int .i64 0, .int .i64 4094, .int .u8 0, .int .u8 0, .int .u64 0, .int .i64 8, .int .i64 0, .int .i64 0, .int .i64 4094, .int .u8 0, .int .u8 0, .int .u64 0] 44 (0, 0))) (hW : Below w.heap.size w W) => edit_uni c setDel Ap Av As (some ⟨N, 0, none⟩) cp cv cs 2 hL hM W (hA.below hW) (rowE_of hN rfl) (maxLen_ge _ (by decide)) setDel_mem)
  rw [show setDel.length = 2 from rfl] at E4
  rw [hn] at E1
  rw [List.length_take, show min k l.length = k from by omega] at E2
  rw [List.length_drop, hn] at E3 E3n
  have L1 := res_lens c l
  have HG1 := hide (fun (h1 : editE c l = 0) (W : World) A1 k1 A2 k2 A3 k3 (h : CfgA W (resC c l) A1 A2 A3) => good_t (Ap := A1) (Av := A2) (As := A3) (cp := k1) (cv := k2) (cs := k3) (by rw [res_ok h1]; exact (edit_parts h1).2.2.2) (res_lens c l) (res_mems c l hM hEm) W h)
  have HS1 := hide (fun (W : World) A1 k1 A2 k2 A3 k3 B1 j1 B2 j2 B3 j3 (h : CfgA W (resC c l) A1 A2 A3) (h2 : CfgA W (resC c l) B1 B2 B3) => bool_to (same_any (resC c l) (resC c l) A1 A2 A3 B1 B2 B3 k1 k2 k3 j1 j2 j3 L1 L1 W h h2) (same_refl _))
  have HS4 := hide (fun (h4 : resC c setDel = c) (W : World) A1 k1 A2 k2 A3 k3 (h : CfgA W (resC c setDel) A1 A2 A3) (hW : Below w.heap.size w W) => bool_to (b := true) (same_any (resC c setDel) c A1 A2 A3 Ap Av As k1 k2 k3 cp cv cs (res_lens _ _) hL W h (hA.below hW)) (by rw [h4]; exact same_refl _))
  have HSD := hide (fun (h : goodB c = true) (hz : ∀ z, c.vlans.getLast? = some z → z.1 ≠ 4094) => set_del c h hz)
  have HGC := hide (fun W (hW : Below w.heap.size w W) => good_any c Ap Av As cp cv cs hL hM W (hA.below hW))
  have HAV := hide hA.2.1
  have HVL := hide (fun (h : goodB c = true) => (by
    simp only [goodB, Bool.and_eq_true] at h
    have := sizes_lim h.1.1.1.1
    omega : 1 ≤ c.vlans.length ∧ c.vlans.length ≤ 16))
  rw [hn] at hlc h32 ⊢
  have hcez : (n : Int) ≤ (ce : Int) := by omega
  have hkz : (k : Int) ≤ (n : Int) := by omega
  have hkcz : (k : Int) ≤ (ce : Int) := by omega
  have h32z : ¬ (32 : Int) < (n : Int) := by omega
  have HB : Hid (Below w.heap.size w (w.alloc (.cells #[.int .i64 c.prio, .int .i64 c.age, .int .i64 c.delay, .slice Ap c.ports.length cp, .slice Av c.vlans.length cv, .slice As c.stats.length cs] 26))) := hide (below_alloc (Below.refl _ _) _)
  have HC : Hid ((w.alloc (.cells #[.int .i64 c.prio, .int .i64 c.age, .int .i64 c.delay, .slice Ap c.ports.length cp, .slice Av c.vlans.length cv, .slice As c.stats.length cs] 26)).heap[w.heap.size]? = some (.cells #[.int .i64 c.prio, .int .i64 c.age, .int .i64 c.delay, .slice Ap c.ports.length cp, .slice Av c.vlans.length cv, .slice As c.stats.length cs] 26 (0, 0))) := hide (heap_new _ _ _ rfl)
  generalize editE c (l.take k) = en2 at *
  generalize editE c l = en1 at *
  generalize resC c l = R1 at *
  generalize resC c (l.take k) = R2 at *
  generalize hen4 : editE c setDel = en4 at *
  generalize hr4 : resC c setDel = R4 at *
  clear hrown hL hM hA hE hEm hf hlm hk hcut L1 hn hlc h32 hen4 hr4
  go_enter Try.func5, Try.ntmps5
  go_upto_region 4 with (first
    | (go_at_call 9; (with_reducible refine (unhide HF _).mono ?_); rintro e w1 ⟨rfl, hb1⟩; have HB1 := hide (below_then (unhide HB) hb1); have HC1 := hide (heap_keep (unhide HC) hb1); obtain ⟨q0, -⟩ := heap_cell (unhide HC1) 0; obtain ⟨q1, -⟩ := heap_cell (unhide HC1) 1; obtain ⟨q2, -⟩ := heap_cell (unhide HC1) 2; obtain ⟨q3, -⟩ := heap_cell (unhide HC1) 3; obtain ⟨q4, -⟩ := heap_cell (unhide HC1) 4; obtain ⟨q5, -⟩ := heap_cell (unhide HC1) 5; clear hb1)
    | (go_at_call 19; (with_reducible refine (unhide E1 _ (unhide HB1)).mono ?_); rintro e w2 ⟨hb2, A1, k1, A2, k2, A3, k3, rfl, ho2⟩; have HB2 := hide (below_alloc (below_then (unhide HB1) hb2) (.cells #[.int .i64 R1.prio, .int .i64 R1.age, .int .i64 R1.delay, .slice A1 R1.ports.length k1, .slice A2 R1.vlans.length k2, .slice A3 R1.stats.length k3] 26)); have HC2 := hide (heap_keep (heap_keep (unhide HC1) hb2) (below_alloc (Below.refl _ _) (.cells #[.int .i64 R1.prio, .int .i64 R1.age, .int .i64 R1.delay, .slice A1 R1.ports.length k1, .slice A2 R1.vlans.length k2, .slice A3 R1.stats.length k3] 26))); have HO2 := hide ((ho2.adr).below (below_alloc (Below.refl _ _) (.cells #[.int .i64 R1.prio, .int .i64 R1.age, .int .i64 R1.delay, .slice A1 R1.ports.length k1, .slice A2 R1.vlans.length k2, .slice A3 R1.stats.length k3] 26))); have HR2 := hide (heap_new w2 (.cells #[.int .i64 R1.prio, .int .i64 R1.age, .int .i64 R1.delay, .slice A1 R1.ports.length k1, .slice A2 R1.vlans.length k2, .slice A3 R1.stats.length k3] 26) _ rfl); clear hb2 ho2 q0 q1 q2 q3 q4 q5))
  generalize w2.alloc (.cells #[.int .i64 R1.prio, .int .i64 R1.age, .int .i64 R1.delay, .slice A1 R1.ports.length k1, .slice A2 R1.vlans.length k2, .slice A3 R1.stats.length k3] 26) = w3 at *
  generalize w2.heap.size = g7 at *
  obtain ⟨p0, -⟩ := heap_cell (unhide HR2) 0
  obtain ⟨p1, -⟩ := heap_cell (unhide HR2) 1
  obtain ⟨p2, -⟩ := heap_cell (unhide HR2) 2
  obtain ⟨p3, -⟩ := heap_cell (unhide HR2) 3
  obtain ⟨p4, -⟩ := heap_cell (unhide HR2) 4
  obtain ⟨p5, -⟩ := heap_cell (unhide HR2) 5
  go_cut [37] from 31 (fun v w' => v = .bool false ∧ Below w3.heap.size w3 w')
  case first =>
    by_cases h1 : en1 = 0
    · subst h1
      go_wp2_with (go_at_call 14; (with_reducible refine (unhide HG1 rfl _ _ _ _ _ _ _ (unhide HO2)).mono ?_); rintro e w4 ⟨rfl, hb4⟩)
      go_meet
      case rel => exact ⟨rfl, hb4⟩
    · have h1b : (en1 == 0) = false := by simpa using h1
      go_wp2
      go_meet
      case rel => exact ⟨rfl, Below.refl _ _⟩
  clear p0 p1 p2 p3 p4 p5
  obtain ⟨rfl, hb4⟩ := hcut
  have HB4 := hide (below_then (unhide HB2) hb4)
  have HC4 := hide (heap_keep (unhide HC2) hb4)
  have HO4 := hide ((unhide HO2).below hb4)
  have HR4 := hide (heap_keep (unhide HR2) hb4)
  clear hb4
  generalize wc = w4 at *
  go_upto_region 7 with (go_at_call 21; (with_reducible refine (unhide HMO _).mono ?_); rintro e w5 ⟨rfl, rfl⟩)
  have HXK := hide (fun (W : World) (hW : Below w5.heap.size w5 W) => (⟨hW, (heap_cell (heap_keep (unhide HC4) hW) 0).1, (heap_cell (heap_keep (unhide HC4) hW) 1).1, (heap_cell (heap_keep (unhide HC4) hW) 2).1, (heap_cell (heap_keep (unhide HC4) hW) 3).1, (heap_cell (heap_keep (unhide HC4) hW) 4).1, (heap_cell (heap_keep (unhide HC4) hW) 5).1⟩ : Below w5.heap.size w5 W ∧ W.cell? ⟨w.heap.size, 0, none⟩ = some (.int .i64 c.prio) ∧ W.cell? ⟨w.heap.size, 1, none⟩ = some (.int .i64 c.age) ∧ W.cell? ⟨w.heap.size, 2, none⟩ = some (.int .i64 c.delay) ∧ W.cell? ⟨w.heap.size, 3, none⟩ = some (.slice Ap c.ports.length cp) ∧ W.cell? ⟨w.heap.size, 4, none⟩ = some (.slice Av c.vlans.length cv) ∧ W.cell? ⟨w.heap.size, 5, none⟩ = some (.slice As c.stats.length cs)))
  go_cut [10, 11] from 43 (fun va vb w' => ∃ g B1 j1 B2 j2 B3 j3, va = .pointer (some ⟨g, 0, none⟩) ∧ vb = .int .i64 en2 ∧ w'.heap[g]? = some (.cells #[.int .i64 R2.prio, .int .i64 R2.age, .int .i64 R2.delay, .slice B1 R2.ports.length j1, .slice B2 R2.vlans.length j2, .slice B3 R2.stats.length j3] 26 (0, 0)) ∧ CfgO w' w5.heap.size R2 (.slice B1 R2.ports.length j1) (.slice B2 R2.vlans.length j2) (.slice B3 R2.stats.length j3) ∧ Below w5.heap.size w5 w')
  case first =>
    go_region_held3 (fun W => Below w5.heap.size w5 W ∧ W.cell? ⟨w.heap.size, 0, none⟩ = some (.int .i64 c.prio) ∧ W.cell? ⟨w.heap.size, 1, none⟩ = some (.int .i64 c.age) ∧ W.cell? ⟨w.heap.size, 2, none⟩ = some (.int .i64 c.delay) ∧ W.cell? ⟨w.heap.size, 3, none⟩ = some (.slice Ap c.ports.length cp) ∧ W.cell? ⟨w.heap.size, 4, none⟩ = some (.slice Av c.vlans.length cv) ∧ W.cell? ⟨w.heap.size, 5, none⟩ = some (.slice As c.stats.length cs)) ((go_split_ands; refine unhide HXK _ ?_; (repeat (first | (with_reducible assumption) | exact Below.refl _ _ | (with_reducible refine Below.drew ?_) | (with_reducible refine below_drewN ?_ _) | (with_reducible refine below_alloc ?_ _) | (with_reducible refine below_set ?_ _ _ _ (by omega))))))
      (first | (go_at_call 19; (with_reducible refine (unhide E2 _ (below_then (unhide HB4) ?_)).mono ?_); (focus (repeat (first | (with_reducible assumption) | exact Below.refl _ _ | (with_reducible refine Below.drew ?_) | (with_reducible refine below_drewN ?_ _) | (with_reducible refine below_alloc ?_ _)))); rintro e w6 ⟨hb6, B1, j1, B2, j2, B3, j3, rfl, ho6⟩; have HO6 := hide ho6; have hc6 := below_then (by (repeat (first | (with_reducible assumption) | exact Below.refl _ _ | (with_reducible refine Below.drew ?_) | (with_reducible refine below_drewN ?_ _) | (with_reducible refine below_alloc ?_ _))) : Below w5.heap.size w5 _) hb6; have HB6 := hide hc6; (first | (have hz6 := heap_keep (heap_new w5.drew (.cells #[.int .i64 0, .int .i64 0, .int .i64 0, .slice none 0 0, .slice none 0 0, .slice none 0 0] 26) w5.heap.size rfl) hb6; have HZ6 := hide hz6; obtain ⟨m0, l0⟩ := heap_cell hz6 0; obtain ⟨m1, l1⟩ := heap_cell hz6 1; obtain ⟨m2, l2⟩ := heap_cell hz6 2; obtain ⟨m3, l3⟩ := heap_cell hz6 3; obtain ⟨m4, l4⟩ := heap_cell hz6 4; obtain ⟨m5, l5⟩ := heap_cell hz6 5; have hlt6 := lt_of_get hz6; clear hz6) | skip); clear ho6 hb6))
    all_goals
      go_wp2
      go_meet
      case rel =>
        first
        | exact ⟨_, B1, j1, B2, j2, B3, j3, rfl, rfl, heap_sets6 (unhide HZ6) _ _ _ _ _ _, ⟨own_mono (own_sets6 (unhide HO6).1 _ (by simp) _ _ _ _ _ _) (by simp), own_mono (own_sets6 (unhide HO6).2.1 _ (by simp) _ _ _ _ _ _) (by simp), own_mono (own_sets6 (unhide HO6).2.2 _ (by simp) _ _ _ _ _ _) (by simp)⟩, below_set (below_set (below_set (below_set (below_set (below_set (unhide HB6) _ _ _ (by omega)) _ _ _ (by omega)) _ _ _ (by omega)) _ _ _ (by omega)) _ _ _ (by omega)) _ _ _ (by omega)⟩
        | exact ⟨_, B1, j1, B2, j2, B3, j3, rfl, rfl, heap_new _ _ _ rfl, (unhide HO6).below (below_alloc (Below.refl _ _) _), below_alloc (unhide HB6) _⟩
  obtain ⟨g10, B1, j1, B2, j2, B3, j3, rfl, rfl, hr7, ho7, hb7⟩ := hcut
  have HB7 := hide (below_then (unhide HB4) hb7)
  have HC7 := hide (heap_keep (unhide HC4) hb7)
  have HO7 := hide ((unhide HO4).below hb7)
  have HR7 := hide (heap_keep (unhide HR4) hb7)
  have HO8 := hide ho7.adr
  have HR8 := hide hr7
  clear hr7 ho7 hb7
  generalize wc = w7 at *
  go_upto_if 52 with fail
  go_cut [] from 12 (fun w' => Below w7.heap.size w7 w')
  case first =>
    by_cases h2 : en2 = 0
    · subst h2
      go_upto_region 9 with fail
      have HYK := hide (fun (W : World) (hW : Below w7.heap.size w7 W) => (⟨hW, (heap_cell (heap_keep (unhide HR8) hW) 0).1, (heap_cell (heap_keep (unhide HR8) hW) 1).1, (heap_cell (heap_keep (unhide HR8) hW) 2).1, (heap_cell (heap_keep (unhide HR8) hW) 3).1, (heap_cell (heap_keep (unhide HR8) hW) 4).1, (heap_cell (heap_keep (unhide HR8) hW) 5).1⟩ : Below w7.heap.size w7 W ∧ W.cell? ⟨g10, 0, none⟩ = some (.int .i64 R2.prio) ∧ W.cell? ⟨g10, 1, none⟩ = some (.int .i64 R2.age) ∧ W.cell? ⟨g10, 2, none⟩ = some (.int .i64 R2.delay) ∧ W.cell? ⟨g10, 3, none⟩ = some (.slice B1 R2.ports.length j1) ∧ W.cell? ⟨g10, 4, none⟩ = some (.slice B2 R2.vlans.length j2) ∧ W.cell? ⟨g10, 5, none⟩ = some (.slice B3 R2.stats.length j3)))
      go_cut [12, 13] from 53 (fun va vb w' => ∃ g F1 f1 F2 f2 F3 f3, va = .pointer (some ⟨g, 0, none⟩) ∧ vb = .int .i64 en1 ∧ w'.heap[g]? = some (.cells #[.int .i64 R1.prio, .int .i64 R1.age, .int .i64 R1.delay, .slice F1 R1.ports.length f1, .slice F2 R1.vlans.length f2, .slice F3 R1.stats.length f3] 26 (0, 0)) ∧ CfgO w' w7.heap.size R1 (.slice F1 R1.ports.length f1) (.slice F2 R1.vlans.length f2) (.slice F3 R1.stats.length f3) ∧ Below w7.heap.size w7 w')
      case first =>
        by_cases hck : ce = k
        · have E3' := hide (unhide E3n rfl hck)
          subst hck
          go_region_held3 (fun W => Below w7.heap.size w7 W ∧ W.cell? ⟨g10, 0, none⟩ = some (.int .i64 R2.prio) ∧ W.cell? ⟨g10, 1, none⟩ = some (.int .i64 R2.age) ∧ W.cell? ⟨g10, 2, none⟩ = some (.int .i64 R2.delay) ∧ W.cell? ⟨g10, 3, none⟩ = some (.slice B1 R2.ports.length j1) ∧ W.cell? ⟨g10, 4, none⟩ = some (.slice B2 R2.vlans.length j2) ∧ W.cell? ⟨g10, 5, none⟩ = some (.slice B3 R2.stats.length j3)) ((go_split_ands; refine unhide HYK _ ?_; (repeat (first | (with_reducible assumption) | exact Below.refl _ _ | (with_reducible refine Below.drew ?_) | (with_reducible refine below_drewN ?_ _) | (with_reducible refine below_alloc ?_ _) | (with_reducible refine below_set ?_ _ _ _ (by omega))))))
            (first | (go_at_call 19; (with_reducible refine (unhide E3' _ _ _ _ _ _ _ _ ((unhide HO8).below ?_) (below_then (unhide HB7) ?_)).mono ?_); (focus (repeat (first | (with_reducible assumption) | exact Below.refl _ _ | (with_reducible refine Below.drew ?_) | (with_reducible refine below_drewN ?_ _) | (with_reducible refine below_alloc ?_ _)))); (focus (repeat (first | (with_reducible assumption) | exact Below.refl _ _ | (with_reducible refine Below.drew ?_) | (with_reducible refine below_drewN ?_ _) | (with_reducible refine below_alloc ?_ _)))); rintro e w6 ⟨hb6, F1, l1', F2, l2', F3, l3', rfl, ho6⟩; have HO6 := hide ho6; have hc6 := below_then (by (repeat (first | (with_reducible assumption) | exact Below.refl _ _ | (with_reducible refine Below.drew ?_) | (with_reducible refine below_drewN ?_ _) | (with_reducible refine below_alloc ?_ _))) : Below w7.heap.size w7 _) hb6; have HB6 := hide hc6; (first | (have hz6 := heap_keep (heap_new w7.drew (.cells #[.int .i64 0, .int .i64 0, .int .i64 0, .slice none 0 0, .slice none 0 0, .slice none 0 0] 26) w7.heap.size rfl) hb6; have HZ6 := hide hz6; obtain ⟨m0, l0⟩ := heap_cell hz6 0; obtain ⟨m1, l1⟩ := heap_cell hz6 1; obtain ⟨m2, l2⟩ := heap_cell hz6 2; obtain ⟨m3, l3⟩ := heap_cell hz6 3; obtain ⟨m4, l4⟩ := heap_cell hz6 4; obtain ⟨m5, l5⟩ := heap_cell hz6 5; have hlt6 := lt_of_get hz6; clear hz6) | skip); clear ho6 hb6))
          all_goals
            go_wp2
            go_meet
            case rel =>
              first
              | exact ⟨_, F1, l1', F2, l2', F3, l3', rfl, rfl, heap_sets6 (unhide HZ6) _ _ _ _ _ _, ⟨own_mono (own_sets6 (unhide HO6).1 _ (by simp) _ _ _ _ _ _) (by simp), own_mono (own_sets6 (unhide HO6).2.1 _ (by simp) _ _ _ _ _ _) (by simp), own_mono (own_sets6 (unhide HO6).2.2 _ (by simp) _ _ _ _ _ _) (by simp)⟩, below_set (below_set (below_set (below_set (below_set (below_set (unhide HB6) _ _ _ (by omega)) _ _ _ (by omega)) _ _ _ (by omega)) _ _ _ (by omega)) _ _ _ (by omega)) _ _ _ (by omega)⟩
              | exact ⟨_, F1, l1', F2, l2', F3, l3', rfl, rfl, heap_new _ _ _ rfl, (unhide HO6).below (below_alloc (Below.refl _ _) _), below_alloc (unhide HB6) _⟩
        · have E3' := hide (unhide E3 rfl)
          go_region_held3 (fun W => Below w7.heap.size w7 W ∧ W.cell? ⟨g10, 0, none⟩ = some (.int .i64 R2.prio) ∧ W.cell? ⟨g10, 1, none⟩ = some (.int .i64 R2.age) ∧ W.cell? ⟨g10, 2, none⟩ = some (.int .i64 R2.delay) ∧ W.cell? ⟨g10, 3, none⟩ = some (.slice B1 R2.ports.length j1) ∧ W.cell? ⟨g10, 4, none⟩ = some (.slice B2 R2.vlans.length j2) ∧ W.cell? ⟨g10, 5, none⟩ = some (.slice B3 R2.stats.length j3)) ((go_split_ands; refine unhide HYK _ ?_; (repeat (first | (with_reducible assumption) | exact Below.refl _ _ | (with_reducible refine Below.drew ?_) | (with_reducible refine below_drewN ?_ _) | (with_reducible refine below_alloc ?_ _) | (with_reducible refine below_set ?_ _ _ _ (by omega))))))
            (first | (go_at_call 19; (with_reducible refine (unhide E3' _ _ _ _ _ _ _ _ ((unhide HO8).below ?_) (below_then (unhide HB7) ?_)).mono ?_); (focus (repeat (first | (with_reducible assumption) | exact Below.refl _ _ | (with_reducible refine Below.drew ?_) | (with_reducible refine below_drewN ?_ _) | (with_reducible refine below_alloc ?_ _)))); (focus (repeat (first | (with_reducible assumption) | exact Below.refl _ _ | (with_reducible refine Below.drew ?_) | (with_reducible refine below_drewN ?_ _) | (with_reducible refine below_alloc ?_ _)))); rintro e w6 ⟨hb6, F1, l1', F2, l2', F3, l3', rfl, ho6⟩; have HO6 := hide ho6; have hc6 := below_then (by (repeat (first | (with_reducible assumption) | exact Below.refl _ _ | (with_reducible refine Below.drew ?_) | (with_reducible refine below_drewN ?_ _) | (with_reducible refine below_alloc ?_ _))) : Below w7.heap.size w7 _) hb6; have HB6 := hide hc6; (first | (have hz6 := heap_keep (heap_new w7.drew (.cells #[.int .i64 0, .int .i64 0, .int .i64 0, .slice none 0 0, .slice none 0 0, .slice none 0 0] 26) w7.heap.size rfl) hb6; have HZ6 := hide hz6; obtain ⟨m0, l0⟩ := heap_cell hz6 0; obtain ⟨m1, l1⟩ := heap_cell hz6 1; obtain ⟨m2, l2⟩ := heap_cell hz6 2; obtain ⟨m3, l3⟩ := heap_cell hz6 3; obtain ⟨m4, l4⟩ := heap_cell hz6 4; obtain ⟨m5, l5⟩ := heap_cell hz6 5; have hlt6 := lt_of_get hz6; clear hz6) | skip); clear ho6 hb6))
          all_goals
            go_wp2
            go_meet
            case rel =>
              first
              | exact ⟨_, F1, l1', F2, l2', F3, l3', rfl, rfl, heap_sets6 (unhide HZ6) _ _ _ _ _ _, ⟨own_mono (own_sets6 (unhide HO6).1 _ (by simp) _ _ _ _ _ _) (by simp), own_mono (own_sets6 (unhide HO6).2.1 _ (by simp) _ _ _ _ _ _) (by simp), own_mono (own_sets6 (unhide HO6).2.2 _ (by simp) _ _ _ _ _ _) (by simp)⟩, below_set (below_set (below_set (below_set (below_set (below_set (unhide HB6) _ _ _ (by omega)) _ _ _ (by omega)) _ _ _ (by omega)) _ _ _ (by omega)) _ _ _ (by omega)) _ _ _ (by omega)⟩
              | exact ⟨_, F1, l1', F2, l2', F3, l3', rfl, rfl, heap_new _ _ _ rfl, (unhide HO6).below (below_alloc (Below.refl _ _) _), below_alloc (unhide HB6) _⟩
      obtain ⟨g12, F1, f1, F2, f2, F3, f3, rfl, rfl, hr8, ho8, hb8⟩ := hcut
      have HO9 := hide ((unhide HO7).below hb8)
      have HR9 := hide (heap_keep (unhide HR7) hb8)
      have HOF := hide ho8.adr
      have HRF := hide hr8
      have HBF := hide hb8
      clear hr8 ho8 hb8
      generalize wc = w8 at *
      obtain ⟨p0, -⟩ := heap_cell (unhide HR9) 0
      obtain ⟨p1, -⟩ := heap_cell (unhide HR9) 1
      obtain ⟨p2, -⟩ := heap_cell (unhide HR9) 2
      obtain ⟨p3, -⟩ := heap_cell (unhide HR9) 3
      obtain ⟨p4, -⟩ := heap_cell (unhide HR9) 4
      obtain ⟨p5, -⟩ := heap_cell (unhide HR9) 5
      obtain ⟨q0, -⟩ := heap_cell (unhide HRF) 0
      obtain ⟨q1, -⟩ := heap_cell (unhide HRF) 1
      obtain ⟨q2, -⟩ := heap_cell (unhide HRF) 2
      obtain ⟨q3, -⟩ := heap_cell (unhide HRF) 3
      obtain ⟨q4, -⟩ := heap_cell (unhide HRF) 4
      obtain ⟨q5, -⟩ := heap_cell (unhide HRF) 5
      by_cases h1 : en1 = 0
      · subst h1
        go_wp2_with (go_at_call 16; (with_reducible refine (unhide HS1 _ _ _ _ _ _ _ _ _ _ _ _ _ (unhide HOF) (unhide HO9)).mono ?_); rintro e w9 ⟨rfl, hb9⟩)
        go_meet
        case rel => exact below_then (unhide HBF) hb9
      · have h1b : (en1 == 0) = false := by simpa using h1
        go_wp2
        go_meet
        case rel => exact unhide HBF
    · have h2b : (en2 == 0) = false := by simpa using h2
      go_wp2
      go_meet
      case rel => exact Below.refl _ _
  have HB9 := hide (below_then (unhide HB7) hcut)
  have HC9 := hide (heap_keep (unhide HC7) hcut)
  clear hcut E1 E2 E3 E3n HG1 HS1 HO7 HO8 HR7 HR8
  generalize wc = w9 at *
  obtain ⟨q0, -⟩ := heap_cell (unhide HC9) 0
  obtain ⟨q1, -⟩ := heap_cell (unhide HC9) 1
  obtain ⟨q2, -⟩ := heap_cell (unhide HC9) 2
  obtain ⟨q3, -⟩ := heap_cell (unhide HC9) 3
  obtain ⟨q4, -⟩ := heap_cell (unhide HC9) 4
  obtain ⟨q5, -⟩ := heap_cell (unhide HC9) 5
  go_upto_region 13 with (go_at_call 19; (with_reducible refine (unhide E4 _ _ (heap_new _ _ _ ?_) (below_then (unhide HB9) ?_)).mono ?_); (focus (simp; done)); (focus (repeat (first | (with_reducible assumption) | exact Below.refl _ _ | (with_reducible refine Below.drew ?_) | (with_reducible refine below_drewN ?_ _) | (with_reducible refine below_alloc ?_ _)))); rintro e w10 ⟨hb10, D1, i1, D2, i2, D3, i3, rfl, ho10⟩; have HB10 := hide (below_alloc (below_then (below_alloc (unhide HB9) _) hb10) (.cells #[.int .i64 R4.prio, .int .i64 R4.age, .int .i64 R4.delay, .slice D1 R4.ports.length i1, .slice D2 R4.vlans.length i2, .slice D3 R4.stats.length i3] 26)); have HC10 := hide (heap_keep (heap_keep (heap_keep (unhide HC9) (below_alloc (Below.refl _ _) _)) hb10) (below_alloc (Below.refl _ _) (.cells #[.int .i64 R4.prio, .int .i64 R4.age, .int .i64 R4.delay, .slice D1 R4.ports.length i1, .slice D2 R4.vlans.length i2, .slice D3 R4.stats.length i3] 26))); have HO10 := hide (ho10.adr.below (below_alloc (Below.refl _ _) (.cells #[.int .i64 R4.prio, .int .i64 R4.age, .int .i64 R4.delay, .slice D1 R4.ports.length i1, .slice D2 R4.vlans.length i2, .slice D3 R4.stats.length i3] 26))); have HR10 := hide (heap_new w10 (.cells #[.int .i64 R4.prio, .int .i64 R4.age, .int .i64 R4.delay, .slice D1 R4.ports.length i1, .slice D2 R4.vlans.length i2, .slice D3 R4.stats.length i3] 26) _ rfl); clear q0 q1 q2 q3 q4 q5 hb10 ho10)
  generalize w10.alloc (.cells #[.int .i64 R4.prio, .int .i64 R4.age, .int .i64 R4.delay, .slice D1 R4.ports.length i1, .slice D2 R4.vlans.length i2, .slice D3 R4.stats.length i3] 26) = w11 at *
  generalize w10.heap.size = g14 at *
  obtain ⟨q0, -⟩ := heap_cell (unhide HC10) 0
  obtain ⟨q1, -⟩ := heap_cell (unhide HC10) 1
  obtain ⟨q2, -⟩ := heap_cell (unhide HC10) 2
  obtain ⟨q3, -⟩ := heap_cell (unhide HC10) 3
  obtain ⟨q4, -⟩ := heap_cell (unhide HC10) 4
  obtain ⟨q5, -⟩ := heap_cell (unhide HC10) 5
  cases hgd : goodB c with
  | false =>
    rw [hgd] at HGC
    go_wp2_with (first
      | (go_at_call 14; (with_reducible refine (unhide HGC _ (unhide HB10)).mono ?_); rintro e w12 ⟨rfl, hb12⟩; have HB12 := hide (below_then (unhide HB10) hb12); clear hb12)
      | (go_at_call 10; (with_reducible refine (wakes_any _).mono ?_); rintro e w13 ⟨rfl, hb13⟩; have HB13 := hide (below_then (unhide HB12) hb13); clear hb13))
    go_ret
    exact ⟨rfl, unhide HB13⟩
  | true =>
    rw [hgd] at HGC
    obtain ⟨m, hm⟩ : ∃ m, c.vlans.length = m + 1 := ⟨c.vlans.length - 1, by have := unhide HVL hgd; omega⟩
    have hm16 : (m : Int) ≤ 15 := by have := unhide HVL hgd; omega
    obtain ⟨bv, ov, hav, hcv⟩ := rowV_at (unhide HAV) (by omega)
    obtain ⟨z, hz⟩ : ∃ z, c.vlans[m]? = some z := ⟨_, List.getElem?_eq_getElem (by omega)⟩
    have HCV := hide (fun (W : World) (hW : Below w.heap.size w W) => (hcv W hW m z hz).1)
    have HLAST : Hid (z.1 ≠ 4094 → en4 = 0 ∧ R4 = c) := hide (fun h => unhide HSD hgd (fun z' hz' => by
      rw [List.getLast?_eq_getElem?, hm, Nat.add_sub_cancel, hz] at hz'
      cases hz'
      exact h))
    subst hav
    clear hcv hz hgd HSD HVL HAV
    have HKB := hide (fun (W : World) (hW : Below w11.heap.size w11 W) => (⟨(heap_cell (heap_keep (unhide HC10) hW) 0).1, (heap_cell (heap_keep (unhide HC10) hW) 1).1, (heap_cell (heap_keep (unhide HC10) hW) 2).1, (heap_cell (heap_keep (unhide HC10) hW) 3).1, (heap_cell (heap_keep (unhide HC10) hW) 4).1, (heap_cell (heap_keep (unhide HC10) hW) 5).1⟩ : W.cell? ⟨w.heap.size, 0, none⟩ = some (.int .i64 c.prio) ∧ W.cell? ⟨w.heap.size, 1, none⟩ = some (.int .i64 c.age) ∧ W.cell? ⟨w.heap.size, 2, none⟩ = some (.int .i64 c.delay) ∧ W.cell? ⟨w.heap.size, 3, none⟩ = some (.slice Ap c.ports.length cp) ∧ W.cell? ⟨w.heap.size, 4, none⟩ = some (.slice (some ⟨bv, ov, none⟩) c.vlans.length cv) ∧ W.cell? ⟨w.heap.size, 5, none⟩ = some (.slice As c.stats.length cs)))
    have HKD := hide (fun (W : World) (hW : Below w11.heap.size w11 W) => (⟨(heap_cell (heap_keep (unhide HR10) hW) 0).1, (heap_cell (heap_keep (unhide HR10) hW) 1).1, (heap_cell (heap_keep (unhide HR10) hW) 2).1, (heap_cell (heap_keep (unhide HR10) hW) 3).1, (heap_cell (heap_keep (unhide HR10) hW) 4).1, (heap_cell (heap_keep (unhide HR10) hW) 5).1⟩ : W.cell? ⟨g14, 0, none⟩ = some (.int .i64 R4.prio) ∧ W.cell? ⟨g14, 1, none⟩ = some (.int .i64 R4.age) ∧ W.cell? ⟨g14, 2, none⟩ = some (.int .i64 R4.delay) ∧ W.cell? ⟨g14, 3, none⟩ = some (.slice D1 R4.ports.length i1) ∧ W.cell? ⟨g14, 4, none⟩ = some (.slice D2 R4.vlans.length i2) ∧ W.cell? ⟨g14, 5, none⟩ = some (.slice D3 R4.stats.length i3)))
    generalize c.vlans.length = nv at *
    subst hm
    have hm1 : (((m + 1 : Nat) : Int) - 1) = (m : Int) := by omega
    have hm1' : ((m : Int) + 1 - 1) = (m : Int) := by omega
    have hm0 : (0 : Int) < ((m + 1 : Nat) : Int) := by omega
    have hm0' : (0 : Int) < (m : Int) + 1 := by omega
    have hml : (m : Int) < ((m + 1 : Nat) : Int) := by omega
    by_cases hz4 : z.1 = 4094
    · have hz4b : (z.1 == 4094) = true := by simpa using hz4
      go_wp2_with (first
        | (go_at_call 14; (with_reducible refine (unhide HGC _ (unhide HB10)).mono ?_); rintro e w12 ⟨rfl, hb12⟩; have HB12 := hide (below_then (unhide HB10) hb12); obtain ⟨p0, p1, p2, p3, p4, p5⟩ := unhide HKB _ hb12; have hcz := unhide HCV _ (unhide HB12); clear hb12 q0 q1 q2 q3 q4 q5)
        | (go_at_call 10; (with_reducible refine (wakes_any _).mono ?_); rintro e w13 ⟨rfl, hb13⟩; have HB13 := hide (below_then (unhide HB12) hb13); clear hb13))
      go_ret
      exact ⟨rfl, unhide HB13⟩
    · have hz4b : (z.1 == 4094) = false := by simpa using hz4
      obtain ⟨h4, hrc⟩ := unhide HLAST hz4
      subst h4
      have HS := hide (unhide HS4 hrc)
      clear HS4 HLAST hrc
      go_wp2_with (first
        | (go_at_call 14; (with_reducible refine (unhide HGC _ (unhide HB10)).mono ?_); rintro e w12 ⟨rfl, hb12⟩; have HB12 := hide (below_then (unhide HB10) hb12); have HO12 := hide ((unhide HO10).below hb12); obtain ⟨p0, p1, p2, p3, p4, p5⟩ := unhide HKB _ hb12; obtain ⟨d0, d1, d2, d3, d4, d5⟩ := unhide HKD _ hb12; have hcz := unhide HCV _ (unhide HB12); clear hb12 q0 q1 q2 q3 q4 q5)
        | (go_at_call 16; (with_reducible refine (unhide HS _ _ _ _ _ _ _ (unhide HO12) (unhide HB12)).mono ?_); rintro e w14 ⟨rfl, hb14⟩; have HB14 := hide (below_then (unhide HB12) hb14); clear hb14)
        | (go_at_call 10; (with_reducible refine (wakes_any _).mono ?_); rintro e w13 ⟨rfl, hb13⟩; have HB13 := hide (below_then (unhide HB14) hb13); clear hb13))
      go_ret
      exact ⟨rfl, unhide HB13⟩
end Go.Proofs.Ytbbadncdkiganaa
