/- The reference's First. -/
import Derived.Test.YtbbadncdkiganaaKfst
import Derived.Test.YtbbadncdkiganaaKapp
namespace Go.Proofs.Ytbbadncdkiganaa
open Go.RowKit
set_option linter.unusedVariables false
set_option maxRecDepth 4000
theorem rfirst_no (n : Int) (h : n < 1 ∨ 8 < n) (w : World) : Calls Try.prog 12 #[.int .i64 n] w fun e w' => e = .returned (.tuple #[.agg #[.int .i64 0, .int .i64 0, .int .i64 0, .slice none 0 0, .slice none 0 0, .slice none 0 0], .int .i64 1]) ∧ Below w.heap.size w w' := by
  have hr := heap_new w (.cells #[.int .i64 0, .int .i64 0, .int .i64 0, .slice none 0 0, .slice none 0 0, .slice none 0 0] 26) w.heap.size rfl
  have HR := hide hr
  clear hr
  rcases h with h | h
  · go_enter Try.func12, Try.ntmps12
    go_wp2
    exact ret_cell2 (c := #[.int .i64 0, .int .i64 0, .int .i64 0, .slice none 0 0, .slice none 0 0, .slice none 0 0]) rfl rfl rfl rfl (unhide HR) Try.underlying26 rfl Try.size26 ⟨rfl, below_alloc (Below.refl _ _) _⟩
  · have h2 : ¬ n < 1 := by omega
    go_enter Try.func12, Try.ntmps12
    go_wp2
    exact ret_cell2 (c := #[.int .i64 0, .int .i64 0, .int .i64 0, .slice none 0 0, .slice none 0 0, .slice none 0 0]) rfl rfl rfl rfl (unhide HR) Try.underlying26 rfl Try.size26 ⟨rfl, below_alloc (Below.refl _ _) _⟩
theorem ev_next : ∀ k : Fin 8, bits .or .u8 (everyI k.val) ((2 : Int) ^ k.val % 256) = everyI (k.val + 1) := by decide +kernel
theorem rep_next (k : Nat) : fl encP (List.replicate (k + 1) (true, 20000, 1)) = fl encP (List.replicate k ((true, 20000, 1) : PortC)) ++ [.bool true, .int .u32 20000, .int .i64 1] := by
  rw [List.replicate_succ', fl_app]; rfl
theorem size_set (W : World) (a : Addr) (u : Value) : (W.setCell a u).heap.size = W.heap.size := by simp [World.setCell]
theorem row_new3 (w : World) (o : Obj) {u v x : Value} {t : TypeId} (h : o = .cells #[u, v, x] t) : RowA (w.alloc o) (some ⟨w.heap.size, 0, none⟩) [u, v, x] := by
  subst h
  intro _
  refine ⟨_, _, rfl, fun j y hj => ?_⟩
  rw [World.cell?_alloc_at _ _ _ _ rfl, Nat.zero_add, ← hj]
  exact Array.getElem?_toList.symm
set_option maxHeartbeats 4000000 in
theorem rfirst_yes (n : Nat) (h1 : 1 ≤ n) (h8 : n ≤ 8) (w : World) : Calls Try.prog 12 #[.int .i64 n] w fun e w' => ∃ Ap cp Av cv, e = .returned (.tuple #[.agg #[.int .i64 32768, .int .i64 20, .int .i64 15, .slice Ap n cp, .slice Av 1 cv, .slice none 0 0], .int .i64 0]) ∧ CfgO w' w.heap.size (firstC n) (.slice Ap n cp) (.slice Av 1 cv) (.slice none 0 0) ∧ Below w.heap.size w w' := by
  obtain ⟨i0, hi, hz0, hz1, hz2⟩ := info_parts Try.info50
  have n1 : decide ((n : Int) < 1) = false := decide_eq_false (by omega)
  have n2 : decide (8 < (n : Int)) = false := decide_eq_false (by omega)
  go_enter Try.func12, Try.ntmps12
  go_upto_region 5 with fail
  clear n1 n2
  have HR : Hid ((((w.alloc (.cells #[.int .i64 0, .int .i64 0, .int .i64 0, .slice none 0 0, .slice none 0 0, .slice none 0 0] 26)).alloc (.cells #[.int .i64 32768, .int .i64 20, .int .i64 15, .slice none 0 0, .slice none 0 0, .slice none 0 0] 26)).alloc (.cells #[.int .i64 1, .int .u8 0, .int .u8 0] 46)).heap[w.heap.size]? = some (.cells #[.int .i64 0, .int .i64 0, .int .i64 0, .slice none 0 0, .slice none 0 0, .slice none 0 0] 26 (0, 0))) := hide (heap_keep (heap_keep (heap_new w _ w.heap.size rfl) (below_alloc (Below.refl _ _) _)) (below_alloc (Below.refl _ _) _))
  have HC : Hid ((((w.alloc (.cells #[.int .i64 0, .int .i64 0, .int .i64 0, .slice none 0 0, .slice none 0 0, .slice none 0 0] 26)).alloc (.cells #[.int .i64 32768, .int .i64 20, .int .i64 15, .slice none 0 0, .slice none 0 0, .slice none 0 0] 26)).alloc (.cells #[.int .i64 1, .int .u8 0, .int .u8 0] 46)).heap[w.heap.size + 1]? = some (.cells #[.int .i64 32768, .int .i64 20, .int .i64 15, .slice none 0 0, .slice none 0 0, .slice none 0 0] 26 (0, 0))) := hide (heap_keep (heap_new _ _ _ (by simp)) (below_alloc (Below.refl _ _) _))
  have HV : Hid ((((w.alloc (.cells #[.int .i64 0, .int .i64 0, .int .i64 0, .slice none 0 0, .slice none 0 0, .slice none 0 0] 26)).alloc (.cells #[.int .i64 32768, .int .i64 20, .int .i64 15, .slice none 0 0, .slice none 0 0, .slice none 0 0] 26)).alloc (.cells #[.int .i64 1, .int .u8 0, .int .u8 0] 46)).heap[w.heap.size + 1 + 1]? = some (.cells #[.int .i64 1, .int .u8 0, .int .u8 0] 46 (0, 0))) := hide (heap_new _ _ _ (by simp))
  have HB : Hid (Below w.heap.size w (((w.alloc (.cells #[.int .i64 0, .int .i64 0, .int .i64 0, .slice none 0 0, .slice none 0 0, .slice none 0 0] 26)).alloc (.cells #[.int .i64 32768, .int .i64 20, .int .i64 15, .slice none 0 0, .slice none 0 0, .slice none 0 0] 26)).alloc (.cells #[.int .i64 1, .int .u8 0, .int .u8 0] 46))) := below_alloc (below_alloc (below_alloc (Below.refl _ _) _) _) _
  have HSZ : Hid (w.heap.size + 3 ≤ (((w.alloc (.cells #[.int .i64 0, .int .i64 0, .int .i64 0, .slice none 0 0, .slice none 0 0, .slice none 0 0] 26)).alloc (.cells #[.int .i64 32768, .int .i64 20, .int .i64 15, .slice none 0 0, .slice none 0 0, .slice none 0 0] 26)).alloc (.cells #[.int .i64 1, .int .u8 0, .int .u8 0] 46)).heap.size) := hide (by simp)
  generalize (((w.alloc (.cells #[.int .i64 0, .int .i64 0, .int .i64 0, .slice none 0 0, .slice none 0 0, .slice none 0 0] 26)).alloc (.cells #[.int .i64 32768, .int .i64 20, .int .i64 15, .slice none 0 0, .slice none 0 0, .slice none 0 0] 26)).alloc (.cells #[.int .i64 1, .int .u8 0, .int .u8 0] 46)) = w3 at *
  go_wp2
  go_loopw [6] (fun i W => ∃ k : Nat, k ≤ n ∧ i = .int .i64 k ∧ Aside (Below w.heap.size w W) ∧ Aside (W.heap[w.heap.size]? = some (.cells #[.int .i64 0, .int .i64 0, .int .i64 0, .slice none 0 0, .slice none 0 0, .slice none 0 0] 26 (0, 0))) ∧ Aside (∃ vp, W.heap[w.heap.size + 1]? = some (.cells #[.int .i64 32768, .int .i64 20, .int .i64 15, vp, .slice none 0 0, .slice none 0 0] 26 (0, 0)) ∧ W.ownsRow (w.heap.size + 3) 50 3 vp k (fl encP (List.replicate k (true, 20000, 1)))) ∧ Aside (W.heap[w.heap.size + 1 + 1]? = some (.cells #[.int .i64 1, .int .u8 (everyI k), .int .u8 0] 46 (0, 0))) ∧ Aside (w.heap.size + 3 ≤ W.heap.size)) (fun i _ => n - (intOf i).toNat)
  case atStart => exact ⟨0, Nat.zero_le _, rfl, unhide HB, unhide HR, ⟨_, unhide HC, World.ownsRow_nil _ _ _ _⟩, unhide HV, unhide HSZ⟩
  case round =>
    obtain ⟨k, hk, rfl, BW, AR, AC, AV, AZ⟩ := hrel
    obtain ⟨vp, hc, ho⟩ := AC.out
    by_cases hlt : k < n
    · have hltz : (k : Int) < (n : Int) := by omega
      obtain ⟨c3, -⟩ := heap_cell hc 3
      have HCC := hide hc
      have HO := hide ho
      have hev := ev_next ⟨k, by omega⟩
      have HEV := hide hev
      clear hc ho hev AC
      go_upto_region 9 with (first
        | (at_builtin; refine wpList_append_row rfl _ _ 22 rfl (w.heap.size + 3) 50 i0 _ 3 16 Try.underlying22 hi hz0 hz1 hz2 rfl (by decide) (by decide) _ k (fl encP (List.replicate k (true, 20000, 1))) rfl ((unhide HO).alloc _) (some ⟨wr.heap.size, 0, none⟩) 1 1 [.bool true, .int .u32 20000, .int .i64 1] rfl rfl (row_new3 wr _ rfl) (by intro u hu; simp at hu; rcases hu with rfl | rfl | rfl <;> rfl) (by omega) (by have := AZ.out; simp; omega) ?_; intro v' w' hov hgv hat; obtain ⟨A', c', rfl, -⟩ := own_row hov; have HOV := hide hov; have HGV := hide hgv; have hc1 := heap_keep (unhide HCC) (below_alloc (Below.refl _ _) (.cells #[.bool true, .int .u32 20000, .int .i64 1] 50)); have hne : some (w.heap.size + 1) ≠ vp.ownBlock := (own_ne ((unhide HO).alloc (.cells #[.bool true, .int .u32 20000, .int .i64 1] 50)) hc1 (by decide)).symm; have hq := heap_grown hc1 hgv hne; clear hc1 hne; have HQ := hide hq; obtain ⟨n3, f3⟩ := heap_cell hq 3; clear hov hgv hat hq))
      have hc1 := heap_keep (unhide HCC) (below_alloc (Below.refl _ _) (.cells #[.bool true, .int .u32 20000, .int .i64 1] 50))
      have hv1 := heap_keep AV.out (below_alloc (Below.refl _ _) (.cells #[.bool true, .int .u32 20000, .int .i64 1] 50))
      have hr1 := heap_keep AR.out (below_alloc (Below.refl _ _) (.cells #[.bool true, .int .u32 20000, .int .i64 1] 50))
      have hv2 := heap_grown hv1 (unhide HGV) (own_ne ((unhide HO).alloc (.cells #[.bool true, .int .u32 20000, .int .i64 1] 50)) hv1 (by decide)).symm
      have hr2 := heap_grown hr1 (unhide HGV) (own_ne ((unhide HO).alloc (.cells #[.bool true, .int .u32 20000, .int .i64 1] 50)) hr1 (by decide)).symm
      have hv3 := heap_setC hv2 (g := w.heap.size + 1) (by omega) 3 (.slice A' (k + 1) c')
      have hr3 := heap_setC hr2 (g := w.heap.size + 1) (by omega) 3 (.slice A' (k + 1) c')
      have hc3 := heap_set (unhide HQ) 3 (.slice A' (k + 1) c')
      have HV3 := hide hv3
      have HR3 := hide hr3
      have HC3 := hide hc3
      obtain ⟨e1, f1⟩ := heap_cell hv3 1
      clear hc1 hv1 hr1 hv2 hr2 hv3 hr3 hc3
      go_wp2
      go_roundw
      case rel =>
        have hz : w.heap.size + 3 ≤ w'.heap.size := Nat.le_trans AZ.out (Nat.le_trans (by simp) (unhide HGV).size)
        have hbw : Below w.heap.size w w' := (below_alloc BW.out (.cells #[.bool true, .int .u32 20000, .int .i64 1] 50)).trans (below_base (unhide HGV) (by have := AZ.out; simp; omega) (fun j e => by have := (((unhide HO).alloc (.cells #[.bool true, .int .u32 20000, .int .i64 1] 50)).lt j e).1; omega))
        have hb2 := below_set (below_set hbw (w.heap.size + 1) 3 (.slice A' (k + 1) c') (by omega)) (w.heap.size + 1 + 1) 1 (.int .u8 (bits BinOp.or IntKind.u8 (everyI k) (2 ^ k % 256))) (by omega)
        have hv := heap_set (unhide HV3) 1 (.int .u8 (bits BinOp.or IntKind.u8 (everyI k) (2 ^ k % 256)))
        rw [unhide HEV] at hv hb2 ⊢
        exact ⟨k + 1, by omega, by go_num, hb2, heap_setC (unhide HR3) (by omega) _ _, ⟨_, heap_setC (unhide HC3) (by omega) _ _, by rw [rep_next]; exact ownsRow_setCell_below (ownsRow_setCell_below (unhide HOV) (by show w.heap.size + 1 < _; omega) _) (by show w.heap.size + 1 + 1 < _; omega) _⟩, hv, (show Aside _ from by show _ ≤ _; rw [size_set, size_set]; exact hz)⟩
      case measure => simp [intOf]; omega
    · have hkn : k = n := by omega
      have hltz : ¬ (k : Int) < (n : Int) := by omega
      obtain ⟨Ap, cp, rfl, -⟩ := own_row ho
      subst hkn
      obtain ⟨v0, -⟩ := heap_cell AV.out 0
      obtain ⟨v1, -⟩ := heap_cell AV.out 1
      obtain ⟨v2, -⟩ := heap_cell AV.out 2
      have hc1 := heap_keep hc (below_alloc (Below.refl _ _) (.cells #[.int .i64 1, .int .u8 (everyI k), .int .u8 0] 46))
      have hr1 := heap_keep AR.out (below_alloc (Below.refl _ _) (.cells #[.int .i64 1, .int .u8 (everyI k), .int .u8 0] 46))
      have hr2 := heap_setC hr1 (g := w.heap.size + 1) (by omega) 4 (.slice (some ⟨wr.heap.size, 0, none⟩) 1 1)
      have hc2 := heap_set hc1 4 (.slice (some ⟨wr.heap.size, 0, none⟩) 1 1)
      have HR2 := hide hr2
      have ho2 := ownsRow_setCell_below (a := ⟨w.heap.size + 1, 4, none⟩) (ho.alloc (.cells #[.int .i64 1, .int .u8 (everyI k), .int .u8 0] 46)) (by show w.heap.size + 1 < _; omega) (.slice (some ⟨wr.heap.size, 0, none⟩) 1 1)
      have hvr : (wr.alloc (.cells #[.int .i64 1, .int .u8 (everyI k), .int .u8 0] 46)).ownsRow (w.heap.size + 3) 46 3 (.slice (some ⟨wr.heap.size, 0, none⟩) 1 1) 1 [.int .i64 1, .int .u8 (everyI k), .int .u8 0] := own_shut (cur := [.int .i64 1, .int .u8 (everyI k), .int .u8 0]) ⟨heap_new _ _ _ rfl, rfl⟩ AZ.out (Nat.le_refl _) (maxLen_ge _ (by omega)) rfl
      have hv2 := ownsRow_setCell_below (a := ⟨w.heap.size + 1, 4, none⟩) hvr (by show w.heap.size + 1 < _; omega) (.slice (some ⟨wr.heap.size, 0, none⟩) 1 1)
      have HO2 := hide ho2
      have HV2 := hide hv2
      have HB2 := hide (below_set (below_alloc BW.out (.cells #[.int .i64 1, .int .u8 (everyI k), .int .u8 0] 46)) (w.heap.size + 1) 4 (.slice (some ⟨wr.heap.size, 0, none⟩) 1 1) (by omega))
      obtain ⟨m4, f4⟩ := heap_cell hc1 4
      obtain ⟨p0, -⟩ := heap_cell hc2 0
      obtain ⟨p1, -⟩ := heap_cell hc2 1
      obtain ⟨p2, -⟩ := heap_cell hc2 2
      obtain ⟨p3, -⟩ := heap_cell hc2 3
      obtain ⟨p4, -⟩ := heap_cell hc2 4
      obtain ⟨p5, -⟩ := heap_cell hc2 5
      obtain ⟨q0, g0⟩ := heap_cell hr2 0
      obtain ⟨q1, g1⟩ := heap_cell hr2 1
      obtain ⟨q2, g2⟩ := heap_cell hr2 2
      obtain ⟨q3, g3⟩ := heap_cell hr2 3
      obtain ⟨q4, g4⟩ := heap_cell hr2 4
      obtain ⟨q5, g5⟩ := heap_cell hr2 5
      clear hlt hk hc ho AC hc1 hr1 hr2 hc2 ho2 hvr hv2
      go_wp2
      refine ret_cell2 (g := w.heap.size) (c := #[.int .i64 32768, .int .i64 20, .int .i64 15, .slice Ap k cp, .slice (some ⟨wr.heap.size, 0, none⟩) 1 1, .slice none 0 0]) (t := 26) rfl rfl rfl rfl (heap_sets6 (unhide HR2) _ _ _ _ _ _) Try.underlying26 rfl Try.size26 ⟨_, _, _, _, rfl, ?_, ?_⟩
      · refine ⟨?_, ?_, World.ownsRow_nil _ _ _ _⟩
        · show World.ownsRow _ _ 50 3 _ (List.replicate k (true, 20000, 1)).length (fl encP (List.replicate k (true, 20000, 1)))
          rw [List.length_replicate]
          exact own_mono (own_sets6 (unhide HO2) w.heap.size (by omega) _ _ _ _ _ _) (by omega)
        · exact own_mono (own_sets6 (unhide HV2) w.heap.size (by omega) _ _ _ _ _ _) (by omega)
      · exact below_set (below_set (below_set (below_set (below_set (below_set (unhide HB2) _ _ _ (Nat.le_refl _)) _ _ _ (Nat.le_refl _)) _ _ _ (Nat.le_refl _)) _ _ _ (Nat.le_refl _)) _ _ _ (Nat.le_refl _)) _ _ _ (Nat.le_refl _)
end Go.Proofs.Ytbbadncdkiganaa
