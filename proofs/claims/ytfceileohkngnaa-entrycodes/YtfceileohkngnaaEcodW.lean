/- The walk of EntryCodes. -/
import Derived.Test.YtfceileohkngnaaEcod
import Derived.Deep.RegionLaw
import Derived.Deep.RegionHeld3
import Derived.Deep.CutBlock
namespace Go.Proofs.Ytfceileohkngnaa
open Go.RowKit
set_option linter.unusedVariables false
set_option maxRecDepth 4000

/-- Too great: the law asks its own entry alone. -/
theorem ecod_no (k e s : Int) (A : Option Addr) (nB cap : Nat) (aS : Option Addr) (nS cS : Nat) (n : Int) (h : 5000 < nB ∨ 80 < nS) (h1 : nB ≤ maxLen) (h2 : nS ≤ maxLen) (w : World) :
    Calls Try.prog 3 #[.agg #[.int .i64 k, .int .u32 e, .int .u32 s, .slice A nB cap], .slice aS nS cS, .int .i64 n] w fun x w' => x = .returned (.bool true) ∧ Below w.heap.size w w' := by
  have hml : maxLen = 9223372036854775807 := rfl
  rw [hml] at h1 h2
  clear hml
  have hb0 : Below w.heap.size w (w.alloc (.cells #[.int .i64 k, .int .u32 e, .int .u32 s, .slice A nB cap] 25)) := below_alloc (Below.refl _ _) _
  have HWK := hide (wakes_go (w.alloc (.cells #[.int .i64 k, .int .u32 e, .int .u32 s, .slice A nB cap] 25)))
  by_cases hb : 5000 < nB
  · have hb' : (5000 : Int) < (nB : Int) := by omega
    go_enter Try.func3, Try.ntmps3
    go_wp2_with (go_at_call 6; (with_reducible refine (unhide HWK).mono ?_); rintro x w2 ⟨rfl, hb2⟩; have HB2 := hide hb2; clear hb2)
    go_ret
    exact ⟨rfl, below_then hb0 (unhide HB2)⟩
  · have hb' : ¬ (5000 : Int) < (nB : Int) := by omega
    have hs' : (80 : Int) < (nS : Int) := by omega
    go_enter Try.func3, Try.ntmps3
    go_wp2_with (go_at_call 6; (with_reducible refine (unhide HWK).mono ?_); rintro x w2 ⟨rfl, hb2⟩; have HB2 := hide hb2; clear hb2)
    go_ret
    exact ⟨rfl, below_then hb0 (unhide HB2)⟩

set_option maxRecDepth 100000 in
set_option maxHeartbeats 8000000 in
theorem ecod_walk (k e s : Int) (he : 0 ≤ e ∧ e ≤ 4294967295) (hs : 0 ≤ s ∧ s ≤ 4294967295) (A : Option Addr) (b : List Int) (cap : Nat) (aS : Option Addr) (S : List Sct) (cS : Nat) (n : Int) (hn : -9223372036854775808 ≤ n ∧ n ≤ 9223372036854775807) (w : World) (hA : BysA w A b) (hB : Byt b) (hl : b.length ≤ 5000) (hS : ScsA w aS S) (hlS : S.length ≤ 80) :
    Calls Try.prog 3 #[.agg #[.int .i64 k, .int .u32 e, .int .u32 s, .slice A b.length cap], .slice aS S.length cS, .int .i64 n] w fun x w' => x = .returned (.bool true) ∧ Below w.heap.size w w' := by
  obtain ⟨T, code, hTl, hco, hE1, hE2⟩ := enc_both k e s he hs b hB hl
  obtain ⟨dk, de, ds, dn, dcode, db, hdl, hD1, hD2⟩ := dec_both S (by omega)
  have HB0 : Hid (Below w.heap.size w (w.alloc (.cells #[.int .i64 k, .int .u32 e, .int .u32 s, .slice A b.length cap] 25))) := below_alloc (Below.refl _ _) _
  have HN0 : Hid ((w.alloc (.cells #[.int .i64 k, .int .u32 e, .int .u32 s, .slice A b.length cap] 25)).heap[w.heap.size]? = some (.cells #[.int .i64 k, .int .u32 e, .int .u32 s, .slice A b.length cap] 25 (0, 0))) := heap_alloc_last _ _
  have HA : Hid (BysA (w.alloc (.cells #[.int .i64 k, .int .u32 e, .int .u32 s, .slice A b.length cap] 25)) A b) := bysA_below hA (unhide HB0)
  have HS : Hid (ScsA (w.alloc (.cells #[.int .i64 k, .int .u32 e, .int .u32 s, .slice A b.length cap] 25)) aS S) := rowA_below hS (unhide HB0)
  have HE1 := hide hE1
  have HE2 := hide hE2
  have HD1 := hide hD1
  have HD2 := hide hD2
  have HTL := hide hTl
  have HCO := hide hco
  have HDL := hide hdl
  have HBB := hide hB
  have HNN := hide hn
  have hl' : ¬ (5000 : Int) < (b.length : Int) := by omega
  have hlS' : ¬ (80 : Int) < (S.length : Int) := by omega
  obtain ⟨nb, hnb⟩ : ∃ nb, b.length = nb := ⟨_, rfl⟩
  have HNB := hide hnb
  rw [hnb] at HE1 HE2 HB0 HN0 HA HS hl' ⊢
  have HL5 : Hid (nb ≤ 5000) := by show _ ≤ _; omega
  clear hE1 hE2 hD1 hD2 hTl hco hdl hB hn hA hS he hs hnb hl
  go_enter Try.func3, Try.ntmps3
  go_upto_region 3 with (fail)
  generalize w.alloc (.cells #[.int .i64 k, .int .u32 e, .int .u32 s, .slice A nb cap] 25) = w1 at *
  have hn0 := unhide HN0
  have x0 := (heap_cell hn0 0).1
  have x1 := (heap_cell hn0 1).1
  have x2 := (heap_cell hn0 2).1
  have x3 := (heap_cell hn0 3).1
  have hlt0 := lt_of_get hn0
  obtain ⟨i5, hi5, hz5, hs5', hy5⟩ := info_parts Try.info5
  have HBc : Hid (Below w1.heap.size w1 (w1.alloc (.cells #[] 5)).drew) := Below.drew (below_alloc (Below.refl _ _) _)
  have HOc : Hid ((w1.alloc (.cells #[] 5)).drew.ownsRow w1.heap.size 5 1 (.slice (some ⟨w1.heap.size, 0, none⟩) 0 0) 0 []) := own_litB0 w1 (Nat.le_refl _)
  have HLM : Hid ((b.map (Value.int .u8)).length = nb * 1) := by show _ = _; rw [List.length_map, unhide HNB, Nat.mul_one]
  have HBD : Hid ((0 + nb) * 1 ≤ 140737488355328) := by show _ ≤ _; have := unhide HL5; omega
  have HRc : Hid (RowA (w1.alloc (.cells #[] 5)).drew A (b.map (Value.int .u8))) := rowA_bys (bysA_below (unhide HA) (unhide HBc))
  have HX : Hid (∀ W : World, Below w1.heap.size w1 W → W.cell? ⟨w.heap.size, 0, none⟩ = some (.int .i64 k) ∧ W.cell? ⟨w.heap.size, 1, none⟩ = some (.int .u32 e) ∧ W.cell? ⟨w.heap.size, 2, none⟩ = some (.int .u32 s) ∧ W.cell? ⟨w.heap.size, 3, none⟩ = some (.slice A nb cap) ∧ w.heap.size < W.heap.size) := fun W hW => by
    have h := (hW.block _ (lt_of_get (unhide HN0))).trans (unhide HN0)
    exact ⟨(heap_cell h 0).1, (heap_cell h 1).1, (heap_cell h 2).1, (heap_cell h 3).1, lt_of_get h⟩
  have HOC : Hid (∀ (v : Value) (W : World), W.ownsRow w1.heap.size 5 1 v (0 + nb) ([] ++ b.map (Value.int .u8)) → ∃ A' c, v = .slice A' nb c ∧ BysA W A' b) := fun v W h => by
    rw [Nat.zero_add, List.nil_append, ← unhide HNB] at h
    obtain ⟨A', c, rfl, hy, _⟩ := own_bys h
    exact ⟨A', c, by rw [unhide HNB], hy⟩
  have HKEEP : Hid (∀ W : World, Below w1.heap.size w1 W → Below w1.heap.size w1 W ∧ W.cell? ⟨w.heap.size, 0, none⟩ = some (.int .i64 k) ∧ W.cell? ⟨w.heap.size, 1, none⟩ = some (.int .u32 e) ∧ W.cell? ⟨w.heap.size, 2, none⟩ = some (.int .u32 s) ∧ W.cell? ⟨w.heap.size, 3, none⟩ = some (.slice A nb cap)) := fun W hW => ⟨hW, (unhide HX W hW).1, (unhide HX W hW).2.1, (unhide HX W hW).2.2.1, (unhide HX W hW).2.2.2.1⟩
  clear hn0
  go_cut [7, 8] from 400 (fun v7 v8 w' => ∃ A' c, v7 = .slice A' T.length c ∧ v8 = .int .i64 code ∧ ScsA w' A' T ∧ Below w1.heap.size w1 w')
  case first =>
    go_region_held3 (fun W => Below w1.heap.size w1 W ∧ W.cell? ⟨w.heap.size, 0, none⟩ = some (.int .i64 k) ∧ W.cell? ⟨w.heap.size, 1, none⟩ = some (.int .u32 e) ∧ W.cell? ⟨w.heap.size, 2, none⟩ = some (.int .u32 s) ∧ W.cell? ⟨w.heap.size, 3, none⟩ = some (.slice A nb cap)) ((go_split_ands; refine unhide HKEEP _ ?_; repeat (first | (with_reducible assumption) | (with_reducible exact Below.refl _ _) | (with_reducible exact unhide HB5) | (with_reducible exact unhide HB7) | (with_reducible refine Below.drew ?_) | (with_reducible refine below_drewN ?_ _) | (with_reducible refine below_alloc ?_ _)))) (first
      | (go_at_call 7; (with_reducible refine (unhide HE1 _ _ _ (unhide HY5)).mono ?_); rintro x w12 ⟨v, rfl, ⟨A7, c7, rfl, h7⟩, hb7⟩; have HS7 := hide h7; have HB7 := hide (below_then (unhide HB5) hb7); clear h7 hb7)
      | ((with_reducible refine step_append_row ?_ (.tmp 32) (.tmp 34) 23 ?_ w1.heap.size 5 i5 (.int .u8 0) 1 1 Try.underlying23 hi5 hz5 hs5' hy5 ?_ (by decide) (by decide) (.slice (some ⟨w1.heap.size, 0, none⟩) 0 0) 0 [] ?_ ?own A nb cap (b.map (Value.int .u8)) ?_ (unhide HLM) ?_ (one_u8 _) (unhide HBD) ?_ ?_); (case own => with_reducible exact unhide HOc); (focus rfl); (focus rfl); (focus rfl); (focus rfl); (focus rfl); (focus (with_reducible exact unhide HRc)); (focus (with_reducible exact (unhide HBc).size)); intro v5 w5 ho5 hg5 _; have HB5 := hide ((unhide HBc).grown hg5 (unhide HBc).size (fun j hj => by cases hj; exact Nat.le_refl _)); obtain ⟨A5, c5, rfl, hy5'⟩ := unhide HOC _ _ ho5; have HY5 := hide hy5'; clear ho5 hg5 hy5'))
    all_goals
      go_wp2
      go_meet
      case rel => exact ⟨A7, c7, rfl, rfl, unhide HS7, unhide HB7⟩
  obtain ⟨A7, c7, rfl, rfl, hs7, hb7⟩ := hcut
  have HS7 := hide hs7
  have HB7 := hide hb7
  obtain ⟨y0, y1, y2, y3, yl⟩ := unhide HX wc hb7
  have HE2' := hide (unhide HE2 wc A cap (bysA_below (unhide HA) hb7))
  clear hs7 hb7 x0 x1 x2 x3 hlt0 HBc HOc HLM HBD HRc HOC HE1 HE2 hi5 hz5 hs5' hy5
  go_upto_region 5 with (go_at_call 8; (with_reducible refine (unhide HE2').mono ?_); rintro x w8 ⟨A8, c8, rfl, h8, hb8⟩; have HS8 := hide h8; have HB8 := hide (below_then (unhide HB7) hb8); have HS78 : Hid (ScsA w8 A7 T) := rowA_below (unhide HS7) hb8; clear h8 hb8)
  have HL0 : Hid ((w8.alloc (.cells #[] 75)).ownsRow w8.heap.size 75 64 (.slice (some ⟨w8.heap.size, 0, none⟩) 0 0) ([] : List Sct).length (flatS [])) := ⟨rfl, .inr ⟨_, 0, #[], rfl, Nat.le_refl _, heap_alloc_last _ _, Nat.le_refl _, by decide, rfl, rfl⟩⟩
  have HSS : Hid (ScsA w8 aS S) := rowA_below (unhide HS) (unhide HB8)
  have HBa : Hid (Below w8.heap.size w8 (w8.alloc (.cells #[] 75))) := below_alloc (Below.refl _ _) _
  have HSA : Hid (ScsA (w8.alloc (.cells #[] 75)) aS S) := rowA_below (unhide HSS) (unhide HBa)
  have HZA : Hid (w8.heap.size ≤ (w8.alloc (.cells #[] 75)).heap.size) := size_alloc_le w8 _
  have HLS : Hid (([] : List Sct).length + S.length ≤ 100000) := by show _ ≤ _; simp; omega
  clear y0 y1 y2 y3 yl HE2' HKEEP HX
  go_upto_region 6 with (first
    | (go_at_call 9; (with_reducible refine (unhide HD1 _ _ _ (unhide HC9) (unhide HS9)).mono ?_); rintro x w10 ⟨B10, c10, rfl, h10, hb10⟩; have HY10 := hide h10; have HB10 := hide (below_then (unhide HB9) hb10); clear h10 hb10)
    | ((with_reducible refine wpList_appendS _ _ w8.heap.size (.slice (some ⟨w8.heap.size, 0, none⟩) 0 0) [] S ?_ (unhide HL0) aS S.length cS ?_ ?_ (unhide HSA) (unhide HLS) (unhide HZA) ?_); (focus rfl); (focus rfl); (focus rfl); intro v9 w9 ho9 hg9; rw [List.nil_append] at ho9; have HB9 := hide ((unhide HBa).grown hg9 (unhide HBa).size (fun j hj => by cases hj; exact Nat.le_refl _)); obtain ⟨A9, c9, rfl, hs9, hc9⟩ := own_scs ho9; have HS9 := hide hs9; have HC9 := hide hc9; clear ho9 hg9 hs9 hc9))
  have HN11 : Hid ((w10.alloc (.cells #[.int .i64 dk, .int .u32 de, .int .u32 ds, .slice B10 db.length c10] 25)).heap[w10.heap.size]? = some (.cells #[.int .i64 dk, .int .u32 de, .int .u32 ds, .slice B10 db.length c10] 25 (0, 0))) := heap_alloc_last _ _
  have HB11 : Hid (Below w8.heap.size w8 (w10.alloc (.cells #[.int .i64 dk, .int .u32 de, .int .u32 ds, .slice B10 db.length c10] 25))) := below_alloc (unhide HB10) _
  have HS11 : Hid (ScsA (w10.alloc (.cells #[.int .i64 dk, .int .u32 de, .int .u32 ds, .slice B10 db.length c10] 25)) aS S) := rowA_below (unhide HSS) (unhide HB11)
  have HY11 : Hid (BysA (w10.alloc (.cells #[.int .i64 dk, .int .u32 de, .int .u32 ds, .slice B10 db.length c10] 25)) B10 db) := bysA_alloc (unhide HY10) _
  generalize w10.alloc (.cells #[.int .i64 dk, .int .u32 de, .int .u32 ds, .slice B10 db.length c10] 25) = w11 at *
  go_upto_region 7 with (go_at_call 10; (with_reducible refine (unhide HD2 _ _ _ (unhide HS11)).mono ?_); rintro x w12 ⟨B12, c12, rfl, h12, hb12⟩; have HY12 := hide h12; have HB12 := hide (below_then (unhide HB11) hb12); have HN12 := hide ((hb12.block _ (lt_of_get (unhide HN11))).trans (unhide HN11)); have HY112 := hide (bysA_below (unhide HY11) hb12); clear h12 hb12)
  have HN13 : Hid ((w12.alloc (.cells #[.int .i64 dk, .int .u32 de, .int .u32 ds, .slice B12 db.length c12, .int .i64 dn, .int .i64 dcode] 37)).heap[w12.heap.size]? = some (.cells #[.int .i64 dk, .int .u32 de, .int .u32 ds, .slice B12 db.length c12, .int .i64 dn, .int .i64 dcode] 37 (0, 0))) := heap_alloc_last _ _
  have hbx : Below w12.heap.size w12 (w12.alloc (.cells #[.int .i64 dk, .int .u32 de, .int .u32 ds, .slice B12 db.length c12, .int .i64 dn, .int .i64 dcode] 37)) := below_alloc (Below.refl _ _) _
  have HM13 := hide ((hbx.block _ (lt_of_get (unhide HN12))).trans (unhide HN12))
  have HB13 := hide (below_then (unhide HB12) hbx)
  have HY13 := hide (bysA_below (unhide HY12) hbx)
  have HY113 := hide (bysA_below (unhide HY112) hbx)
  have HS713 : Hid (ScsA (w12.alloc (.cells #[.int .i64 dk, .int .u32 de, .int .u32 ds, .slice B12 db.length c12, .int .i64 dn, .int .i64 dcode] 37)) A7 T) := rowA_below (unhide HS78) (unhide HB13)
  have HS813 : Hid (ScsA (w12.alloc (.cells #[.int .i64 dk, .int .u32 de, .int .u32 ds, .slice B12 db.length c12, .int .i64 dn, .int .i64 dcode] 37)) A8 T) := rowA_below (unhide HS8) (unhide HB13)
  clear hbx
  have HND1 : Hid (∀ W : World, Calls Try.prog 13 #[.int .i64 n] W fun e w' => e = .returned (.int .i64 (needI n)) ∧ w' = W) := fun W => need_any n (unhide HNN) W
  have HND2 : Hid (∀ W : World, Calls Try.prog 14 #[.int .i64 n] W fun e w' => e = .returned (.int .i64 (needI n)) ∧ w' = W) := fun W => rneed_any n (unhide HNN) W
  generalize needI n = nn at *
  generalize w12.alloc (.cells #[.int .i64 dk, .int .u32 de, .int .u32 ds, .slice B12 db.length c12, .int .i64 dn, .int .i64 dcode] 37) = w13 at *
  have HSAME := hide (same_same A7 A8 T T.length c7 c8 w13 rfl (unhide HS713) (unhide HS813) (by have := unhide HTL; omega))
  have HBYT := hide (fun (W : World) (hW : Below w13.heap.size w13 W) => bytes_alike B10 B12 db db.length db.length c10 c12 W rfl rfl (bysA_below (unhide HY113) hW) (bysA_below (unhide HY13) hW))
  generalize T.length = tl at *
  generalize db.length = dl at *
  clear HD1 HD2 HS7 HA HN0 HS HS8 HS78 HSS HBa HSA HZA HLS HL0 HB9 HB10 HB11 HB12 HN11 HN12 HS11 HY10 HY11 HY12 HY112 HC9 HS9
  go_wp2_with (first
    | (go_at_call 11; (with_reducible refine (unhide HSAME).mono ?_); rintro x w14 ⟨rfl, hb14⟩; have hn14 := (hb14.block _ (lt_of_get (unhide HN13))).trans (unhide HN13); have hm14 := (hb14.block _ (lt_of_get (unhide HM13))).trans (unhide HM13); have q0 := (heap_cell hn14 0).1; have q1 := (heap_cell hn14 1).1; have q2 := (heap_cell hn14 2).1; have q3 := (heap_cell hn14 3).1; have q4 := (heap_cell hn14 4).1; have q5 := (heap_cell hn14 5).1; have d0 := (heap_cell hm14 0).1; have d1 := (heap_cell hm14 1).1; have d2 := (heap_cell hm14 2).1; have d3 := (heap_cell hm14 3).1; have hl1 := lt_of_get hn14; have hl2 := lt_of_get hm14; have HBY := hide (unhide HBYT w14 hb14); have HB14 := hide (below_then (unhide HB13) hb14); clear hn14 hm14 hb14)
    | (go_at_call 12; (with_reducible refine (unhide HBY).mono ?_); rintro x w15 ⟨rfl, hw⟩; subst hw)
    | (go_at_call 13; (with_reducible refine (unhide HND1 _).mono ?_); rintro x w15 ⟨rfl, hw⟩; subst hw)
    | (go_at_call 14; (with_reducible refine (unhide HND2 _).mono ?_); rintro x w15 ⟨rfl, hw⟩; subst hw)
    | (go_at_call 6; (with_reducible refine (wakes_go _).mono ?_); rintro x w16 ⟨rfl, hb16⟩; have HB16 := hide hb16; clear hb16))
  go_ret
  exact ⟨rfl, below_then (unhide HB0) (below_then (unhide HB8) (below_then (unhide HB14) (unhide HB16)))⟩
end Go.Proofs.Ytfceileohkngnaa
