/- The walk of SectorSafe. -/
import Derived.Test.YtcakiohpkebmpaaSafeM
import Derived.Deep.RegionWith
namespace Go.Proofs.Ytcakiohpkebmpaa
open Go.RowKit
set_option linter.unusedVariables false
attribute [local go_sem ↓] ldS_of
attribute [local go_sem] eql36 eqGuard36 sv_is

theorem Try.zero53 : (Try.prog.info? 53).map (fun i => i.zero) = some (some (.agg (Array.replicate (8 * 64) (.int .u8 0)))) := by kernel_rfl

set_option maxRecDepth 100000 in
set_option maxHeartbeats 4000000 in
theorem safe_walk (A : Option Addr) (l : List Stp) (cap : Nat) (A' : Option Addr) (l' : List Stp) (cap' : Nat) (ka : Option Addr) (K : List Bool) (kc : Nat) (w : World) (hA : StepsA w A l) (hok : ∀ x ∈ l, x.ok) (hl : l.length ≤ maxLen) (hA' : StepsA w A' l') (hok' : ∀ x ∈ l', x.ok) (hl' : l'.length ≤ maxLen)
    (hf : fairL l = true) (hf' : fairL l' = true) (hK : BoolsA w ka K) (hkl : K.length ≤ 500) :
    Calls Try.prog 4 #[.slice A l.length cap, .slice A' l'.length cap', .slice ka K.length kc] w fun e w' => e = .returned (.bool true) ∧ Below w.heap.size w w' := by
  obtain ⟨i36, hi36, hz36⟩ := Try.zero36
  obtain ⟨i53, hi53, hz53⟩ := zero_any 53 8 Try.zero53
  have HA := hide hA
  have HO := hide hok
  have HL := hide hl
  have HF := hide hf
  have HA' := hide hA'
  have HO' := hide hok'
  have HL' := hide hl'
  have HF' := hide hf'
  have HK := hide hK
  have h200 := (fairL_len hf).1
  have h200' := (fairL_len hf').1
  have h5' : ¬ (500 : Int) < (K.length : Int) := by omega
  clear hA hok hl hf hK hA' hok' hl' hf'
  go_enter Try.func4, Try.ntmps4
  go_wp2_with fail
  refine (new_yes 8 (by omega) (by omega) _).mono ?_
  rintro e w1 ⟨g, gs, rfl, hd1, hb1⟩
  have H1 : Hid (St w w1 g gs (List.replicate 8 zeroS) []) := ⟨hd1, hb1⟩
  have F := hide (fair_any A l cap w1 (steps_below (unhide HA) hb1) (unhide HO) (unhide HL))
  rw [unhide HF] at F
  have F' := hide (fair_any A' l' cap' w1 (steps_below (unhide HA') hb1) (unhide HO') (unhide HL'))
  rw [unhide HF'] at F'
  clear hd1 hb1
  go_wp2_with fail
  refine (unhide F).mono ?_
  rintro e w2 ⟨rfl, rfl⟩
  go_wp2_with fail
  refine (unhide F').mono ?_
  rintro e w2 ⟨rfl, rfl⟩
  clear F F'
  go_wp2_with fail
  go_loopw [9] (fun t wr => ∃ k : Nat, k ≤ l.length ∧ t = .int .i64 k ∧ St w wr g gs (List.replicate 8 zeroS) (wrs 8 (l.take k))) (fun t _ => l.length - (intOf t).toNat)
  case atStart => exact ⟨0, Nat.zero_le _, rfl, unhide H1⟩
  case round =>
    obtain ⟨k, hk, rfl, hS⟩ := hrel
    clear H1
    by_cases hlt : k < l.length
    · obtain ⟨x, hx⟩ : ∃ x, l[k]? = some x := ⟨l[k], List.getElem?_eq_getElem hlt⟩
      obtain ⟨b, off, rfl, hc⟩ := (unhide HA) (by rintro rfl; simp at hlt)
      obtain ⟨xa, xc, h1, h2, h3⟩ := hc k x hx
      have hblt : b < w.heap.size := World.block_lt_of_cell? _ _ (h1 0 _ rfl)
      have hxok := (unhide HO) x (List.mem_of_getElem? hx)
      obtain ⟨j, hj, hj4⟩ : ∃ j : Nat, x.i % 8 = (j : Int) ∧ j < 8 := ⟨(x.i % 8).toNat, by omega, by omega⟩
      have hjn : (x.i % 8).toNat = j := by omega
      have HW : Hid (wrs 8 (l.take (k + 1)) = wrs 8 (l.take k) ++ [(j, x.sec)]) := by
        show _ = _
        rw [wrs_snoc hx, hjn]
      have HN : Hid ((wrs 8 (l.take k)).length = k) := by
        show _ = _
        rw [wrs_len, List.length_take]; omega
      have M := hide (fun w => mod_any x.i 8 hxok.2.1 (by omega) w)
      rw [hj] at M
      have C := hide (fun w => sector_any x.kd x.i x.at_ x.v (.slice xa x.keep.length xc) hxok.2.2.1 hxok.2.2.2.1 w)
      have hr := range_of_block h1 (hS.2.block b hblt)
      obtain ⟨d0, d1, d2, d3, d4⟩ := stp_cells hr
      have HR := hide h1
      have HS := hide (hS.below (Below.drew (Below.refl _ _)))
      have hlt' : (k : Int) < (l.length : Int) := by omega
      clear hc h1 h2 h3 hx hxok hj hjn hS hr
      generalize wrs 8 (l.take k) = P at *
      go_wp2_with fail
      go_region_with (first
        | (go_at_call 23; refine (unhide M _).mono ?_; rintro e w' ⟨rfl, rfl⟩)
        | (go_at_call 13; refine (unhide C _).mono ?_; rintro e w3 ⟨rfl, hb3⟩; have HS3 := hide ((unhide HS).below hb3); obtain ⟨f0, f1, f2, f3, f4⟩ := stp_cells (range_of_block (unhide HR) ((unhide HS3).2.block b hblt)))
        | (go_at_call 12; refine (write_yes _ (unhide HS3).1 j (by simpa using hj4) x.sec (by rw [unhide HN]; omega)).mono ?_; rintro e w4 ⟨rfl, hd4, ht4⟩))
      all_goals go_wp2
      all_goals exact ⟨⟨k + 1, by omega, by go_num, by rw [unhide HW]; exact (unhide HS3).turned hd4 ht4⟩, by simp [intOf]; omega⟩
    · obtain rfl : k = l.length := by omega
      rw [List.take_length] at hS
      have HN : Hid ((wrs 8 l).length ≤ 200) := by
        show _ ≤ _
        rw [wrs_len]; exact h200
      have hLn : Hid ((flushS (List.replicate 8 zeroS) (wrs 8 l)).length = 8) := by
        show _ = _
        rw [flushS_len]; simp
      have HS := hide hS
      clear hS
      generalize wrs 8 l = P at *
      go_wp2_with fail
      refine (flush_any _ (unhide HS).1 (by have := unhide HN; omega)).mono ?_
      rintro e w3 ⟨rfl, hd3, ht3⟩
      have HS3 := hide ((unhide HS).turned hd3 ht3)
      clear HS hd3 ht3 HN
      generalize flushS (List.replicate 8 zeroS) P = L at *
      go_wp2_with (with_reducible refine wpList_allocT 53 i53 _ hi53 hz53 ?_; intro w4 hb4 hs4 hg4)
      have HS4 : Hid (St w w4 g gs L []) := (unhide HS3).below hb4
      have HV4 : Hid (Var w w4 g gs 53 w3.heap.size (wasL L 0)) := Var.new (unhide HS3) (secs_zeros hg4) (by decide)
      clear hb4 hs4 hg4 HS3
      generalize w3.heap.size = bn at HV4 ⊢
      go_loopw [11] (fun t wx => ∃ k : Nat, k ≤ 8 ∧ t = .int .i64 k ∧ St w wx g gs L [] ∧ Var w wx g gs 53 bn (wasL L k)) (fun t _ => 8 - (intOf t).toNat)
      case atStart => exact ⟨0, by omega, rfl, unhide HS4, unhide HV4⟩
      case round =>
        obtain ⟨k, hk8, rfl, hS, hV⟩ := hrel
        clear HS4 HV4
        have HS := hide hS
        have HV := hide hV
        clear hS hV
        by_cases hlt8 : k < 8
        · obtain ⟨s, hs⟩ : ∃ s, L[k]? = some s := ⟨L[k]'(by rw [unhide hLn]; exact hlt8), List.getElem?_eq_getElem _⟩
          have HR : Hid (readS L [] k = s) := by
            show _ = _
            rw [readS_nil, List.getD_eq_getElem?_getD, hs]; rfl
          have hlt8' : (k : Int) < 8 := by omega
          have HE := hide (wasL_set L (unhide hLn) k hlt8 s hs)
          clear hs
          go_wp2_with fail
          refine (read_yes _ (unhide HS).1 k (by rw [unhide hLn]; exact hlt8) (by simp)).mono ?_
          rintro e w8 ⟨rfl, hb8⟩
          rw [unhide HR]
          have HS8 := hide ((unhide HS).below hb8)
          have HV8 := hide ((unhide HV).below hb8)
          have hth := (unhide HV8).theres (i := k) (by rw [wasL_len L (unhide hLn) k hk8]; exact hlt8)
          clear HS HV hb8 HR
          go_wp2_with ((with_reducible refine wpList_storeS Try.size36 _ _ bn (k * 64) s ?_ ?_ hth ?_); (focus rfl); (focus rfl); intro w9 H9)
          go_roundw
          case rel =>
            refine ⟨k + 1, by omega, by go_num, ?_, ?_⟩
            · rw [unhide H9]; exact (unhide HS8).store (unhide HV8) _ _
            · rw [unhide H9, ← unhide HE]; exact (unhide HV8).store (by rw [wasL_len L (unhide hLn) k hk8]; exact hlt8) _
          case measure => simp [intOf]; omega
        · obtain rfl : k = 8 := by omega
          have hlt8' : ¬ ((8 : Nat) : Int) < 8 := by omega
          have HV8 : Hid (Var w wr g gs 53 bn L) := by have := unhide HV; rw [wasL_full L (unhide hLn)] at this; exact this
          clear HV
          go_wp2_with fail
          go_loopw [12] (fun t wr => ∃ k : Nat, k ≤ l'.length ∧ t = .int .i64 k ∧ St w wr g gs L (wrs 8 (l'.take k)) ∧ Var w wr g gs 53 bn L) (fun t _ => l'.length - (intOf t).toNat)
          case atStart => exact ⟨0, Nat.zero_le _, rfl, unhide HS, unhide HV8⟩
          case round =>
            obtain ⟨k, hk, rfl, hS, hV⟩ := hrel
            clear HS HV8
            have HV := hide hV
            clear hV
            by_cases hlt : k < l'.length
            · obtain ⟨x, hx⟩ : ∃ x, l'[k]? = some x := ⟨l'[k], List.getElem?_eq_getElem hlt⟩
              obtain ⟨b, off, rfl, hc⟩ := (unhide HA') (by rintro rfl; simp at hlt)
              obtain ⟨xa, xc, h1, h2, h3⟩ := hc k x hx
              have hblt : b < w.heap.size := World.block_lt_of_cell? _ _ (h1 0 _ rfl)
              have hxok := (unhide HO') x (List.mem_of_getElem? hx)
              obtain ⟨j, hj, hj4⟩ : ∃ j : Nat, x.i % 8 = (j : Int) ∧ j < 8 := ⟨(x.i % 8).toNat, by omega, by omega⟩
              have hjn : (x.i % 8).toNat = j := by omega
              have HW : Hid (wrs 8 (l'.take (k + 1)) = wrs 8 (l'.take k) ++ [(j, x.sec)]) := by
                show _ = _
                rw [wrs_snoc hx, hjn]
              have HN : Hid ((wrs 8 (l'.take k)).length = k) := by
                show _ = _
                rw [wrs_len, List.length_take]; omega
              have M := hide (fun w => mod_any x.i 8 hxok.2.1 (by omega) w)
              rw [hj] at M
              have C := hide (fun w => sector_any x.kd x.i x.at_ x.v (.slice xa x.keep.length xc) hxok.2.2.1 hxok.2.2.2.1 w)
              have hr := range_of_block h1 (hS.2.block b hblt)
              obtain ⟨d0, d1, d2, d3, d4⟩ := stp_cells hr
              have HR := hide h1
              have HS := hide (hS.below (Below.drew (Below.refl _ _)))
              have HVd := hide ((unhide HV).below (Below.drew (Below.refl _ _)))
              have hlt' : (k : Int) < (l'.length : Int) := by omega
              clear hc h1 h2 h3 hx hxok hj hjn hS hr HV
              generalize wrs 8 (l'.take k) = P at *
              go_wp2_with fail
              go_region_with (first
                | (go_at_call 23; refine (unhide M _).mono ?_; rintro e w' ⟨rfl, rfl⟩)
                | (go_at_call 13; refine (unhide C _).mono ?_; rintro e w3 ⟨rfl, hb3⟩; have HS3 := hide ((unhide HS).below hb3); obtain ⟨f0, f1, f2, f3, f4⟩ := stp_cells (range_of_block (unhide HR) ((unhide HS3).2.block b hblt)))
                | (go_at_call 12; refine (write_yes _ (unhide HS3).1 j (by rw [unhide hLn]; exact hj4) x.sec (by rw [unhide HN]; omega)).mono ?_; rintro e w4 ⟨rfl, hd4, ht4⟩))
              all_goals go_wp2
              all_goals exact ⟨⟨k + 1, by omega, by go_num, by rw [unhide HW]; exact (unhide HS3).turned hd4 ht4, ((unhide HVd).below hb3).turned ht4⟩, by simp [intOf]; omega⟩
            · obtain rfl : k = l'.length := by omega
              rw [List.take_length] at hS
              have HN : Hid ((wrs 8 l').length ≤ 200) := by
                show _ ≤ _
                rw [wrs_len]; exact h200'
              have HS := hide hS
              clear hS
              go_wp2_with (at_builtin; refine wpList_copyB (W := wr) rfl _ _ rfl _ rfl rfl ka kc K rfl (rowA_below (unhide HK) (unhide HS).2) (by omega) ?_; intro gk capk cur w6 hgk hb6 hcur hK6)
              have HS6 := hide ((unhide HS).below hb6)
              refine (crash_any w6 (unhide HS6).1 (by have := unhide HN; omega) _ K capk hK6 (fun _ b off e => by cases e; exact safe_new (unhide HS) hb6 hgk hcur) (by omega)).mono ?_
              rintro e w7 ⟨rfl, hd7, ht7⟩
              have HS7 := hide ((unhide HS6).turned hd7 ht7)
              have HV7 := hide (((unhide HV).below hb6).turned ht7)
              have hLm : Hid ((flushS L (keptP (wrs 8 l') K)).length = 8) := by
                show _ = _
                rw [flushS_len, unhide hLn]
              clear HS HV hgk hb6 hcur hK6 HS6 hd7 ht7
              go_wp2_with fail
              go_loopw [13, 16] (fun t _ wr => ∃ k : Nat, k ≤ 8 ∧ t = .int .i64 k ∧ St w wr g gs (flushS L (keptP (wrs 8 l') K)) [] ∧ Var w wr g gs 53 bn L) (fun t _ _ => 8 - (intOf t).toNat)
              case atStart => exact ⟨0, by omega, rfl, unhide HS7, unhide HV7⟩
              case round =>
                obtain ⟨i, hi8, rfl, hS, hV⟩ := hrel
                clear HS7 HV7
                have HS := hide hS
                have HV := hide hV
                clear hS hV
                by_cases hlt8 : i < 8
                · have hlt8' : (i : Int) < 8 := by omega
                  obtain ⟨y, hy⟩ : ∃ y, y = readS L (keptP (wrs 8 l') K) i := ⟨_, rfl⟩
                  have HR : Hid (readS (flushS L (keptP (wrs 8 l') K)) [] i = y) := by
                    show _ = _
                    rw [hy, readS_nil, flush_read i _ _ (by rw [unhide hLn]; exact hlt8)]
                  obtain ⟨a, ha⟩ : ∃ a, L[i]? = some a := ⟨L[i]'(by rw [unhide hLn]; exact hlt8), List.getElem?_eq_getElem _⟩
                  have HX : Hid ((decide (y = a) || anyW 8 l' i y) = true) := by
                    have := kept_is L 8 l' K i
                    rw [List.getD_eq_getElem?_getD, ha, ← hy] at this
                    exact this
                  have HG := hide ha
                  clear hy ha
                  go_wp2_with fail
                  refine (read_yes _ (unhide HS).1 i (by rw [unhide hLm]; exact hlt8) (by simp)).mono ?_
                  rintro e w8 ⟨rfl, hb8⟩
                  rw [unhide HR]
                  have HS8 := hide ((unhide HS).below hb8)
                  have HV8 := hide ((unhide HV).below hb8)
                  clear HS HV hb8 HR
                  go_wp2_with (first
                    | (with_reducible refine wpList_allocT 36 i36 (sv zeroS) hi36 hz36 ?_; intro w9 hb9 hs9 hg9)
                    | ((with_reducible refine wpList_storeS Try.size36 _ _ w8.heap.size 0 y ?_ ?_ (secs_there (secs_new hg9)) ?_); (focus rfl); (focus rfl); intro wa Ha; obtain ⟨hba, hsa, hXa⟩ := var_put hb9 hs9 hg9 Ha; have HSa := hide ((unhide HS8).below hba); have HVa := hide ((unhide HV8).below hba); have HNa := hide (Var.new (unhide HS8) hXa (by decide)); have r1 := (unhide HVa).ranges (unhide HG); have r2 := secs_range hXa; clear hsa hs9 hb9 hg9 Ha hXa hba))
                  have l1 := ldS_is w8.heap.size 0 y wa.drew (by simpa using r2)
                  have l2 := ldS_is bn (i * 64) a wa.drew (by simpa using r1)
                  have HSd := hide ((unhide HSa).below (Below.drew (Below.refl _ _)))
                  have HVd := hide ((unhide HVa).below (Below.drew (Below.refl _ _)))
                  have HNd := hide ((unhide HNa).below (Below.drew (Below.refl _ _)))
                  clear r1 r2 HSa HVa HNa HS8 HV8 HG
                  generalize w8.heap.size = bw at *
                  go_region
                  all_goals
                    clear l1 l2
                    go_wp2_with fail
                    go_loopw [16, 17] (fun o t wr => ∃ k : Nat, k ≤ l'.length ∧ t = .int .i64 k ∧ o = .bool (decide (y = a) || anyW 8 (l'.take k) i y) ∧ St w wr g gs (flushS L (keptP (wrs 8 l') K)) [] ∧ Var w wr g gs 53 bn L ∧ Var w wr g gs 36 bw [y]) (fun _ t _ => l'.length - (intOf t).toNat)
                    case atStart => exact ⟨0, Nat.zero_le _, rfl, by simp [anyW], unhide HSd, unhide HVd, unhide HNd⟩
                    case round =>
                      obtain ⟨k, hk, rfl, rfl, hS, hV, hN⟩ := hrel
                      clear HSd HVd HNd
                      by_cases hlt : k < l'.length
                      · obtain ⟨x, hx⟩ : ∃ x, l'[k]? = some x := ⟨l'[k], List.getElem?_eq_getElem hlt⟩
                        obtain ⟨b, off, rfl, hc⟩ := (unhide HA') (by rintro rfl; simp at hlt)
                        obtain ⟨xa, xc, h1, h2, h3⟩ := hc k x hx
                        have hblt : b < w.heap.size := World.block_lt_of_cell? _ _ (h1 0 _ rfl)
                        have hxok := (unhide HO') x (List.mem_of_getElem? hx)
                        obtain ⟨j, hj, hj4⟩ : ∃ j : Nat, x.i % 8 = (j : Int) ∧ j < 8 := ⟨(x.i % 8).toNat, by omega, by omega⟩
                        have hjn : (x.i % 8).toNat = j := by omega
                        have HW : Hid ((decide (y = a) || anyW 8 (l'.take (k + 1)) i y) = ((decide (y = a) || anyW 8 (l'.take k) i y) || (decide (j = i) && decide (y = x.sec)))) := by
                          show _ = _
                          rw [anyW_snoc hx, hjn, Bool.or_assoc]
                        have M := hide (fun w => mod_any x.i 8 hxok.2.1 (by omega) w)
                        rw [hj] at M
                        have C := hide (fun w => sector_any x.kd x.i x.at_ x.v (.slice xa x.keep.length xc) hxok.2.2.1 hxok.2.2.2.1 w)
                        have hr := range_of_block h1 (hS.2.block b hblt)
                        obtain ⟨d0, d1, d2, d3, d4⟩ := stp_cells hr
                        have HR := hide h1
                        have HS := hide (hS.below (Below.drew (Below.refl _ _)))
                        have HV := hide (hV.below (Below.drew (Below.refl _ _)))
                        have HN := hide (hN.below (Below.drew (Below.refl _ _)))
                        have HS1 := hide hS
                        have HV1 := hide hV
                        have HN1 := hide hN
                        have hlt' : (k : Int) < (l'.length : Int) := by omega
                        have q1 := ldS_is bw 0 y wr.drew (unhide HN).range
                        clear hc h1 h2 h3 hx hxok hj hjn hS hr hV hN
                        generalize (decide (y = a) || anyW 8 (l'.take k) i y) = o at *
                        cases o with
                        | true =>
                          have HZ : Hid ((decide (y = a) || anyW 8 (l'.take (k + 1)) i y) = true) := (unhide HW).trans (by simp)
                          clear HW
                          go_wp2_with fail
                          go_quiet (fail)
                          have HS2 := hide ((unhide HS1).below (below_drewN (Below.refl _ _) nq))
                          have HV2 := hide ((unhide HV1).below (below_drewN (Below.refl _ _) nq))
                          have HN2 := hide ((unhide HN1).below (below_drewN (Below.refl _ _) nq))
                          generalize wr.drewN nq = wz at *
                          go_wp2
                          exact ⟨⟨k + 1, by omega, by go_num, by rw [unhide HZ], unhide HS2, unhide HV2, unhide HN2⟩, by simp [intOf]; omega⟩
                        | false =>
                          by_cases hji : j = i
                          · subst hji
                            have HZ : Hid ((decide (y = a) || anyW 8 (l'.take (k + 1)) j y) = decide (y = x.sec)) := (unhide HW).trans (by simp)
                            clear HW
                            go_wp2_with fail
                            have hbw : bw < wr.heap.size := (unhide HN1).lt
                            have hbb : b < wr.heap.size := Nat.lt_of_lt_of_le hblt (unhide HS1).2.size
                            have rX := (unhide HN1).range
                            have SS := hide (fun (W : World) (hW : Below wr.heap.size wr W) => (⟨hW, (hW.cell (p := ⟨b, off + k * 5, none⟩) hbb).trans d0, (hW.cell (p := ⟨b, off + k * 5 + 1, none⟩) hbb).trans d1, (hW.cell (p := ⟨b, off + k * 5 + 2, none⟩) hbb).trans d2, (hW.cell (p := ⟨b, off + k * 5 + 3, none⟩) hbb).trans d3, (hW.cell (p := ⟨b, off + k * 5 + 4, none⟩) hbb).trans d4, range_of_block rX (hW.block _ hbw)⟩ :
                              Below wr.heap.size wr W ∧ W.cell? ⟨b, off + k * 5, none⟩ = some (.int .i64 x.kd) ∧ W.cell? ⟨b, off + k * 5 + 1, none⟩ = some (.int .i64 x.i) ∧ W.cell? ⟨b, off + k * 5 + 2, none⟩ = some (.int .i64 x.at_) ∧ W.cell? ⟨b, off + k * 5 + 3, none⟩ = some (.int .u8 x.v) ∧ W.cell? ⟨b, off + k * 5 + 4, none⟩ = some (.slice xa x.keep.length xc) ∧ W.rangeAt bw 0 (bytes y)))
                            have hu36 := Try.underlying36
                            have hz36' : (Try.prog.info? 36).map (·.size) = some (bytes y).length := by rw [bytes_len]; exact Try.size36
                            have hl36 := bytes_len y
                            have ho36 := bytes_one y
                            clear q1
                            go_region_held3 (fun W => Below wr.heap.size wr W ∧ W.cell? ⟨b, off + k * 5, none⟩ = some (.int .i64 x.kd) ∧ W.cell? ⟨b, off + k * 5 + 1, none⟩ = some (.int .i64 x.i) ∧ W.cell? ⟨b, off + k * 5 + 2, none⟩ = some (.int .i64 x.at_) ∧ W.cell? ⟨b, off + k * 5 + 3, none⟩ = some (.int .u8 x.v) ∧ W.cell? ⟨b, off + k * 5 + 4, none⟩ = some (.slice xa x.keep.length xc) ∧ W.rangeAt bw 0 (bytes y))
                              ((go_split_ands; exact unhide SS _ (by repeat (first | assumption | exact Below.refl _ _ | apply Below.drew | apply below_alloc))))
                              (first
                                | (go_at_call 23; go_split_ands; refine (unhide M _).mono ?_; rintro e w' ⟨rfl, rfl⟩)
                                | (go_at_call 13; go_split_ands; refine (unhide C _).mono ?_; rintro e w' ⟨rfl, hbl⟩; have hbl2 := below_then (by assumption) hbl; clear hbl))
                            all_goals go_wp2
                            all_goals exact ⟨⟨k + 1, by omega, by go_num, by rw [unhide HZ]; rfl, (unhide HS1).below (by assumption), (unhide HV1).below (by assumption), (unhide HN1).below (by assumption)⟩, by simp [intOf]; omega⟩
                          · have hji' : ¬ (j : Int) = (i : Int) := by omega
                            have HZ : Hid ((decide (y = a) || anyW 8 (l'.take (k + 1)) i y) = false) := (unhide HW).trans (by simp [hji])
                            clear HW
                            go_wp2_with fail
                            go_quiet ((go_at_call 23; exact Calls.quiet_of_same (unhide M _)))
                            have HS2 := hide ((unhide HS1).below (below_drewN (Below.refl _ _) nq))
                            have HV2 := hide ((unhide HV1).below (below_drewN (Below.refl _ _) nq))
                            have HN2 := hide ((unhide HN1).below (below_drewN (Below.refl _ _) nq))
                            generalize wr.drewN nq = wz at *
                            go_wp2
                            exact ⟨⟨k + 1, by omega, by go_num, by rw [unhide HZ], unhide HS2, unhide HV2, unhide HN2⟩, by simp [intOf]; omega⟩
                      · obtain rfl : k = l'.length := by omega
                        rw [List.take_length, unhide HX]
                        have hlt' : ¬ (l'.length : Int) < (l'.length : Int) := by omega
                        go_wp2
                        exact ⟨⟨i + 1, by omega, by go_num, hS, hV⟩, by simp [intOf]; omega⟩
                · have hlt8' : ¬ (i : Int) < 8 := by omega
                  go_wp2_with fail
                  refine (pending_any _ (unhide HS).1).mono ?_
                  rintro e w8 ⟨rfl, rfl⟩
                  go_wp2_with fail
                  refine (wakes_any _).mono ?_
                  rintro e w9 ⟨rfl, hb9⟩
                  go_wp2
                  go_ret
                  exact ⟨rfl, below_then (unhide HS).2 hb9⟩
end Go.Proofs.Ytcakiohpkebmpaa
