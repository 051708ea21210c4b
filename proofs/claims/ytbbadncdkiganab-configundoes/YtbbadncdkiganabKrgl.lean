/- The reference's Good: VLANs, ports, statics. -/
import Derived.Test.YtbbadncdkiganabKrgp
namespace Go.Proofs.Ytbbadncdkiganab
open Go.RowKit
set_option linter.unusedVariables false
set_option maxRecDepth 4000
set_option maxHeartbeats 1000000 in
theorem rmem2 (v : VlanC) (p : Int) (w : World) : Calls Try.prog 9 #[.agg #[.int .i64 v.1, .int .u8 v.2.1, .int .u8 v.2.2], .int .i64 p] w fun e w' => e = .returned (.bool (isMem v p)) ∧ Below w.heap.size w w' := by
  have HB := hide (below_alloc (Below.refl w.heap.size w) (.cells #[.int .i64 v.1, .int .u8 v.2.1, .int .u8 v.2.2] 42))
  by_cases h0 : 0 ≤ p
  · by_cases h8 : p < 8
    · have hw : IntKind.u64.wrap p = p := by rw [IntKind.wrap_u64]; omega
      go_enter Try.func9, Try.ntmps9
      go_wp2
      go_ret
      exact ⟨ret_bool (by unfold isMem; rw [wi_of h0 (by omega)]; simp), unhide HB⟩
    · go_enter Try.func9, Try.ntmps9
      go_wp2
      go_ret
      exact ⟨ret_bool (by unfold isMem; rw [wi_not (by omega)]; simp), unhide HB⟩
  · go_enter Try.func9, Try.ntmps9
    go_wp2
    go_ret
    exact ⟨ret_bool (by unfold isMem; rw [wi_not (by omega)]; simp), unhide HB⟩
theorem rmem_t {v : VlanC} {p : Int} (h : isMem v p = true) (w : World) : Calls Try.prog 9 #[.agg #[.int .i64 v.1, .int .u8 v.2.1, .int .u8 v.2.2], .int .i64 p] w fun e w' => e = .returned (.bool true) ∧ Below w.heap.size w w' := by
  have := rmem2 v p w; rw [h] at this; exact this
theorem rmem_f {v : VlanC} {p : Int} (h : isMem v p = false) (w : World) : Calls Try.prog 9 #[.agg #[.int .i64 v.1, .int .u8 v.2.1, .int .u8 v.2.2], .int .i64 p] w fun e w' => e = .returned (.bool false) ∧ Below w.heap.size w w' := by
  have := rmem2 v p w; rw [h] at this; exact this
set_option maxHeartbeats 16000000 in
theorem rgood_loops (c : Cfg) (Ap Av As : Option Addr) (cp cv cs : Nat) (hM : Mems c) (w : World) (hA : CfgA w c Ap Av As) (ht : treeB c = true) (hs : sizesB c = true) :
    Calls Try.prog 5 #[.agg #[.int .i64 c.prio, .int .i64 c.age, .int .i64 c.delay, .slice Ap c.ports.length cp, .slice Av c.vlans.length cv, .slice As c.stats.length cs]] w fun e w' => e = .returned (.bool (vlansB c && portsB c && statsB c)) ∧ Below w.heap.size w w' := by
  obtain ⟨⟨t1, t2, t3⟩, ⟨t4, t5⟩, t6, t7, t8⟩ := tree_lim ht
  obtain ⟨⟨s1, s2⟩, ⟨s3, s4⟩, s5⟩ := sizes_lim hs
  clear ht hs
  have HB := hide (below_alloc (Below.refl w.heap.size w) (.cells #[.int .i64 c.prio, .int .i64 c.age, .int .i64 c.delay, .slice Ap c.ports.length cp, .slice Av c.vlans.length cv, .slice As c.stats.length cs] 26))
  have HH := hide (heap_new w (.cells #[.int .i64 c.prio, .int .i64 c.age, .int .i64 c.delay, .slice Ap c.ports.length cp, .slice Av c.vlans.length cv, .slice As c.stats.length cs] 26) _ rfl)
  obtain ⟨c0, -⟩ := heap_cell (unhide HH) 0
  obtain ⟨c1, -⟩ := heap_cell (unhide HH) 1
  obtain ⟨c2, -⟩ := heap_cell (unhide HH) 2
  obtain ⟨c3, -⟩ := heap_cell (unhide HH) 3
  obtain ⟨c4, -⟩ := heap_cell (unhide HH) 4
  obtain ⟨c5, -⟩ := heap_cell (unhide HH) 5
  have HA := hide hA
  have HM := hide hM
  generalize hnp : c.ports.length = np at *
  generalize hnv : c.vlans.length = nv at *
  generalize hns : c.stats.length = ns at *
  have HNP := hide hnp
  have HNV := hide hnv
  have HNS := hide hns
  clear hnp hnv hns hA hM
  generalize c.prio = p at *
  generalize c.age = a at *
  generalize c.delay = d at *
  go_enter Try.func5, Try.ntmps5
  have n1 : decide (p < 0) = false := decide_eq_false (by omega)
  have n2 : decide (61440 < p) = false := decide_eq_false (by omega)
  have n4 : decide (a < 6) = false := decide_eq_false (by omega)
  have n5 : decide (40 < a) = false := decide_eq_false (by omega)
  have n6 : decide (d < 4) = false := decide_eq_false (by omega)
  have n7 : decide (30 < d) = false := decide_eq_false (by omega)
  have n8 : decide (2 * (d - 1) < a) = false := decide_eq_false (by omega)
  have n9 : decide ((np : Int) < 1) = false := decide_eq_false (by omega)
  have n10 : decide (8 < (np : Int)) = false := decide_eq_false (by omega)
  have n11 : decide ((nv : Int) < 1) = false := decide_eq_false (by omega)
  have n12 : decide (16 < (nv : Int)) = false := decide_eq_false (by omega)
  have n13 : decide (16 < (ns : Int)) = false := decide_eq_false (by omega)
  go_upto_region 5 with fail
  generalize w.alloc (.cells #[.int .i64 p, .int .i64 a, .int .i64 d, .slice Ap np cp, .slice Av nv cv, .slice As ns cs] 26) = w1 at *
  clear c0 c1 c2 c3 c4 c5 t1 t2 t3 t4 t5 t6 t7 t8 n1 n2 n4 n5 n6 n7 n8 n9 n10 n11 n12 n13
  go_wp2
  go_loopw [3] (fun i W => ∃ k : Nat, k ≤ nv ∧ i = .int .i64 k ∧ Aside (Below w1.heap.size w1 W) ∧ Aside (∀ j v, j < k → c.vlans[j]? = some v → rvB np c.vlans j v)) (fun i _ => nv - (intOf i).toNat)
  case atStart => exact ⟨0, Nat.zero_le _, rfl, Below.refl _ _, fun j x hj => absurd hj (Nat.not_lt_zero _)⟩
  case round =>
    obtain ⟨k, hk, rfl, BW, M⟩ := hrel
    have HBW := hide (below_then (unhide HB) BW.out)
    have HH2 := hide (heap_keep (unhide HH) BW.out)
    by_cases hlt : k < nv
    ·
      --L1<
      as_aux_lemma =>
        have hltz : (k : Int) < (nv : Int) := by omega
        obtain ⟨b, off, hAv, hc⟩ := rowV_at (unhide HA).2.1 (by have := unhide HNV; omega)
        have HAV := hide hAv
        subst hAv
        obtain ⟨v, hv⟩ : ∃ v, c.vlans[k]? = some v := ⟨_, List.getElem?_eq_getElem (by have := unhide HNV; omega)⟩
        have HV := hide hv
        have hvm := unhide HM v (List.mem_of_getElem? hv)
        have HNO := hide (fun h : ¬ rvB np c.vlans k v => (by rw [show vlansB c = false from by unfold vlansB; rw [unhide HNP]; exact rv_bad (unhide HV) hvm s2 h]; rfl : (vlansB c && portsB c && statsB c) = false))
        obtain ⟨e0, e1, e2⟩ := hc wr (unhide HBW) k v hv
        have HC := hide hc
        clear hc hv hvm
        obtain ⟨m3, -⟩ := heap_cell (unhide HH2) 3
        obtain ⟨m4, -⟩ := heap_cell (unhide HH2) 4
        go_upto_region 9 with fail
        have HG := hide (heap_new wr (.cells #[.int .i64 v.1, .int .u8 v.2.1, .int .u8 v.2.2] 42) _ rfl)
        have HB2 := hide (below_alloc (unhide HBW) (.cells #[.int .i64 v.1, .int .u8 v.2.1, .int .u8 v.2.2] 42))
        have HH3 := hide (heap_keep (unhide HH2) (below_alloc (Below.refl _ _) (.cells #[.int .i64 v.1, .int .u8 v.2.1, .int .u8 v.2.2] 42)))
        have HB3 := hide (below_alloc BW.out (.cells #[.int .i64 v.1, .int .u8 v.2.1, .int .u8 v.2.2] 42))
        have HM2 := hide M.out
        clear e0 e1 e2 m3 m4 BW M
        generalize wr.alloc (.cells #[.int .i64 v.1, .int .u8 v.2.1, .int .u8 v.2.2] 42) = w2 at *
        generalize wr.heap.size = g at *
        obtain ⟨d0, -⟩ := heap_cell (unhide HG) 0
        obtain ⟨d1, -⟩ := heap_cell (unhide HG) 1
        obtain ⟨d2, -⟩ := heap_cell (unhide HG) 2
        obtain ⟨m3, -⟩ := heap_cell (unhide HH3) 3
        obtain ⟨m4, -⟩ := heap_cell (unhide HH3) 4
        obtain ⟨x1, hx1⟩ : ∃ x, x = v.1 := ⟨_, rfl⟩
        obtain ⟨x2, hx2⟩ : ∃ x, x = v.2.1 := ⟨_, rfl⟩
        obtain ⟨x3, hx3⟩ : ∃ x, x = v.2.2 := ⟨_, rfl⟩
        simp only [← hx1, ← hx2, ← hx3] at d0 d1 d2
        have HX1 := hide hx1
        have HX2 := hide hx2
        have HX3 := hide hx3
        clear hx1 hx2 hx3
        go_cut [124] from 93 to 125 (fun r w' => Below w2.heap.size w2 w' ∧ ∃ bb : Bool, r = .bool bb ∧ Aside (bb = true → ¬ rvB np c.vlans k v) ∧ Aside (bb = false → wi v.1 1 4094 = true ∧ bits .andNot .u8 v.2.2 v.2.1 = 0 ∧ ∀ j u, k = j + 1 → c.vlans[j]? = some u → u.1 < v.1))
        case first =>
          by_cases r1 : x1 < 1
          · have HR1 := hide r1
            go_quiet (fail)
            go_wp2
            go_meet
            case rel => exact ⟨below_drewN (Below.refl _ _) _, true, rfl, (show Aside (true = true → _) from fun _ h => by have := wi_t h.1; have := unhide HX1; have := unhide HR1; omega), (show Aside (true = false → _) from fun h => by cases h)⟩
          · have n1 : decide (x1 < 1) = false := decide_eq_false r1
            by_cases r2 : 4094 < x1
            · have HR2 := hide r2
              clear r1
              go_quiet (fail)
              go_wp2
              go_meet
              case rel => exact ⟨below_drewN (Below.refl _ _) _, true, rfl, (show Aside (true = true → _) from fun _ h => by have := wi_t h.1; have := unhide HX1; have := unhide HR2; omega), (show Aside (true = false → _) from fun h => by cases h)⟩
            · have n2 : decide (4094 < x1) = false := decide_eq_false r2
              have HW := hide (wi_of (x := x1) (a := 1) (b := 4094) (by omega) (by omega))
              clear r1 r2
              by_cases hk0 : k = 0
              · subst hk0
                by_cases r4 : bits .andNot .u8 x3 x2 = 0
                · have n4 : (bits .andNot .u8 x3 x2 != 0) = false := by simp [r4]
                  have HR4 := hide r4
                  clear r4
                  go_quiet (fail)
                  go_wp2
                  go_meet
                  case rel => exact ⟨below_drewN (Below.refl _ _) _, false, rfl, (show Aside (false = true → _) from fun h => by cases h), (show Aside (false = false → _) from fun _ => ⟨by rw [← unhide HX1]; exact unhide HW, by rw [← unhide HX2, ← unhide HX3]; exact unhide HR4, fun j u e => by omega⟩)⟩
                · have n4 : (bits .andNot .u8 x3 x2 != 0) = true := by simp [r4]
                  have HR4 := hide r4
                  clear r4
                  go_quiet (fail)
                  go_wp2
                  go_meet
                  case rel => exact ⟨below_drewN (Below.refl _ _) _, true, rfl, (show Aside (true = true → _) from fun _ h => by have := h.2.1; rw [← unhide HX2, ← unhide HX3] at this; exact unhide HR4 this), (show Aside (true = false → _) from fun h => by cases h)⟩
              · obtain ⟨j, rfl⟩ : ∃ j, k = j + 1 := ⟨k - 1, by omega⟩
                obtain ⟨u, hu⟩ : ∃ u, c.vlans[j]? = some u := ⟨_, List.getElem?_eq_getElem (by have := unhide HNV; omega)⟩
                obtain ⟨u0, -, -⟩ := unhide HC w2 (unhide HB2) j u hu
                have HU := hide hu
                clear hu
                obtain ⟨y, hy⟩ : ∃ y, y = u.1 := ⟨_, rfl⟩
                rw [← hy] at u0
                have HY := hide hy
                clear hy
                by_cases r3 : x1 ≤ y
                · have HR3 := hide r3
                  go_quiet (fail)
                  go_wp2
                  go_meet
                  case rel => exact ⟨below_drewN (Below.refl _ _) _, true, rfl, (show Aside (true = true → _) from fun _ h => by have := h.2.2.2 j u rfl (unhide HU); have := unhide HX1; have := unhide HR3; have := unhide HY; omega), (show Aside (true = false → _) from fun h => by cases h)⟩
                · have n3 : decide (x1 ≤ y) = false := decide_eq_false r3
                  have HR3 := hide r3
                  clear r3
                  have HPV : Hid (∀ j' u', j + 1 = j' + 1 → c.vlans[j']? = some u' → u'.1 < v.1) := by
                    intro j' u' e hu'
                    obtain rfl : j' = j := by omega
                    rw [unhide HU] at hu'
                    cases hu'
                    have := unhide HX1; have := unhide HR3; have := unhide HY; omega
                  by_cases r4 : bits .andNot .u8 x3 x2 = 0
                  · have n4 : (bits .andNot .u8 x3 x2 != 0) = false := by simp [r4]
                    have HR4 := hide r4
                    clear r4
                    go_quiet (fail)
                    go_wp2
                    go_meet
                    case rel => exact ⟨below_drewN (Below.refl _ _) _, false, rfl, (show Aside (false = true → _) from fun h => by cases h), (show Aside (false = false → _) from fun _ => ⟨by rw [← unhide HX1]; exact unhide HW, by rw [← unhide HX2, ← unhide HX3]; exact unhide HR4, unhide HPV⟩)⟩
                  · have n4 : (bits .andNot .u8 x3 x2 != 0) = true := by simp [r4]
                    have HR4 := hide r4
                    clear r4
                    go_quiet (fail)
                    go_wp2
                    go_meet
                    case rel => exact ⟨below_drewN (Below.refl _ _) _, true, rfl, (show Aside (true = true → _) from fun _ h => by have := h.2.1; rw [← unhide HX2, ← unhide HX3] at this; exact unhide HR4 this), (show Aside (true = false → _) from fun h => by cases h)⟩
        obtain ⟨hb3, bb, rfl, hbad, hgood⟩ := hcut
        have HB4 := hide (below_then (unhide HB2) hb3)
        have HB5 := hide (below_then (unhide HB3) hb3)
        have HH4 := hide (heap_keep (unhide HH3) hb3)
        have HG4 := hide (heap_keep (unhide HG) hb3)
        clear hb3 d0 d1 d2 m3 m4
        generalize wc = w3 at *
        cases bb with
        | true =>
          have HF := hide (unhide HNO (hbad.out rfl))
          go_wp2
          go_ret
          exact ⟨ret_bool (unhide HF).symm, unhide HB4⟩
        | false =>
          have HGD := hide (hgood.out rfl)
          clear hbad hgood
          obtain ⟨m3, -⟩ := heap_cell (unhide HH4) 3
          go_upto_region 12 with fail
          go_loopw [5] (fun i W => ∃ q : Nat, np ≤ q ∧ q ≤ 8 ∧ i = .int .i64 q ∧ Aside (Below w3.heap.size w3 W) ∧ Aside (∀ r : Nat, np ≤ r → r < q → isMem v r = false)) (fun i _ => 8 - (intOf i).toNat)
          case atStart => exact ⟨np, Nat.le_refl _, s2, rfl, Below.refl _ _, fun r h1 h2 => absurd h1 (by omega)⟩
          case round =>
            obtain ⟨q, hq1, hq2, rfl, BQ, MQ⟩ := hrel
            by_cases hq : q < 8
            · have hqz : (q : Int) < 8 := by omega
              have HG5 := hide (heap_keep (unhide HG4) BQ.out)
              obtain ⟨d0, -⟩ := heap_cell (unhide HG5) 0
              obtain ⟨d1, -⟩ := heap_cell (unhide HG5) 1
              obtain ⟨d2, -⟩ := heap_cell (unhide HG5) 2
              cases hm : isMem v q with
              | true =>
                have g1 := hide (rmem_t hm)
                have HF := hide (unhide HNO (fun h => by have := h.2.2.1 q hq1 hq; rw [hm] at this; cases this))
                clear hm
                go_wp2_with (go_at_call 9; (with_reducible refine (unhide g1 _).mono ?_); rintro e w' ⟨rfl, hb'⟩; have HBF := hide (below_then (unhide HB4) (below_then BQ.out hb')); clear hb')
                go_ret
                exact ⟨ret_bool (unhide HF).symm, unhide HBF⟩
              | false =>
                have g1 := hide (rmem_f hm)
                have HNQ : Hid (∀ r : Nat, np ≤ r → r < q + 1 → isMem v r = false) := by
                  intro r h1 h2
                  by_cases h : r < q
                  · exact MQ.out r h1 h
                  · obtain rfl : r = q := by omega
                    exact hm
                clear hm
                go_wp2_with (go_at_call 9; (with_reducible refine (unhide g1 _).mono ?_); rintro e w' ⟨rfl, hb'⟩; have HBF := hide (below_then BQ.out hb'); clear hb')
                go_roundw
                case rel => exact ⟨q + 1, by omega, by omega, by go_num, unhide HBF, unhide HNQ⟩
                case measure => simp [intOf]; omega
            · obtain rfl : q = 8 := by omega
              have HRV : Hid (rvB np c.vlans k v) := ⟨(unhide HGD).1, (unhide HGD).2.1, fun r h1 h2 => MQ.out r h1 h2, (unhide HGD).2.2⟩
              have HBF := hide (below_then (unhide HB5) BQ.out)
              clear hq
              go_wp2
              go_roundw
              case rel =>
                refine ⟨k + 1, by omega, by go_num, unhide HBF, (show Aside _ from fun j x hj hx => ?_)⟩
                by_cases e : j = k
                · subst e
                  rw [unhide HV] at hx
                  cases hx
                  exact unhide HRV
                · exact unhide HM2 j x (by omega) hx
              case measure => simp [intOf]; omega
      --L1>
    · have hkn : nv = k := by omega
      have hvb : vlansB c = true := by
        unfold vlansB
        rw [unhide HNP]
        exact rv_all (unhide HM) s2 (fun j v hj hv => M.out j v (by have := unhide HNV; omega) hv)
      have HRV := hide (fun j v (hj : j < nv) hv => M.out j v (by omega) hv)
      have HVB := hide hvb
      have hltz : ¬ (k : Int) < (nv : Int) := by omega
      obtain ⟨m4, -⟩ := heap_cell (unhide HH2) 4
      clear hvb hlt hk hkn
      go_wp2
      have HB1 := hide BW.out
      clear BW M HBW HH2 hltz m4
      go_loopw [6] (fun i W => ∃ k : Nat, k ≤ np ∧ i = .int .i64 k ∧ Aside (Below w1.heap.size w1 W) ∧ Aside (∀ j p, j < k → c.ports[j]? = some p → portOk c.vlans p = true)) (fun i _ => np - (intOf i).toNat)
      case atStart => exact ⟨0, Nat.zero_le _, rfl, unhide HB1, fun j x hj => absurd hj (Nat.not_lt_zero _)⟩
      case round =>
        obtain ⟨k, hk, rfl, BW, M⟩ := hrel
        have HBW := hide (below_then (unhide HB) BW.out)
        have HH2 := hide (heap_keep (unhide HH) BW.out)
        by_cases hlt : k < np
        ·
          --L3<
          as_aux_lemma =>
            have hltz : (k : Int) < (np : Int) := by omega
            obtain ⟨b, off, hAp, hc⟩ := rowP_at (unhide HA).1 (by have := unhide HNP; omega)
            have HAP := hide hAp
            subst hAp
            obtain ⟨q, hq⟩ : ∃ q, c.ports[k]? = some q := ⟨_, List.getElem?_eq_getElem (by have := unhide HNP; omega)⟩
            have HQ := hide hq
            have HNO := hide (fun h : portOk c.vlans q = false => (by rw [show portsB c = false from all_f hq h, unhide HVB]; rfl : (vlansB c && portsB c && statsB c) = false))
            obtain ⟨e0, e1, e2⟩ := hc wr (unhide HBW) k q hq
            have HCQ := hide hc
            clear hc hq
            obtain ⟨m0, -⟩ := heap_cell (unhide HH2) 0
            obtain ⟨m1, -⟩ := heap_cell (unhide HH2) 1
            obtain ⟨m2, -⟩ := heap_cell (unhide HH2) 2
            obtain ⟨m3, -⟩ := heap_cell (unhide HH2) 3
            obtain ⟨m4, -⟩ := heap_cell (unhide HH2) 4
            obtain ⟨m5, -⟩ := heap_cell (unhide HH2) 5
            obtain ⟨x2, hx2⟩ : ∃ x, x = q.2.1 := ⟨_, rfl⟩
            obtain ⟨x3, hx3⟩ : ∃ x, x = q.2.2 := ⟨_, rfl⟩
            simp only [← hx2, ← hx3] at e1 e2
            have HX2 := hide hx2
            have HX3 := hide hx3
            clear hx2 hx3
            have HSK := hide (fun (W : World) (hW : Below wr.heap.size wr W) => (by
              obtain ⟨_, q1, q2⟩ := unhide HCQ W (below_then (unhide HBW) hW) k q (unhide HQ)
              have hk := heap_keep (unhide HH2) hW
              rw [← unhide HX2] at q1
              rw [← unhide HX3] at q2
              exact ⟨hW, (heap_cell hk 0).1, (heap_cell hk 1).1, (heap_cell hk 2).1, (heap_cell hk 3).1, (heap_cell hk 4).1, (heap_cell hk 5).1, q1, q2⟩ : Below wr.heap.size wr W ∧ W.cell? ⟨w.heap.size, 0, none⟩ = some (.int .i64 p) ∧ W.cell? ⟨w.heap.size, 1, none⟩ = some (.int .i64 a) ∧ W.cell? ⟨w.heap.size, 2, none⟩ = some (.int .i64 d) ∧ W.cell? ⟨w.heap.size, 3, none⟩ = some (.slice (some ⟨b, off, none⟩) np cp) ∧ W.cell? ⟨w.heap.size, 4, none⟩ = some (.slice Av nv cv) ∧ W.cell? ⟨w.heap.size, 5, none⟩ = some (.slice As ns cs) ∧ W.cell? ⟨b, off + k * 3 + 1, none⟩ = some (.int .u32 x2) ∧ W.cell? ⟨b, off + k * 3 + 2, none⟩ = some (.int .i64 x3)))
            go_upto_region 19 with fail
            go_cut [168] from 142 to 168 (fun r w' => Below wr.heap.size wr w' ∧ ∃ bb : Bool, r = .bool bb ∧ portOk c.vlans q = !bb)
            case first =>
              by_cases r1 : x2 < 1
              · have HR1 := hide (wi_not (x := x2) (a := 1) (b := 200000000) (.inl r1))
                go_quiet (fail)
                go_wp2
                go_meet
                case rel => exact ⟨below_drewN (Below.refl _ _) _, true, rfl, by unfold portOk; rw [← unhide HX2, unhide HR1]; simp⟩
              · have n1 : decide (x2 < 1) = false := decide_eq_false r1
                by_cases r2 : 200000000 < x2
                · have HR1 := hide (wi_not (x := x2) (a := 1) (b := 200000000) (.inr r2))
                  clear r1
                  go_quiet (fail)
                  go_wp2
                  go_meet
                  case rel => exact ⟨below_drewN (Below.refl _ _) _, true, rfl, by unfold portOk; rw [← unhide HX2, unhide HR1]; simp⟩
                · have n2 : decide (200000000 < x2) = false := decide_eq_false r2
                  have HR1 := hide (wi_of (x := x2) (a := 1) (b := 200000000) (by omega) (by omega))
                  clear r1 r2
                  cases hf : findV c.vlans x3 with
                  | none =>
                    have HF := hide hf
                    have G := hide (fun W (hW : Below wr.heap.size wr W) => (by have := rvlan_no p a d (some ⟨b, off, none⟩) As np cp ns cs Av c.vlans cv x3 W (rowA_below (unhide HA).2.1 (below_then (unhide HBW) hW)) (by have := unhide HNV; omega) (unhide HF); rw [unhide HNV] at this; exact this : Calls Try.prog 10 #[.agg #[.int .i64 p, .int .i64 a, .int .i64 d, .slice (some ⟨b, off, none⟩) np cp, .slice Av nv cv, .slice As ns cs], .int .i64 x3] W fun e w' => e = .returned (.int .i64 (-1)) ∧ Below W.heap.size W w'))
                    clear hf
                    go_region_held3 (fun W => Below wr.heap.size wr W ∧ W.cell? ⟨w.heap.size, 0, none⟩ = some (.int .i64 p) ∧ W.cell? ⟨w.heap.size, 1, none⟩ = some (.int .i64 a) ∧ W.cell? ⟨w.heap.size, 2, none⟩ = some (.int .i64 d) ∧ W.cell? ⟨w.heap.size, 3, none⟩ = some (.slice (some ⟨b, off, none⟩) np cp) ∧ W.cell? ⟨w.heap.size, 4, none⟩ = some (.slice Av nv cv) ∧ W.cell? ⟨w.heap.size, 5, none⟩ = some (.slice As ns cs) ∧ W.cell? ⟨b, off + k * 3 + 1, none⟩ = some (.int .u32 x2) ∧ W.cell? ⟨b, off + k * 3 + 2, none⟩ = some (.int .i64 x3)) ((go_split_ands; refine unhide HSK _ ?_; (repeat (first | (with_reducible assumption) | exact Below.refl _ _ | (with_reducible refine Below.drew ?_) | (with_reducible refine below_drewN ?_ _) | (with_reducible refine below_alloc ?_ _)))))
                      (first | (go_at_call 10; (with_reducible refine (unhide G _ ?_).mono ?_); (focus (repeat (first | (with_reducible assumption) | exact Below.refl _ _ | (with_reducible refine Below.drew ?_) | (with_reducible refine below_drewN ?_ _) | (with_reducible refine below_alloc ?_ _)))); rintro e wc ⟨rfl, hbc⟩; have hbd := below_then (by (repeat (first | (with_reducible assumption) | exact Below.refl _ _ | (with_reducible refine Below.drew ?_) | (with_reducible refine below_drewN ?_ _) | (with_reducible refine below_alloc ?_ _))) : Below wr.heap.size wr _) hbc; clear hbc))
                    all_goals
                      go_wp2
                      go_meet
                      case rel => exact ⟨by assumption, true, rfl, by unfold portOk; rw [← unhide HX3, unhide HF]; rfl⟩
                  | some v =>
                    have HF := hide hf
                    have G := hide (fun W (hW : Below wr.heap.size wr W) => (by have := rvlan_yes p a d (some ⟨b, off, none⟩) As np cp ns cs Av c.vlans cv x3 W (rowA_below (unhide HA).2.1 (below_then (unhide HBW) hW)) (by have := unhide HNV; omega) (unhide HF); rw [unhide HNV] at this; exact this : Calls Try.prog 10 #[.agg #[.int .i64 p, .int .i64 a, .int .i64 d, .slice (some ⟨b, off, none⟩) np cp, .slice Av nv cv, .slice As ns cs], .int .i64 x3] W fun e w' => ∃ k : Nat, e = .returned (.int .i64 k) ∧ c.vlans[k]? = some v ∧ Below W.heap.size W w'))
                    clear hf
                    go_region_held3 (fun W => Below wr.heap.size wr W ∧ W.cell? ⟨w.heap.size, 0, none⟩ = some (.int .i64 p) ∧ W.cell? ⟨w.heap.size, 1, none⟩ = some (.int .i64 a) ∧ W.cell? ⟨w.heap.size, 2, none⟩ = some (.int .i64 d) ∧ W.cell? ⟨w.heap.size, 3, none⟩ = some (.slice (some ⟨b, off, none⟩) np cp) ∧ W.cell? ⟨w.heap.size, 4, none⟩ = some (.slice Av nv cv) ∧ W.cell? ⟨w.heap.size, 5, none⟩ = some (.slice As ns cs) ∧ W.cell? ⟨b, off + k * 3 + 1, none⟩ = some (.int .u32 x2) ∧ W.cell? ⟨b, off + k * 3 + 2, none⟩ = some (.int .i64 x3)) ((go_split_ands; refine unhide HSK _ ?_; (repeat (first | (with_reducible assumption) | exact Below.refl _ _ | (with_reducible refine Below.drew ?_) | (with_reducible refine below_drewN ?_ _) | (with_reducible refine below_alloc ?_ _)))))
                      (first | (go_at_call 10; (with_reducible refine (unhide G _ ?_).mono ?_); (focus (repeat (first | (with_reducible assumption) | exact Below.refl _ _ | (with_reducible refine Below.drew ?_) | (with_reducible refine below_drewN ?_ _) | (with_reducible refine below_alloc ?_ _)))); rintro e wc ⟨kv, rfl, hkv, hbc⟩; have hnn : decide ((kv : Int) < 0) = false := decide_eq_false (by omega); have hbd := below_then (by (repeat (first | (with_reducible assumption) | exact Below.refl _ _ | (with_reducible refine Below.drew ?_) | (with_reducible refine below_drewN ?_ _) | (with_reducible refine below_alloc ?_ _))) : Below wr.heap.size wr _) hbc; clear hbc))
                    all_goals
                      go_wp2
                      go_meet
                      case rel => exact ⟨by assumption, false, rfl, by unfold portOk; rw [← unhide HX2, ← unhide HX3, unhide HF, unhide HR1]; rfl⟩
            obtain ⟨hb3, bb, rfl, hbb⟩ := hcut
            have HB4 := hide (below_then (unhide HBW) hb3)
            have HB5 := hide (below_then BW.out hb3)
            cases bb with
            | true =>
              have HF := hide (unhide HNO hbb)
              clear m0 m1 m2 m3 m4 m5 e0 e1 e2
              go_wp2
              go_ret
              exact ⟨ret_bool (unhide HF).symm, unhide HB4⟩
            | false =>
              have HPK := hide hbb
              have HM2 := hide M.out
              clear m0 m1 m2 m3 m4 m5 e0 e1 e2 hbb
              go_wp2
              go_roundw
              case rel =>
                refine ⟨k + 1, by omega, by go_num, unhide HB5, (show Aside _ from fun j x hj hx => ?_)⟩
                by_cases e : j = k
                · subst e
                  rw [unhide HQ] at hx
                  cases hx
                  exact unhide HPK
                · exact unhide HM2 j x (by omega) hx
              case measure => simp [intOf]; omega
          --L3>
        · have hkn : np = k := by omega
          have hpb : portsB c = true := all_t (fun j x hj hx => M.out j x (by have := unhide HNP; omega) hx)
          have HPB := hide hpb
          have hltz : ¬ (k : Int) < (np : Int) := by omega
          obtain ⟨m3, -⟩ := heap_cell (unhide HH2) 3
          clear hpb hlt hk hkn
          go_wp2
          have HB1 := hide BW.out
          clear BW M HBW HH2 hltz m3
          go_loopw [7] (fun i W => ∃ k : Nat, k ≤ ns ∧ i = .int .i64 k ∧ Aside (Below w1.heap.size w1 W) ∧ Aside (∀ j x, j < k → c.stats[j]? = some x → statOk c.vlans x = true ∧ ∀ j' y, j = j' + 1 → c.stats[j']? = some y → ltS y x = true)) (fun i _ => ns - (intOf i).toNat)
          case atStart => exact ⟨0, Nat.zero_le _, rfl, unhide HB1, fun j x hj => absurd hj (Nat.not_lt_zero _)⟩
          case round =>
            obtain ⟨k, hk, rfl, BW, M⟩ := hrel
            have HBW := hide (below_then (unhide HB) BW.out)
            have HH2 := hide (heap_keep (unhide HH) BW.out)
            by_cases hlt : k < ns
            · have hltz : (k : Int) < (ns : Int) := by omega
              obtain ⟨b, off, hAs, hc⟩ := rowS_at (unhide HA).2.2 (by have := unhide HNS; omega)
              have HAS := hide hAs
              subst hAs
              obtain ⟨q, hq⟩ : ∃ q, c.stats[k]? = some q := ⟨_, List.getElem?_eq_getElem (by have := unhide HNS; omega)⟩
              have HQ := hide hq
              have HNO := hide (fun h : statOk c.vlans q = false => (by rw [show statsB c = false from by unfold statsB; rw [all_f hq h]; rfl, unhide HVB, unhide HPB]; rfl : (vlansB c && portsB c && statsB c) = false))
              obtain ⟨e0, e1, e2⟩ := hc wr (unhide HBW) k q hq
              have HCQ := hide hc
              clear hc hq
              obtain ⟨m0, -⟩ := heap_cell (unhide HH2) 0
              obtain ⟨m1, -⟩ := heap_cell (unhide HH2) 1
              obtain ⟨m2, -⟩ := heap_cell (unhide HH2) 2
              obtain ⟨m3, -⟩ := heap_cell (unhide HH2) 3
              obtain ⟨m4, -⟩ := heap_cell (unhide HH2) 4
              obtain ⟨m5, -⟩ := heap_cell (unhide HH2) 5
              go_upto_region 25 with fail
              have HG := hide (heap_new wr (.cells #[.int .u64 q.1, .int .i64 q.2.1, .int .i64 q.2.2] 46) _ rfl)
              have HB2 := hide (below_alloc (unhide HBW) (.cells #[.int .u64 q.1, .int .i64 q.2.1, .int .i64 q.2.2] 46))
              have HH3 := hide (heap_keep (unhide HH2) (below_alloc (Below.refl _ _) (.cells #[.int .u64 q.1, .int .i64 q.2.1, .int .i64 q.2.2] 46)))
              have HB3 := hide (below_alloc BW.out (.cells #[.int .u64 q.1, .int .i64 q.2.1, .int .i64 q.2.2] 46))
              have HM2 := hide M.out
              clear e0 e1 e2 m0 m1 m2 m3 m4 m5 BW M
              generalize wr.alloc (.cells #[.int .u64 q.1, .int .i64 q.2.1, .int .i64 q.2.2] 46) = w2 at *
              generalize wr.heap.size = g at *
              obtain ⟨d0, -⟩ := heap_cell (unhide HG) 0
              obtain ⟨d1, -⟩ := heap_cell (unhide HG) 1
              obtain ⟨d2, -⟩ := heap_cell (unhide HG) 2
              obtain ⟨m0, -⟩ := heap_cell (unhide HH3) 0
              obtain ⟨m1, -⟩ := heap_cell (unhide HH3) 1
              obtain ⟨m2, -⟩ := heap_cell (unhide HH3) 2
              obtain ⟨m3, -⟩ := heap_cell (unhide HH3) 3
              obtain ⟨m4, -⟩ := heap_cell (unhide HH3) 4
              obtain ⟨m5, -⟩ := heap_cell (unhide HH3) 5
              obtain ⟨x1, hx1⟩ : ∃ x, x = q.1 := ⟨_, rfl⟩
              obtain ⟨x2, hx2⟩ : ∃ x, x = q.2.1 := ⟨_, rfl⟩
              obtain ⟨x3, hx3⟩ : ∃ x, x = q.2.2 := ⟨_, rfl⟩
              simp only [← hx1, ← hx2, ← hx3] at d0 d1 d2
              have HX1 := hide hx1
              have HX2 := hide hx2
              have HX3 := hide hx3
              clear hx1 hx2 hx3
              cases hf : findV c.vlans x2 with
              | none =>
                have HF := hide hf
                have G := hide (fun W (hW : Below w2.heap.size w2 W) => (by have := rvlan_no p a d Ap (some ⟨b, off, none⟩) np cp ns cs Av c.vlans cv x2 W (rowA_below (unhide HA).2.1 (below_then (unhide HB2) hW)) (by have := unhide HNV; omega) (unhide HF); rw [unhide HNV] at this; exact this : Calls Try.prog 10 #[.agg #[.int .i64 p, .int .i64 a, .int .i64 d, .slice Ap np cp, .slice Av nv cv, .slice (some ⟨b, off, none⟩) ns cs], .int .i64 x2] W fun e w' => e = .returned (.int .i64 (-1)) ∧ Below W.heap.size W w'))
                clear hf
                go_upto_region 26 with (first | (go_at_call 10; (with_reducible refine (unhide G _ (Below.refl _ _)).mono ?_); rintro e w3 ⟨rfl, hb3⟩))
                have HB4 := hide (below_then (unhide HB2) hb3)
                have HB6 := hide (below_then (unhide HB3) hb3)
                have HH4 := hide (heap_keep (unhide HH3) hb3)
                have HG4 := hide (heap_keep (unhide HG) hb3)
                clear hb3 d0 d1 d2 m0 m1 m2 m3 m4 m5
                obtain ⟨d0, -⟩ := heap_cell (unhide HG4) 0
                obtain ⟨d1, -⟩ := heap_cell (unhide HG4) 1
                obtain ⟨d2, -⟩ := heap_cell (unhide HG4) 2
                obtain ⟨m3, -⟩ := heap_cell (unhide HH4) 3
                obtain ⟨m4, -⟩ := heap_cell (unhide HH4) 4
                rw [← unhide HX1] at d0
                rw [← unhide HX2] at d1
                rw [← unhide HX3] at d2
                go_cut [222] from 185 to 222 (fun r w' => Below w3.heap.size w3 w' ∧ ∃ bb : Bool, r = .bool bb ∧ statOk c.vlans q = !bb)
                case first =>
                  --R26<
                  as_aux_lemma =>
                    by_cases r1 : x1 < 1
                    · have HR1 := hide (wi_not (x := x1) (a := 1) (b := 281474976710655) (.inl r1))
                      go_quiet (fail)
                      go_wp2
                      go_meet
                      case rel => exact ⟨below_drewN (Below.refl _ _) _, true, rfl, by unfold statOk; rw [← unhide HX2, unhide HF]; rfl⟩
                    · have n1 : decide (x1 < 1) = false := decide_eq_false r1
                      by_cases r2 : 281474976710656 ≤ x1
                      · have HR1 := hide (wi_not (x := x1) (a := 1) (b := 281474976710655) (.inr (by omega)))
                        clear r1
                        go_quiet (fail)
                        go_wp2
                        go_meet
                        case rel => exact ⟨below_drewN (Below.refl _ _) _, true, rfl, by unfold statOk; rw [← unhide HX2, unhide HF]; rfl⟩
                      · have n2 : decide (281474976710656 ≤ x1) = false := decide_eq_false r2
                        have HR1 := hide (wi_of (x := x1) (a := 1) (b := 281474976710655) (by omega) (by omega))
                        have hgb := grp_bit x1 (by omega) (by omega)
                        clear r1 r2
                        cases r3 : (bits .and .u64 x1 1099511627776 == 0) with
                        | false =>
                          have n3 : (bits .and .u64 (x1 / 1099511627776) 1 == 1) = true := by rw [hgb, r3]; rfl
                          have HR3 := hide r3
                          clear hgb r3
                          go_quiet (fail)
                          go_wp2
                          go_meet
                          case rel => exact ⟨below_drewN (Below.refl _ _) _, true, rfl, by unfold statOk; rw [← unhide HX2, unhide HF]; rfl⟩
                        | true =>
                          have n3 : (bits .and .u64 (x1 / 1099511627776) 1 == 1) = false := by rw [hgb, r3]; rfl
                          have HR3 := hide r3
                          clear hgb r3
                          go_quiet (fail)
                          go_wp2
                          go_meet
                          case rel => exact ⟨below_drewN (Below.refl _ _) _, true, rfl, by unfold statOk; rw [← unhide HX2, unhide HF]; rfl⟩
                  --R26>
                obtain ⟨hb4, bb, rfl, hbb⟩ := hcut
                have hbt : bb = true := by
                  have : statOk c.vlans q = false := by unfold statOk; rw [← unhide HX2, unhide HF]
                  rw [this] at hbb
                  cases bb with
                  | true => rfl
                  | false => cases hbb
                subst hbt
                have HFF := hide (unhide HNO hbb)
                have HB7 := hide (below_then (unhide HB4) hb4)
                clear d0 d1 d2 m3 m4 hbb hb4
                go_wp2
                go_ret
                exact ⟨ret_bool (unhide HFF).symm, unhide HB7⟩
              | some v =>
                have HF := hide hf
                have G := hide (fun W (hW : Below w2.heap.size w2 W) => (by have := rvlan_yes p a d Ap (some ⟨b, off, none⟩) np cp ns cs Av c.vlans cv x2 W (rowA_below (unhide HA).2.1 (below_then (unhide HB2) hW)) (by have := unhide HNV; omega) (unhide HF); rw [unhide HNV] at this; exact this : Calls Try.prog 10 #[.agg #[.int .i64 p, .int .i64 a, .int .i64 d, .slice Ap np cp, .slice Av nv cv, .slice (some ⟨b, off, none⟩) ns cs], .int .i64 x2] W fun e w' => ∃ k : Nat, e = .returned (.int .i64 k) ∧ c.vlans[k]? = some v ∧ Below W.heap.size W w'))
                clear hf
                go_upto_region 26 with (first | (go_at_call 10; (with_reducible refine (unhide G _ (Below.refl _ _)).mono ?_); rintro e w3 ⟨kv, rfl, hkv, hb3⟩))
                have HB4 := hide (below_then (unhide HB2) hb3)
                have HB6 := hide (below_then (unhide HB3) hb3)
                have HH4 := hide (heap_keep (unhide HH3) hb3)
                have HG4 := hide (heap_keep (unhide HG) hb3)
                clear hb3 d0 d1 d2 m0 m1 m2 m3 m4 m5
                obtain ⟨d0, -⟩ := heap_cell (unhide HG4) 0
                obtain ⟨d1, -⟩ := heap_cell (unhide HG4) 1
                obtain ⟨d2, -⟩ := heap_cell (unhide HG4) 2
                obtain ⟨m3, -⟩ := heap_cell (unhide HH4) 3
                obtain ⟨m4, -⟩ := heap_cell (unhide HH4) 4
                rw [← unhide HX1] at d0
                rw [← unhide HX2] at d1
                rw [← unhide HX3] at d2
                have HKV := hide hkv
                have hkn : kv < nv := by have := (List.getElem?_eq_some_iff.1 hkv).1; have := unhide HNV; omega
                have hkz : (kv : Int) < (nv : Int) := by omega
                have hnn : decide ((kv : Int) < 0) = false := decide_eq_false (by omega)
                obtain ⟨bv, ov, hAv, hcv⟩ := rowV_at (unhide HA).2.1 (by have := unhide HNV; omega)
                have HAV := hide hAv
                subst hAv
                obtain ⟨f0, f1, f2⟩ := hcv w3 (unhide HB4) kv v hkv
                have HSK := hide (fun (W : World) (hW : Below w3.heap.size w3 W) => (by
                  obtain ⟨q0, q1, q2⟩ := hcv W (below_then (unhide HB4) hW) kv v (unhide HKV)
                  have hk := heap_keep (unhide HH4) hW
                  have hk2 := heap_keep (unhide HG4) hW
                  rw [← unhide HX1, ← unhide HX3] at hk2
                  exact ⟨hW, (heap_cell hk2 0).1, (heap_cell hk2 2).1, (heap_cell hk 3).1, (heap_cell hk 4).1, q0, q1, q2⟩ : Below w3.heap.size w3 W ∧ W.cell? ⟨g, 0, none⟩ = some (.int .u64 x1) ∧ W.cell? ⟨g, 2, none⟩ = some (.int .i64 x3) ∧ W.cell? ⟨w.heap.size, 3, none⟩ = some (.slice Ap np cp) ∧ W.cell? ⟨w.heap.size, 4, none⟩ = some (.slice (some ⟨bv, ov, none⟩) nv cv) ∧ W.cell? ⟨bv, ov + kv * 3, none⟩ = some (.int .i64 v.1) ∧ W.cell? ⟨bv, ov + kv * 3 + 1, none⟩ = some (.int .u8 v.2.1) ∧ W.cell? ⟨bv, ov + kv * 3 + 2, none⟩ = some (.int .u8 v.2.2)))
                clear hcv hkv
                go_cut [222] from 185 to 222 (fun r w' => Below w3.heap.size w3 w' ∧ ∃ bb : Bool, r = .bool bb ∧ statOk c.vlans q = !bb)
                case first =>
                  --R26<
                  as_aux_lemma =>
                    by_cases r1 : x1 < 1
                    · have HR1 := hide (wi_not (x := x1) (a := 1) (b := 281474976710655) (.inl r1))
                      go_quiet (fail)
                      go_wp2
                      go_meet
                      case rel => exact ⟨below_drewN (Below.refl _ _) _, true, rfl, by unfold statOk; rw [← unhide HX2, unhide HF]; simp only []; rw [← unhide HX1, unhide HR1]; simp⟩
                    · have n1 : decide (x1 < 1) = false := decide_eq_false r1
                      by_cases r2 : 281474976710656 ≤ x1
                      · have HR1 := hide (wi_not (x := x1) (a := 1) (b := 281474976710655) (.inr (by omega)))
                        clear r1
                        go_quiet (fail)
                        go_wp2
                        go_meet
                        case rel => exact ⟨below_drewN (Below.refl _ _) _, true, rfl, by unfold statOk; rw [← unhide HX2, unhide HF]; simp only []; rw [← unhide HX1, unhide HR1]; simp⟩
                      · have n2 : decide (281474976710656 ≤ x1) = false := decide_eq_false r2
                        have HR1 := hide (wi_of (x := x1) (a := 1) (b := 281474976710655) (by omega) (by omega))
                        have hgb := grp_bit x1 (by omega) (by omega)
                        clear r1 r2
                        cases r3 : (bits .and .u64 x1 1099511627776 == 0) with
                        | false =>
                          have n3 : (bits .and .u64 (x1 / 1099511627776) 1 == 1) = true := by rw [hgb, r3]; rfl
                          have HR3 := hide r3
                          clear hgb r3
                          go_quiet (fail)
                          go_wp2
                          go_meet
                          case rel => exact ⟨below_drewN (Below.refl _ _) _, true, rfl, by unfold statOk; rw [← unhide HX2, unhide HF]; simp only []; rw [← unhide HX1, unhide HR3]; simp⟩
                        | true =>
                          have n3 : (bits .and .u64 (x1 / 1099511627776) 1 == 1) = false := by rw [hgb, r3]; rfl
                          have HR3 := hide r3
                          clear hgb r3
                          by_cases r5 : (np : Int) ≤ x3
                          · have hm : isMem v x3 = false := by
                              by_cases h8 : x3 < 8
                              · have := (unhide HRV kv v (by omega) (unhide HKV)).2.2.1 x3.toNat (by omega) (by omega)
                                rw [Int.toNat_of_nonneg (by omega)] at this
                                exact this
                              · unfold isMem; rw [wi_not (by omega)]; rfl
                            have HMM := hide hm
                            clear hm
                            go_quiet (fail)
                            go_wp2
                            go_meet
                            case rel => exact ⟨below_drewN (Below.refl _ _) _, true, rfl, by unfold statOk; rw [← unhide HX2, unhide HF]; simp only []; rw [← unhide HX3, unhide HMM]; simp⟩
                          · have n5 : decide ((np : Int) ≤ x3) = false := decide_eq_false r5
                            clear r5
                            cases hm : isMem v x3 with
                            | false =>
                              have g1 := hide (rmem_f hm)
                              have HMM := hide hm
                              clear hm
                              go_region_held3 (fun W => Below w3.heap.size w3 W ∧ W.cell? ⟨g, 0, none⟩ = some (.int .u64 x1) ∧ W.cell? ⟨g, 2, none⟩ = some (.int .i64 x3) ∧ W.cell? ⟨w.heap.size, 3, none⟩ = some (.slice Ap np cp) ∧ W.cell? ⟨w.heap.size, 4, none⟩ = some (.slice (some ⟨bv, ov, none⟩) nv cv) ∧ W.cell? ⟨bv, ov + kv * 3, none⟩ = some (.int .i64 v.1) ∧ W.cell? ⟨bv, ov + kv * 3 + 1, none⟩ = some (.int .u8 v.2.1) ∧ W.cell? ⟨bv, ov + kv * 3 + 2, none⟩ = some (.int .u8 v.2.2)) ((go_split_ands; refine unhide HSK _ ?_; (repeat (first | (with_reducible assumption) | exact Below.refl _ _ | (with_reducible refine Below.drew ?_) | (with_reducible refine below_drewN ?_ _) | (with_reducible refine below_alloc ?_ _)))))
                                (first | (go_at_call 9; (with_reducible refine (unhide g1 _).mono ?_); rintro e wc ⟨rfl, hbc⟩; have hbd := below_then (by (repeat (first | (with_reducible assumption) | exact Below.refl _ _ | (with_reducible refine Below.drew ?_) | (with_reducible refine below_drewN ?_ _) | (with_reducible refine below_alloc ?_ _))) : Below w3.heap.size w3 _) hbc; clear hbc))
                              all_goals
                                go_wp2
                                go_meet
                                case rel => exact ⟨by assumption, true, rfl, by unfold statOk; rw [← unhide HX2, unhide HF]; simp only []; rw [← unhide HX3, unhide HMM]; simp⟩
                            | true =>
                              have g1 := hide (rmem_t hm)
                              have HMM := hide hm
                              clear hm
                              go_region_held3 (fun W => Below w3.heap.size w3 W ∧ W.cell? ⟨g, 0, none⟩ = some (.int .u64 x1) ∧ W.cell? ⟨g, 2, none⟩ = some (.int .i64 x3) ∧ W.cell? ⟨w.heap.size, 3, none⟩ = some (.slice Ap np cp) ∧ W.cell? ⟨w.heap.size, 4, none⟩ = some (.slice (some ⟨bv, ov, none⟩) nv cv) ∧ W.cell? ⟨bv, ov + kv * 3, none⟩ = some (.int .i64 v.1) ∧ W.cell? ⟨bv, ov + kv * 3 + 1, none⟩ = some (.int .u8 v.2.1) ∧ W.cell? ⟨bv, ov + kv * 3 + 2, none⟩ = some (.int .u8 v.2.2)) ((go_split_ands; refine unhide HSK _ ?_; (repeat (first | (with_reducible assumption) | exact Below.refl _ _ | (with_reducible refine Below.drew ?_) | (with_reducible refine below_drewN ?_ _) | (with_reducible refine below_alloc ?_ _)))))
                                (first | (go_at_call 9; (with_reducible refine (unhide g1 _).mono ?_); rintro e wc ⟨rfl, hbc⟩; have hbd := below_then (by (repeat (first | (with_reducible assumption) | exact Below.refl _ _ | (with_reducible refine Below.drew ?_) | (with_reducible refine below_drewN ?_ _) | (with_reducible refine below_alloc ?_ _))) : Below w3.heap.size w3 _) hbc; clear hbc))
                              all_goals
                                go_wp2
                                go_meet
                                case rel => exact ⟨by assumption, false, rfl, by unfold statOk; rw [← unhide HX2, unhide HF]; simp only []; rw [← unhide HX3, unhide HMM, ← unhide HX1, unhide HR1, unhide HR3]; rfl⟩
                  --R26>
                obtain ⟨hb4, bb, rfl, hbb⟩ := hcut
                have HB7 := hide (below_then (unhide HB4) hb4)
                have HB8 := hide (below_then (unhide HB6) hb4)
                have HH5 := hide (heap_keep (unhide HH4) hb4)
                have HG5 := hide (heap_keep (unhide HG4) hb4)
                clear d0 d1 d2 m3 m4 f0 f1 f2 HSK
                generalize wc = w4 at *
                cases bb with
                | true =>
                  have HFF := hide (unhide HNO hbb)
                  clear hbb hb4
                  go_wp2
                  go_ret
                  exact ⟨ret_bool (unhide HFF).symm, unhide HB7⟩
                | false =>
                  have HSO := hide hbb
                  clear hbb hb4
                  go_upto_region 28 with fail
                  go_cut [235] from 223 to 235 (fun r w' => Below w4.heap.size w4 w' ∧ ∃ bb : Bool, r = .bool bb ∧ Aside (bb = true → ∃ j u, k = j + 1 ∧ c.stats[j]? = some u ∧ ltS u q = false) ∧ Aside (bb = false → ∀ j y, k = j + 1 → c.stats[j]? = some y → ltS y q = true))
                  case first =>
                    as_aux_lemma =>
                      by_cases hk0 : k = 0
                      · subst hk0
                        go_quiet (fail)
                        go_wp2
                        go_meet
                        case rel => exact ⟨below_drewN (Below.refl _ _) _, false, rfl, (show Aside (false = true → _) from fun h => by cases h), (show Aside (false = false → _) from fun _ j y h => by omega)⟩
                      · obtain ⟨j, rfl⟩ : ∃ j, k = j + 1 := ⟨k - 1, by omega⟩
                        obtain ⟨u, hu⟩ : ∃ u, c.stats[j]? = some u := ⟨_, List.getElem?_eq_getElem (by have := unhide HNS; omega)⟩
                        have HU := hide hu
                        have HSK := hide (fun (W : World) (hW : Below w4.heap.size w4 W) => (by
                          obtain ⟨q0, q1, q2⟩ := unhide HCQ W (below_then (unhide HB7) hW) j u (unhide HU)
                          have hk := heap_keep (unhide HH5) hW
                          have hk2 := heap_keep (unhide HG5) hW
                          exact ⟨hW, (heap_cell hk 5).1, q0, q1, q2, (heap_cell hk2 0).1, (heap_cell hk2 1).1, (heap_cell hk2 2).1⟩ : Below w4.heap.size w4 W ∧ W.cell? ⟨w.heap.size, 5, none⟩ = some (.slice (some ⟨b, off, none⟩) ns cs) ∧ W.cell? ⟨b, off + j * 3, none⟩ = some (.int .u64 u.1) ∧ W.cell? ⟨b, off + j * 3 + 1, none⟩ = some (.int .i64 u.2.1) ∧ W.cell? ⟨b, off + j * 3 + 2, none⟩ = some (.int .i64 u.2.2) ∧ W.cell? ⟨g, 0, none⟩ = some (.int .u64 q.1) ∧ W.cell? ⟨g, 1, none⟩ = some (.int .i64 q.2.1) ∧ W.cell? ⟨g, 2, none⟩ = some (.int .i64 q.2.2)))
                        clear hu
                        have hjz : (j : Int) < (ns : Int) := by omega
                        have hj0 : (0 : Int) ≤ (j : Int) := by omega
                        have hjw : IntKind.i64.wrap ((j : Int) + 1 - 1) = (j : Int) := by rw [IntKind.wrap_i64]; omega
                        have hjv : IntKind.i64.wrap (j : Int) = (j : Int) := by rw [IntKind.wrap_i64]; omega
                        have hjn : j < ns := by omega
                        obtain ⟨-, y5, y0, y1, y2, z0, z1, z2⟩ := unhide HSK w4 (Below.refl _ _)
                        cases hl : ltS u q with
                        | false =>
                          have g1 := hide (fun W => (by have := rless_any u q W; rw [hl] at this; exact this : Calls Try.prog 11 #[.agg #[.int .u64 u.1, .int .i64 u.2.1, .int .i64 u.2.2], .agg #[.int .u64 q.1, .int .i64 q.2.1, .int .i64 q.2.2]] W fun e w' => e = .returned (.bool false) ∧ Below W.heap.size W w'))
                          have HLT := hide hl
                          clear hl
                          go_region_held3 (fun W => Below w4.heap.size w4 W ∧ W.cell? ⟨w.heap.size, 5, none⟩ = some (.slice (some ⟨b, off, none⟩) ns cs) ∧ W.cell? ⟨b, off + j * 3, none⟩ = some (.int .u64 u.1) ∧ W.cell? ⟨b, off + j * 3 + 1, none⟩ = some (.int .i64 u.2.1) ∧ W.cell? ⟨b, off + j * 3 + 2, none⟩ = some (.int .i64 u.2.2) ∧ W.cell? ⟨g, 0, none⟩ = some (.int .u64 q.1) ∧ W.cell? ⟨g, 1, none⟩ = some (.int .i64 q.2.1) ∧ W.cell? ⟨g, 2, none⟩ = some (.int .i64 q.2.2)) ((go_split_ands; refine unhide HSK _ ?_; (repeat (first | (with_reducible assumption) | exact Below.refl _ _ | (with_reducible refine Below.drew ?_) | (with_reducible refine below_drewN ?_ _) | (with_reducible refine below_alloc ?_ _)))))
                            (first | (go_at_call 11; (with_reducible refine (unhide g1 _).mono ?_); rintro e wc ⟨rfl, hbc⟩; have hbd := below_then (by (repeat (first | (with_reducible assumption) | exact Below.refl _ _ | (with_reducible refine Below.drew ?_) | (with_reducible refine below_drewN ?_ _) | (with_reducible refine below_alloc ?_ _))) : Below w4.heap.size w4 _) hbc; clear hbc))
                          all_goals
                            go_wp2
                            go_meet
                            case rel => exact ⟨by assumption, true, rfl, (show Aside (true = true → _) from fun _ => ⟨j, u, rfl, unhide HU, unhide HLT⟩), (show Aside (true = false → _) from fun h => by cases h)⟩
                        | true =>
                          have g1 := hide (fun W => (by have := rless_any u q W; rw [hl] at this; exact this : Calls Try.prog 11 #[.agg #[.int .u64 u.1, .int .i64 u.2.1, .int .i64 u.2.2], .agg #[.int .u64 q.1, .int .i64 q.2.1, .int .i64 q.2.2]] W fun e w' => e = .returned (.bool true) ∧ Below W.heap.size W w'))
                          have HLT := hide hl
                          have HPV : Hid (∀ j' y, j + 1 = j' + 1 → c.stats[j']? = some y → ltS y q = true) := by
                            intro j' y e hy
                            obtain rfl : j' = j := by omega
                            rw [unhide HU] at hy
                            cases hy
                            exact hl
                          clear hl
                          go_region_held3 (fun W => Below w4.heap.size w4 W ∧ W.cell? ⟨w.heap.size, 5, none⟩ = some (.slice (some ⟨b, off, none⟩) ns cs) ∧ W.cell? ⟨b, off + j * 3, none⟩ = some (.int .u64 u.1) ∧ W.cell? ⟨b, off + j * 3 + 1, none⟩ = some (.int .i64 u.2.1) ∧ W.cell? ⟨b, off + j * 3 + 2, none⟩ = some (.int .i64 u.2.2) ∧ W.cell? ⟨g, 0, none⟩ = some (.int .u64 q.1) ∧ W.cell? ⟨g, 1, none⟩ = some (.int .i64 q.2.1) ∧ W.cell? ⟨g, 2, none⟩ = some (.int .i64 q.2.2)) ((go_split_ands; refine unhide HSK _ ?_; (repeat (first | (with_reducible assumption) | exact Below.refl _ _ | (with_reducible refine Below.drew ?_) | (with_reducible refine below_drewN ?_ _) | (with_reducible refine below_alloc ?_ _)))))
                            (first | (go_at_call 11; (with_reducible refine (unhide g1 _).mono ?_); rintro e wc ⟨rfl, hbc⟩; have hbd := below_then (by (repeat (first | (with_reducible assumption) | exact Below.refl _ _ | (with_reducible refine Below.drew ?_) | (with_reducible refine below_drewN ?_ _) | (with_reducible refine below_alloc ?_ _))) : Below w4.heap.size w4 _) hbc; clear hbc))
                          all_goals
                            go_wp2
                            go_meet
                            case rel => exact ⟨by assumption, false, rfl, (show Aside (false = true → _) from fun h => by cases h), (show Aside (false = false → _) from fun _ => unhide HPV)⟩
                  obtain ⟨hb5, bb, rfl, hbad, hgood⟩ := hcut
                  have HB9 := hide (below_then (unhide HB7) hb5)
                  have HB10 := hide (below_then (unhide HB8) hb5)
                  clear hb5
                  cases bb with
                  | true =>
                    have HFF : Hid ((vlansB c && portsB c && statsB c) = false) := by
                      obtain ⟨j, u, hj, hu, hl⟩ := hbad.out rfl
                      subst hj
                      show _ = _
                      rw [show statsB c = false from by unfold statsB; rw [rg_bad hu (unhide HQ) hl]; simp, unhide HVB, unhide HPB]; rfl
                    clear hbad hgood
                    go_wp2
                    go_ret
                    exact ⟨ret_bool (unhide HFF).symm, unhide HB9⟩
                  | false =>
                    have HGD := hide (hgood.out rfl)
                    clear hbad hgood
                    go_wp2
                    go_roundw
                    case rel =>
                      refine ⟨k + 1, by omega, by go_num, unhide HB10, (show Aside _ from fun j x hj hx => ?_)⟩
                      by_cases e : j = k
                      · subst e
                        rw [unhide HQ] at hx
                        cases hx
                        exact ⟨unhide HSO, unhide HGD⟩
                      · exact unhide HM2 j x (by omega) hx
                    case measure => simp [intOf]; omega
            · have hkn : ns = k := by omega
              have hsb : statsB c = true := by
                unfold statsB
                rw [Bool.and_eq_true]
                refine ⟨all_t (fun j x hj hx => (M.out j x (by have := unhide HNS; omega) hx).1), rg_adj ltS _ fun j x y hx hy => ?_⟩
                have hj := (List.getElem?_eq_some_iff.1 hy).1
                exact (M.out (j + 1) y (by have := unhide HNS; omega) hy).2 j x rfl hx
              have HSB := hide hsb
              have hltz : ¬ (k : Int) < (ns : Int) := by omega
              obtain ⟨m5, -⟩ := heap_cell (unhide HH2) 5
              clear hsb hlt hk hkn
              go_wp2
              go_ret
              exact ⟨ret_bool (by rw [unhide HVB, unhide HPB, unhide HSB]; rfl), unhide HBW⟩
end Go.Proofs.Ytbbadncdkiganab
