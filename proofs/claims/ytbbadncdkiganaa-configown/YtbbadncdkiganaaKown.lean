/- ConfigOwn: its walk. -/
import Derived.Test.YtbbadncdkiganaaKrgl
import Derived.Test.YtbbadncdkiganaaKkcop
import Derived.Test.YtbbadncdkiganaaKcfgs
import Derived.Test.YtbbadncdkiganaaKstay
namespace Go.Proofs.Ytbbadncdkiganaa
open Go.RowKit
set_option linter.unusedVariables false
set_option maxRecDepth 4000
theorem rgood_any (c : Cfg) (Ap Av As : Option Addr) (cp cv cs : Nat) (hM : Mems c) (w : World) (hA : CfgA w c Ap Av As) :
    Calls Try.prog 15 #[.agg #[.int .i64 c.prio, .int .i64 c.age, .int .i64 c.delay, .slice Ap c.ports.length cp, .slice Av c.vlans.length cv, .slice As c.stats.length cs]] w fun e w' => e = .returned (.bool (goodB c)) ∧ Below w.heap.size w w' := by
  cases ht : treeB c with
  | false =>
    have := rgood_tree c Ap Av As cp cv cs w ht
    rw [show goodB c = false by simp [goodB, ht]]
    exact this
  | true =>
    cases hs : sizesB c with
    | false =>
      have := rgood_size c Ap Av As cp cv cs w ht hs
      rw [show goodB c = false by simp [goodB, hs]]
      exact this
    | true =>
      have := rgood_loops c Ap Av As cp cv cs hM w hA ht hs
      rw [show goodB c = (vlansB c && portsB c && statsB c) by simp [goodB, ht, hs, Bool.and_assoc]]
      exact this
/-- One round over a row of the call's own. -/
theorem own_step {α : Type} {enc : α → List Value} (h : ∀ x, (enc x).length = 3) {W : World} {B : Nat} {e : TypeId} {v : Value} {n : Nat} {l : List α} (ho : W.ownsRow B e 3 v n (fl enc l)) (hl : l.length = n) {k : Nat} (hk : k < n) :
    ∃ g cap p, v = .slice (some ⟨g, 0, none⟩) n cap ∧ B ≤ g ∧ l[k]? = some p ∧ (∀ j u, (enc p)[j]? = some u → W.cell? ⟨g, k * 3 + j, none⟩ = some u ∧ W.frozen? ⟨g, k * 3 + j, none⟩ = false) ∧
      (∀ j u p', j < 3 → enc p' = (enc p).set j u → (W.setCell ⟨g, k * 3 + j, none⟩ u).ownsRow B e 3 v n (fl enc (l.set k p'))) ∧ (∃ cs : Array Value, W.heap[g]? = some (.cells cs e (0, 0))) := by
  obtain ⟨g, cap, cur, rfl, hb, hnc, hcm, hC, htk⟩ := own_open ho (by omega)
  obtain ⟨p, hp⟩ : ∃ p, l[k]? = some p := ⟨_, List.getElem?_eq_getElem (by omega)⟩
  refine ⟨g, cap, p, rfl, hb, hp, fun j u hu => ?_, fun j u p' hj he => own_put1 h hC hb hnc hcm htk hp hj he, ⟨_, hC.heap⟩⟩
  have hj : j < 3 := by have := (List.getElem?_eq_some_iff.1 hu).1; rw [h] at this; exact this
  have hlt : k * 3 + j < n * 3 := by omega
  refine ⟨?_, hC.frozen _⟩
  rw [hC.cell, ← hu, ← fl_get h l k j p hp hj, ← htk, List.getElem?_take, if_pos hlt]
theorem edit_nil {c : Cfg} (h : goodB c = true) : editE c [] = 0 ∧ resC c [] = c := by
  have h0 : editE c [] = 0 := edit_of h (by simp) rfl (by exact h)
  exact ⟨h0, by rw [res_ok h0]; rfl⟩
theorem cown_no (c : Cfg) (Ap Av As : Option Addr) (cp cv cs : Nat) (hM : Mems c) (w : World) (hA : CfgA w c Ap Av As) (h : ¬ ((c.ports.length ≤ 20 ∧ c.vlans.length ≤ 40 ∧ c.stats.length ≤ 40) ∧ goodB c = true)) :
    Calls Try.prog 6 #[.agg (cCells c Ap Av As cp cv cs)] w fun e w' => e = .returned (.bool true) ∧ Below w.heap.size w w' := by
  have HB : Hid (Below w.heap.size w (w.alloc (.cells #[.int .i64 c.prio, .int .i64 c.age, .int .i64 c.delay, .slice Ap c.ports.length cp, .slice Av c.vlans.length cv, .slice As c.stats.length cs] 26))) := hide (below_alloc (Below.refl _ _) _)
  by_cases hf : c.ports.length ≤ 20 ∧ c.vlans.length ≤ 40 ∧ c.stats.length ≤ 40
  · have hg : goodB c = false := by
      cases hg : goodB c with
      | false => rfl
      | true => exact absurd ⟨hf, hg⟩ h
    have HF := hide (fun W => fair_t c.prio c.age c.delay Ap Av As _ _ _ cp cv cs hf W)
    have HR := hide (fun W (hW : Below w.heap.size w W) => rgood_any c Ap Av As cp cv cs hM W (hA.below hW))
    rw [hg] at HR
    have HK := hide (heap_new w (.cells #[.int .i64 c.prio, .int .i64 c.age, .int .i64 c.delay, .slice Ap c.ports.length cp, .slice Av c.vlans.length cv, .slice As c.stats.length cs] 26) _ rfl)
    clear h hf hg hA
    go_enter Try.func6, Try.ntmps6
    go_wp2_with (first
      | (go_at_call 9; (with_reducible refine (unhide HF _).mono ?_); rintro e w1 ⟨rfl, hb1⟩; have HB1 := hide (below_then (unhide HB) hb1); have hk := heap_keep (unhide HK) hb1; obtain ⟨m0, -⟩ := heap_cell hk 0; obtain ⟨m1, -⟩ := heap_cell hk 1; obtain ⟨m2, -⟩ := heap_cell hk 2; obtain ⟨m3, -⟩ := heap_cell hk 3; obtain ⟨m4, -⟩ := heap_cell hk 4; obtain ⟨m5, -⟩ := heap_cell hk 5; clear hb1 hk)
      | (go_at_call 15; (with_reducible refine (unhide HR _ (unhide HB1)).mono ?_); rintro e w3 ⟨rfl, hb3⟩; have HB3 := hide (below_then (unhide HB1) hb3); clear hb3)
      | (go_at_call 10; (with_reducible refine (wakes_any _).mono ?_); rintro e w2 ⟨rfl, hb2⟩; have HB2 := hide (below_then (unhide HB3) hb2); clear hb2))
    go_ret
    exact ⟨rfl, unhide HB2⟩
  · have HF := hide (fun W => fair_f c.prio c.age c.delay Ap Av As _ _ _ cp cv cs hf W)
    clear h hf hA
    go_enter Try.func6, Try.ntmps6
    go_wp2_with (first
      | (go_at_call 9; (with_reducible refine (unhide HF _).mono ?_); rintro e w1 ⟨rfl, hb1⟩; have HB1 := hide (below_then (unhide HB) hb1); clear hb1)
      | (go_at_call 10; (with_reducible refine (wakes_any _).mono ?_); rintro e w2 ⟨rfl, hb2⟩; have HB2 := hide (below_then (unhide HB1) hb2); clear hb2))
    go_ret
    exact ⟨rfl, unhide HB2⟩
set_option maxHeartbeats 16000000 in
theorem cown_yes (c : Cfg) (Ap Av As : Option Addr) (cp cv cs : Nat) (hL : Lens c) (hM : Mems c) (w : World) (hA : CfgA w c Ap Av As) (hf : c.ports.length ≤ 20 ∧ c.vlans.length ≤ 40 ∧ c.stats.length ≤ 40) (hg : goodB c = true) :
    Calls Try.prog 6 #[.agg (cCells c Ap Av As cp cv cs)] w fun e w' => e = .returned (.bool true) ∧ Below w.heap.size w w' := by
  have HB : Hid (Below w.heap.size w (w.alloc (.cells #[.int .i64 c.prio, .int .i64 c.age, .int .i64 c.delay, .slice Ap c.ports.length cp, .slice Av c.vlans.length cv, .slice As c.stats.length cs] 26))) := hide (below_alloc (Below.refl _ _) _)
  have HF := hide (fun W => fair_t c.prio c.age c.delay Ap Av As _ _ _ cp cv cs hf W)
  have HR := hide (fun W (hW : Below w.heap.size w W) => rgood_any c Ap Av As cp cv cs hM W (hA.below hW))
  rw [hg] at HR
  have HK := hide (heap_new w (.cells #[.int .i64 c.prio, .int .i64 c.age, .int .i64 c.delay, .slice Ap c.ports.length cp, .slice Av c.vlans.length cv, .slice As c.stats.length cs] 26) _ rfl)
  have KC := hide (fun W (hW : Below w.heap.size w W) => kcopy_any c Ap Av As cp cv cs (by omega) (by omega) (by omega) W (hA.below hW))
  have CC := hide (fun W (hW : Below w.heap.size w W) => copy_any c Ap Av As cp cv cs (by omega) (by omega) (by omega) W (hA.below hW))
  have ED := hide (fun W (hW : Below w.heap.size w W) => by
    have := edit_uni c [] Ap Av As none cp cv cs 0 hL hM W (hA.below hW) (rowA_nil _ _) (Nat.zero_le _) (by simp)
    rw [(edit_nil hg).1, (edit_nil hg).2, show ([] : List Ed).length = 0 from rfl] at this
    exact this)
  have HAA := hide hA
  have HLL := hide hL
  have hs := sizes_lim (c := c) (by
    cases h : sizesB c with
    | true => rfl
    | false => have : goodB c = false := by simp [goodB, h]
               rw [this] at hg; cases hg)
  have HSZ := hide hs
  obtain ⟨u1, u2, u3⟩ := hf
  clear hg hA hL hM hs
  go_enter Try.func6, Try.ntmps6
  go_upto_region 4 with (first
    | (go_at_call 9; (with_reducible refine (unhide HF _).mono ?_); rintro e w1 ⟨rfl, hb1⟩; have HB1 := hide (below_then (unhide HB) hb1); have hk := heap_keep (unhide HK) hb1; have HK1 := hide hk; obtain ⟨m0, -⟩ := heap_cell hk 0; obtain ⟨m1, -⟩ := heap_cell hk 1; obtain ⟨m2, -⟩ := heap_cell hk 2; obtain ⟨m3, -⟩ := heap_cell hk 3; obtain ⟨m4, -⟩ := heap_cell hk 4; obtain ⟨m5, -⟩ := heap_cell hk 5; clear hb1 hk)
    | (go_at_call 15; (with_reducible refine (unhide HR _ (unhide HB1)).mono ?_); rintro e w2 ⟨rfl, hb2⟩; have HB2 := hide (below_then (unhide HB1) hb2); have hk := heap_keep (unhide HK1) hb2; have HK2 := hide hk; obtain ⟨m0, -⟩ := heap_cell hk 0; obtain ⟨m1, -⟩ := heap_cell hk 1; obtain ⟨m2, -⟩ := heap_cell hk 2; obtain ⟨m3, -⟩ := heap_cell hk 3; obtain ⟨m4, -⟩ := heap_cell hk 4; obtain ⟨m5, -⟩ := heap_cell hk 5; clear hb2 hk)
    | (go_at_call 18; (with_reducible refine (unhide KC _ (unhide HB2)).mono ?_); rintro e w3 ⟨vp, vv, vs, rfl, ho, hb3⟩; obtain ⟨Bp, Bv, Bs, b1, b2, b3, rfl, rfl, rfl, hBA⟩ := ho.open; have HB3 := hide (below_then (unhide HB2) hb3); have HK3 := hide (heap_keep (unhide HK2) hb3); have HBA := hide hBA; clear hb3 ho hBA m0 m1 m2 m3 m4 m5))
  have HW4 := hide (heap_new w3 (.cells #[.int .i64 c.prio, .int .i64 c.age, .int .i64 c.delay, .slice Bp c.ports.length b1, .slice Bv c.vlans.length b2, .slice Bs c.stats.length b3] 26) _ rfl)
  have HB4 := hide (below_alloc (unhide HB3) (.cells #[.int .i64 c.prio, .int .i64 c.age, .int .i64 c.delay, .slice Bp c.ports.length b1, .slice Bv c.vlans.length b2, .slice Bs c.stats.length b3] 26))
  have HK4 := hide (heap_keep (unhide HK3) (below_alloc (Below.refl _ _) (.cells #[.int .i64 c.prio, .int .i64 c.age, .int .i64 c.delay, .slice Bp c.ports.length b1, .slice Bv c.vlans.length b2, .slice Bs c.stats.length b3] 26)))
  have HBA4 := hide ((unhide HBA).below (below_alloc (Below.refl _ _) (.cells #[.int .i64 c.prio, .int .i64 c.age, .int .i64 c.delay, .slice Bp c.ports.length b1, .slice Bv c.vlans.length b2, .slice Bs c.stats.length b3] 26)))
  generalize w3.alloc (.cells #[.int .i64 c.prio, .int .i64 c.age, .int .i64 c.delay, .slice Bp c.ports.length b1, .slice Bv c.vlans.length b2, .slice Bs c.stats.length b3] 26) = w4 at *
  generalize w3.heap.size = g3 at *
  have hk := unhide HK4
  obtain ⟨m0, -⟩ := heap_cell hk 0; obtain ⟨m1, -⟩ := heap_cell hk 1; obtain ⟨m2, -⟩ := heap_cell hk 2; obtain ⟨m3, -⟩ := heap_cell hk 3; obtain ⟨m4, -⟩ := heap_cell hk 4; obtain ⟨m5, -⟩ := heap_cell hk 5; clear hk
  go_upto_region 5 with (first
    | (go_at_call 13; (with_reducible refine (unhide CC _ (unhide HB4)).mono ?_); rintro e w5 ⟨vp, vv, vs, rfl, ho, hb5⟩; obtain ⟨Xp, Xv, Xs, x1, x2, x3, rfl, rfl, rfl, -⟩ := ho.open; have HX5 := hide ho.1; have HB5 := hide hb5; clear hb5 ho m0 m1 m2 m3 m4 m5))
  have HX6 := hide (heap_new w5 (.cells #[.int .i64 c.prio, .int .i64 c.age, .int .i64 c.delay, .slice Xp c.ports.length x1, .slice Xv c.vlans.length x2, .slice Xs c.stats.length x3] 26) _ rfl)
  have HO6 := hide ((unhide HX5).alloc (.cells #[.int .i64 c.prio, .int .i64 c.age, .int .i64 c.delay, .slice Xp c.ports.length x1, .slice Xv c.vlans.length x2, .slice Xs c.stats.length x3] 26))
  have HB6 := hide (below_alloc (unhide HB5) (.cells #[.int .i64 c.prio, .int .i64 c.age, .int .i64 c.delay, .slice Xp c.ports.length x1, .slice Xv c.vlans.length x2, .slice Xs c.stats.length x3] 26))
  have hg6 : w4.heap.size ≤ w5.heap.size := (unhide HB5).size
  generalize w5.alloc (.cells #[.int .i64 c.prio, .int .i64 c.age, .int .i64 c.delay, .slice Xp c.ports.length x1, .slice Xv c.vlans.length x2, .slice Xs c.stats.length x3] 26) = w6 at *
  generalize w5.heap.size = g5 at *
  have hk := heap_keep (unhide HK4) (unhide HB6)
  obtain ⟨m0, -⟩ := heap_cell hk 0; obtain ⟨m1, -⟩ := heap_cell hk 1; obtain ⟨m2, -⟩ := heap_cell hk 2; obtain ⟨m3, -⟩ := heap_cell hk 3; obtain ⟨m4, -⟩ := heap_cell hk 4; obtain ⟨m5, -⟩ := heap_cell hk 5; clear hk
  clear HX5 HB5
  go_upto_region 6 with (first
    | (go_at_call 19; (with_reducible refine (unhide ED _ (below_then (unhide HB4) (unhide HB6))).mono ?_); rintro e w7 ⟨hb7, Yp, y1, Yv, y2, Ys, y3, rfl, hoy⟩; have HY7 := hide hoy; have HB7 := hide hb7; clear hb7 hoy m0 m1 m2 m3 m4 m5))
  have HY8 := hide (heap_new w7 (.cells #[.int .i64 c.prio, .int .i64 c.age, .int .i64 c.delay, .slice Yp c.ports.length y1, .slice Yv c.vlans.length y2, .slice Ys c.stats.length y3] 26) _ rfl)
  have HB67 := hide (below_alloc (unhide HB7) (.cells #[.int .i64 c.prio, .int .i64 c.age, .int .i64 c.delay, .slice Yp c.ports.length y1, .slice Yv c.vlans.length y2, .slice Ys c.stats.length y3] 26))
  have HYO := hide ((unhide HY7).below (below_alloc (Below.refl _ _) (.cells #[.int .i64 c.prio, .int .i64 c.age, .int .i64 c.delay, .slice Yp c.ports.length y1, .slice Yv c.vlans.length y2, .slice Ys c.stats.length y3] 26)))
  have HX8 := hide (heap_keep (unhide HX6) (unhide HB67))
  have HO8 := hide (own_below (unhide HO6) (unhide HB67))
  have hg8 : w6.heap.size ≤ w7.heap.size := (unhide HB7).size
  have h46 : w4.heap.size ≤ w6.heap.size := (unhide HB6).size
  have HB48 := hide (below_then (unhide HB6) (unhide HB67))
  generalize w7.alloc (.cells #[.int .i64 c.prio, .int .i64 c.age, .int .i64 c.delay, .slice Yp c.ports.length y1, .slice Yv c.vlans.length y2, .slice Ys c.stats.length y3] 26) = w8 at *
  generalize w7.heap.size = g7 at *
  clear HY7 HB7 HB67 HX6 HO6 HB6
  have hk := heap_keep (unhide HK4) (unhide HB48)
  obtain ⟨m3, -⟩ := heap_cell hk 3
  obtain ⟨m4, -⟩ := heap_cell hk 4
  obtain ⟨m5, -⟩ := heap_cell hk 5
  clear hk
  obtain ⟨p3, -⟩ := heap_cell (unhide HX8) 3
  obtain ⟨q4, -⟩ := heap_cell (unhide HY8) 4
  obtain ⟨q5, -⟩ := heap_cell (unhide HY8) 5
  go_upto_region 8 with fail
  clear m3 m4 m5 p3 q4 q5
  have HYV := hide (unhide HYO).2.1
  have HYS := hide (unhide HYO).2.2
  have hN1 : (∃ l : List PortC, l.length = c.ports.length ∧ w8.ownsRow w4.heap.size 50 3 (.slice Xp c.ports.length x1) c.ports.length (fl encP l)) := ⟨_, rfl, unhide HO8⟩
  have hN2 : (∃ l : List VlanC, l.length = c.vlans.length ∧ w8.ownsRow w6.heap.size 46 3 (.slice Yv c.vlans.length y2) c.vlans.length (fl encV l)) := ⟨_, rfl, unhide HYV⟩
  have hN3 : (∃ l : List StatC, l.length = c.stats.length ∧ w8.ownsRow w6.heap.size 52 3 (.slice Ys c.stats.length y3) c.stats.length (fl encS l)) := ⟨_, rfl, unhide HYS⟩
  have HN1 := hide hN1
  have HN2 := hide hN2
  have HN3 := hide hN3
  have HCT := hide (fun W (hW : Below w4.heap.size w4 W) => configs_t c Ap Av As Bp Bv Bs cp cv cs b1 b2 b3 (unhide HLL) W ((unhide HAA).below (below_then (unhide HB4) hW)) ((unhide HBA4).below hW))
  clear HYO HO8 HYV HYS hN1 hN2 hN3 HAA HBA4 HLL HBA KC CC ED HR HF
  generalize c.ports.length = np at *
  generalize c.vlans.length = nv at *
  generalize c.stats.length = ns at *
  go_wp2
  go_loopw [7] (fun i W => ∃ k : Nat, k ≤ np ∧ i = .int .i64 k ∧ Aside (Below w4.heap.size w4 W) ∧ Aside (W.heap[g5]? = some (.cells #[.int .i64 c.prio, .int .i64 c.age, .int .i64 c.delay, .slice Xp np x1, .slice Xv nv x2, .slice Xs ns x3] 26 (0, 0))) ∧ Aside (W.heap[g7]? = some (.cells #[.int .i64 c.prio, .int .i64 c.age, .int .i64 c.delay, .slice Yp np y1, .slice Yv nv y2, .slice Ys ns y3] 26 (0, 0))) ∧ Aside (∃ l : List PortC, l.length = np ∧ W.ownsRow w4.heap.size 50 3 (.slice Xp np x1) np (fl encP l)) ∧ Aside (∃ l : List VlanC, l.length = nv ∧ W.ownsRow w6.heap.size 46 3 (.slice Yv nv y2) nv (fl encV l)) ∧ Aside (∃ l : List StatC, l.length = ns ∧ W.ownsRow w6.heap.size 52 3 (.slice Ys ns y3) ns (fl encS l))) (fun i _ => np - (intOf i).toNat)
  case atStart => exact ⟨0, Nat.zero_le _, rfl, unhide HB48, unhide HX8, unhide HY8, unhide HN1, unhide HN2, unhide HN3⟩
  case round =>
    obtain ⟨k, hk, rfl, BW, AX, AY, AP, AV, AS⟩ := hrel
    obtain ⟨p3, -⟩ := heap_cell AX.out 3
    by_cases hlt : k < np
    · have hltz : (k : Int) < (np : Int) := by omega
      obtain ⟨l, hl, ho⟩ := AP.out
      obtain ⟨g, cap, q, hv, hgB, hq, hcell, hset, hcs⟩ := own_step encP_len ho hl hlt
      cases hv
      obtain ⟨z1, f1⟩ := hcell 1 _ rfl
      have HSET := hide hset
      have HGB := hide hgB
      have HCS := hide hcs
      have HLEN := hide hl
      clear hcell hset ho hq hcs hl
      go_wp2
      go_roundw
      case rel =>
        obtain ⟨cs', hcs'⟩ := unhide HCS
        have e5 : g5 ≠ g := by intro e; subst e; have := AX.out; rw [hcs'] at this; cases this
        have e7 : g7 ≠ g := by intro e; subst e; have := AY.out; rw [hcs'] at this; cases this
        obtain ⟨lv, hlv, hov⟩ := AV.out
        obtain ⟨ls, hls, hos⟩ := AS.out
        exact ⟨k + 1, by omega, by go_num, below_set BW.out _ _ _ (unhide HGB), heap_setC AX.out e5 _ _, heap_setC AY.out e7 _ _, ⟨l.set k (q.1, (q.2.1 + 1) % 4294967296, q.2.2), by rw [List.length_set]; exact unhide HLEN, unhide HSET 1 _ _ (by omega) rfl⟩, ⟨lv, hlv, own_set_other hov (own_ne hov hcs' (by decide)) _ _⟩, ⟨ls, hls, own_set_other hos (own_ne hos hcs' (by decide)) _ _⟩⟩
      case measure => simp [intOf]; omega
    · have hkn : np = k := by omega
      have hltz : ¬ (k : Int) < (np : Int) := by omega
      clear hlt hk hkn
      go_wp2
      clear hltz p3
      go_loopw [8] (fun i W => ∃ k : Nat, k ≤ nv ∧ i = .int .i64 k ∧ Aside (Below w4.heap.size w4 W) ∧ Aside (W.heap[g7]? = some (.cells #[.int .i64 c.prio, .int .i64 c.age, .int .i64 c.delay, .slice Yp np y1, .slice Yv nv y2, .slice Ys ns y3] 26 (0, 0))) ∧ Aside (∃ l : List VlanC, l.length = nv ∧ W.ownsRow w6.heap.size 46 3 (.slice Yv nv y2) nv (fl encV l)) ∧ Aside (∃ l : List StatC, l.length = ns ∧ W.ownsRow w6.heap.size 52 3 (.slice Ys ns y3) ns (fl encS l))) (fun i _ => nv - (intOf i).toNat)
      case atStart => exact ⟨0, Nat.zero_le _, rfl, BW.out, AY.out, AV.out, AS.out⟩
      clear BW AX AY AP AV AS
      case round =>
        obtain ⟨k, hk, rfl, BW, AY, AV, AS⟩ := hrel
        obtain ⟨p4, -⟩ := heap_cell AY.out 4
        by_cases hlt : k < nv
        · have hltz : (k : Int) < (nv : Int) := by omega
          obtain ⟨l, hl, ho⟩ := AV.out
          obtain ⟨g, cap, q, hv, hgB, hq, hcell, hset, hcs⟩ := own_step encV_len ho hl hlt
          cases hv
          obtain ⟨z1, f1⟩ := hcell 1 _ rfl
          have HSET := hide hset
          have HGB := hide hgB
          have HCS := hide hcs
          have HLEN := hide hl
          clear hcell hset ho hq hcs hl
          go_wp2
          go_roundw
          case rel =>
            obtain ⟨cs', hcs'⟩ := unhide HCS
            have e7 : g7 ≠ g := by intro e; subst e; have := AY.out; rw [hcs'] at this; cases this
            obtain ⟨ls, hls, hos⟩ := AS.out
            exact ⟨k + 1, by omega, by go_num, below_set BW.out _ _ _ (by have := unhide HGB; omega), heap_setC AY.out e7 _ _, ⟨l.set k (q.1, 77, q.2.2), by rw [List.length_set]; exact unhide HLEN, unhide HSET 1 _ _ (by omega) rfl⟩, ⟨ls, hls, own_set_other hos (own_ne hos hcs' (by decide)) _ _⟩⟩
          case measure => simp [intOf]; omega
        · have hkn : nv = k := by omega
          have hltz : ¬ (k : Int) < (nv : Int) := by omega
          clear hlt hk hkn
          go_wp2
          clear hltz p4
          go_loopw [9] (fun i W => ∃ k : Nat, k ≤ ns ∧ i = .int .i64 k ∧ Aside (Below w4.heap.size w4 W) ∧ Aside (W.heap[g7]? = some (.cells #[.int .i64 c.prio, .int .i64 c.age, .int .i64 c.delay, .slice Yp np y1, .slice Yv nv y2, .slice Ys ns y3] 26 (0, 0))) ∧ Aside (∃ l : List StatC, l.length = ns ∧ W.ownsRow w6.heap.size 52 3 (.slice Ys ns y3) ns (fl encS l))) (fun i _ => ns - (intOf i).toNat)
          case atStart => exact ⟨0, Nat.zero_le _, rfl, BW.out, AY.out, AS.out⟩
          clear BW AY AV AS
          case round =>
            obtain ⟨k, hk, rfl, BW, AY, AS⟩ := hrel
            obtain ⟨p5, -⟩ := heap_cell AY.out 5
            by_cases hlt : k < ns
            · have hltz : (k : Int) < (ns : Int) := by omega
              obtain ⟨l, hl, ho⟩ := AS.out
              obtain ⟨g, cap, q, hv, hgB, hq, hcell, hset, hcs⟩ := own_step encS_len ho hl hlt
              cases hv
              obtain ⟨z2, f2⟩ := hcell 2 _ rfl
              have HSET := hide hset
              have HGB := hide hgB
              have HCS := hide hcs
              have HLEN := hide hl
              clear hcell hset ho hq hcs hl
              go_wp2
              go_roundw
              case rel =>
                obtain ⟨cs', hcs'⟩ := unhide HCS
                have e7 : g7 ≠ g := by intro e; subst e; have := AY.out; rw [hcs'] at this; cases this
                exact ⟨k + 1, by omega, by go_num, below_set BW.out _ _ _ (by have := unhide HGB; omega), heap_setC AY.out e7 _ _, ⟨l.set k (q.1, q.2.1, 99), by rw [List.length_set]; exact unhide HLEN, unhide HSET 2 _ _ (by omega) rfl⟩⟩
              case measure => simp [intOf]; omega
            · have hkn : ns = k := by omega
              have hltz : ¬ (k : Int) < (ns : Int) := by omega
              have hk1 := heap_keep (unhide HK4) BW.out
              have hk2 := heap_keep (unhide HW4) BW.out
              obtain ⟨m0, -⟩ := heap_cell hk1 0
              obtain ⟨m1, -⟩ := heap_cell hk1 1
              obtain ⟨m2, -⟩ := heap_cell hk1 2
              obtain ⟨m3, -⟩ := heap_cell hk1 3
              obtain ⟨m4, -⟩ := heap_cell hk1 4
              obtain ⟨m5, -⟩ := heap_cell hk1 5
              obtain ⟨n0, -⟩ := heap_cell hk2 0
              obtain ⟨n1, -⟩ := heap_cell hk2 1
              obtain ⟨n2, -⟩ := heap_cell hk2 2
              obtain ⟨n3, -⟩ := heap_cell hk2 3
              obtain ⟨n4, -⟩ := heap_cell hk2 4
              obtain ⟨n5, -⟩ := heap_cell hk2 5
              clear hlt hk hkn hk1 hk2
              go_wp2_with (first
                | (go_at_call 17; (with_reducible refine (unhide HCT _ BW.out).mono ?_); rintro e wc ⟨rfl, hbc⟩; have HBC := hide (below_then (unhide HB4) (below_then BW.out hbc)); clear hbc)
                | (go_at_call 10; (with_reducible refine (wakes_any _).mono ?_); rintro e wd ⟨rfl, hbd⟩; have HBD := hide (below_then (unhide HBC) hbd); clear hbd))
              go_ret
              exact ⟨rfl, unhide HBD⟩
end Go.Proofs.Ytbbadncdkiganaa
