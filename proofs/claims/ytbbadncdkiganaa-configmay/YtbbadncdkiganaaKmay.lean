/- ConfigMay: its walk. -/
import Derived.Test.YtbbadncdkiganaaKown
import Derived.Test.YtbbadncdkiganaaKrfst
import Derived.Test.YtbbadncdkiganaaKcfga
namespace Go.Proofs.Ytbbadncdkiganaa
open Go.RowKit
set_option linter.unusedVariables false
set_option maxRecDepth 4000
def fR (n : Int) : Cfg := if 1 ≤ n ∧ n ≤ 8 then firstC n.toNat else nilC
def fE (n : Int) : Int := if 1 ≤ n ∧ n ≤ 8 then 0 else 1
theorem first_uni (n : Int) (W : World) : Calls Try.prog 11 #[.int .i64 n] W (EdP (fR n) (fE n) W) := by
  by_cases h : 1 ≤ n ∧ n ≤ 8
  · obtain ⟨k, rfl⟩ := Int.eq_ofNat_of_zero_le (show 0 ≤ n by omega)
    rw [show fR (k : Int) = firstC k from by unfold fR; rw [if_pos h]; rfl, show fE (k : Int) = 0 from if_pos h]
    refine (first_yes k (by omega) (by omega) W).mono ?_
    rintro e w' ⟨Ap, cp, Av, cv, rfl, ho, hb⟩
    refine ⟨hb, Ap, cp, Av, cv, none, 0, ?_, ?_⟩
    · show _ = Ending.returned (.tuple #[.agg #[_, _, _, .slice Ap (List.replicate k ((true, 20000, 1) : PortC)).length cp, _, _], _])
      rw [List.length_replicate]; rfl
    · show CfgO w' W.heap.size (firstC k) (.slice Ap (List.replicate k ((true, 20000, 1) : PortC)).length cp) _ _
      rw [List.length_replicate]; exact ho
  · rw [show fR n = nilC from if_neg h, show fE n = 1 from if_neg h]
    refine (first_no n (by omega) W).mono ?_
    rintro e w' ⟨rfl, hb⟩
    exact ⟨hb, none, 0, none, 0, none, 0, rfl, World.ownsRow_nil _ _ _ _, World.ownsRow_nil _ _ _ _, World.ownsRow_nil _ _ _ _⟩
theorem rfirst_uni (n : Int) (W : World) : Calls Try.prog 12 #[.int .i64 n] W (EdP (fR n) (fE n) W) := by
  by_cases h : 1 ≤ n ∧ n ≤ 8
  · obtain ⟨k, rfl⟩ := Int.eq_ofNat_of_zero_le (show 0 ≤ n by omega)
    rw [show fR (k : Int) = firstC k from by unfold fR; rw [if_pos h]; rfl, show fE (k : Int) = 0 from if_pos h]
    refine (rfirst_yes k (by omega) (by omega) W).mono ?_
    rintro e w' ⟨Ap, cp, Av, cv, rfl, ho, hb⟩
    refine ⟨hb, Ap, cp, Av, cv, none, 0, ?_, ?_⟩
    · show _ = Ending.returned (.tuple #[.agg #[_, _, _, .slice Ap (List.replicate k ((true, 20000, 1) : PortC)).length cp, _, _], _])
      rw [List.length_replicate]; rfl
    · show CfgO w' W.heap.size (firstC k) (.slice Ap (List.replicate k ((true, 20000, 1) : PortC)).length cp) _ _
      rw [List.length_replicate]; exact ho
  · rw [show fR n = nilC from if_neg h, show fE n = 1 from if_neg h]
    refine (rfirst_no n (by omega) W).mono ?_
    rintro e w' ⟨rfl, hb⟩
    exact ⟨hb, none, 0, none, 0, none, 0, rfl, World.ownsRow_nil _ _ _ _, World.ownsRow_nil _ _ _ _, World.ownsRow_nil _ _ _ _⟩
abbrev FairC (c : Cfg) : Prop := c.ports.length ≤ 20 ∧ c.vlans.length ≤ 40 ∧ c.stats.length ≤ 40
set_option maxHeartbeats 4000000 in
theorem may_no (c d : Cfg) (n : Int) (Ap Av As Dp Dv Ds : Option Addr) (cp cv cs dp dv ds : Nat) (w : World) (h : ¬ (FairC c ∧ FairC d)) :
    Calls Try.prog 3 #[.agg (cCells c Ap Av As cp cv cs), .agg (cCells d Dp Dv Ds dp dv ds), .int .i64 n] w fun e w' => e = .returned (.bool true) ∧ Below w.heap.size w w' := by
  have HB : Hid (Below w.heap.size w ((w.alloc (.cells (cCells c Ap Av As cp cv cs) 26)).alloc (.cells (cCells d Dp Dv Ds dp dv ds) 26))) := hide (below_alloc (below_alloc (Below.refl _ _) _) _)
  by_cases hf : FairC c
  · have hd : ¬ FairC d := fun e => h ⟨hf, e⟩
    have HF := hide (fun W => fair_t c.prio c.age c.delay Ap Av As _ _ _ cp cv cs hf W)
    have HG := hide (fun W => fair_f d.prio d.age d.delay Dp Dv Ds _ _ _ dp dv ds hd W)
    have HK : Hid (((w.alloc (.cells (cCells c Ap Av As cp cv cs) 26)).alloc (.cells (cCells d Dp Dv Ds dp dv ds) 26)).heap[w.heap.size + 1]? = some (.cells (cCells d Dp Dv Ds dp dv ds) 26 (0, 0))) := hide (heap_new _ _ _ (by simp))
    clear h hf hd
    go_enter Try.func3, Try.ntmps3
    go_wp2_with (first
      | (go_at_call 9; (with_reducible refine (unhide HF _).mono ?_); rintro e w1 ⟨rfl, hb1⟩; have HB1 := hide (below_then (unhide HB) hb1); have hk := heap_keep (unhide HK) hb1; obtain ⟨m0, -⟩ := heap_cell hk 0; obtain ⟨m1, -⟩ := heap_cell hk 1; obtain ⟨m2, -⟩ := heap_cell hk 2; obtain ⟨m3, -⟩ := heap_cell hk 3; obtain ⟨m4, -⟩ := heap_cell hk 4; obtain ⟨m5, -⟩ := heap_cell hk 5; clear hb1 hk)
      | (go_at_call 9; (with_reducible refine (unhide HG _).mono ?_); rintro e w3 ⟨rfl, hb3⟩; have HB3 := hide (below_then (unhide HB1) hb3); clear hb3)
      | (go_at_call 10; (with_reducible refine (wakes_any _).mono ?_); rintro e w2 ⟨rfl, hb2⟩; have HB2 := hide (below_then (unhide HB3) hb2); clear hb2))
    go_ret
    exact ⟨rfl, unhide HB2⟩
  · have HF := hide (fun W => fair_f c.prio c.age c.delay Ap Av As _ _ _ cp cv cs hf W)
    clear h hf
    go_enter Try.func3, Try.ntmps3
    go_wp2_with (first
      | (go_at_call 9; (with_reducible refine (unhide HF _).mono ?_); rintro e w1 ⟨rfl, hb1⟩; have HB1 := hide (below_then (unhide HB) hb1); clear hb1)
      | (go_at_call 10; (with_reducible refine (wakes_any _).mono ?_); rintro e w2 ⟨rfl, hb2⟩; have HB2 := hide (below_then (unhide HB1) hb2); clear hb2))
    go_ret
    exact ⟨rfl, unhide HB2⟩
set_option maxHeartbeats 32000000 in
theorem may_yes (c d : Cfg) (n : Int) (Ap Av As Dp Dv Ds : Option Addr) (cp cv cs dp dv ds : Nat) (hL : Lens c) (hM : Mems c) (hL2 : Lens d) (w : World) (hA : CfgA w c Ap Av As) (hD : CfgA w d Dp Dv Ds) (hf : FairC c) (hfd : FairC d) :
    Calls Try.prog 3 #[.agg (cCells c Ap Av As cp cv cs), .agg (cCells d Dp Dv Ds dp dv ds), .int .i64 n] w fun e w' => e = .returned (.bool true) ∧ Below w.heap.size w w' := by
  have HB : Hid (Below w.heap.size w ((w.alloc (.cells #[.int .i64 c.prio, .int .i64 c.age, .int .i64 c.delay, .slice Ap c.ports.length cp, .slice Av c.vlans.length cv, .slice As c.stats.length cs] 26)).alloc (.cells #[.int .i64 d.prio, .int .i64 d.age, .int .i64 d.delay, .slice Dp d.ports.length dp, .slice Dv d.vlans.length dv, .slice Ds d.stats.length ds] 26))) := hide (below_alloc (below_alloc (Below.refl _ _) _) _)
  have HC : Hid (((w.alloc (.cells #[.int .i64 c.prio, .int .i64 c.age, .int .i64 c.delay, .slice Ap c.ports.length cp, .slice Av c.vlans.length cv, .slice As c.stats.length cs] 26)).alloc (.cells #[.int .i64 d.prio, .int .i64 d.age, .int .i64 d.delay, .slice Dp d.ports.length dp, .slice Dv d.vlans.length dv, .slice Ds d.stats.length ds] 26)).heap[w.heap.size]? = some (.cells #[.int .i64 c.prio, .int .i64 c.age, .int .i64 c.delay, .slice Ap c.ports.length cp, .slice Av c.vlans.length cv, .slice As c.stats.length cs] 26 (0, 0))) := hide (heap_keep (heap_new w _ _ rfl) (below_alloc (Below.refl _ _) _))
  have HD : Hid (((w.alloc (.cells #[.int .i64 c.prio, .int .i64 c.age, .int .i64 c.delay, .slice Ap c.ports.length cp, .slice Av c.vlans.length cv, .slice As c.stats.length cs] 26)).alloc (.cells #[.int .i64 d.prio, .int .i64 d.age, .int .i64 d.delay, .slice Dp d.ports.length dp, .slice Dv d.vlans.length dv, .slice Ds d.stats.length ds] 26)).heap[w.heap.size + 1]? = some (.cells #[.int .i64 d.prio, .int .i64 d.age, .int .i64 d.delay, .slice Dp d.ports.length dp, .slice Dv d.vlans.length dv, .slice Ds d.stats.length ds] 26 (0, 0))) := hide (heap_new _ _ _ (by simp))
  have HF1 := hide (fun W => fair_t c.prio c.age c.delay Ap Av As _ _ _ cp cv cs hf W)
  have HF2 := hide (fun W => fair_t d.prio d.age d.delay Dp Dv Ds _ _ _ dp dv ds hfd W)
  have F1 := hide (fun W => first_uni n W)
  have F2 := hide (fun W => rfirst_uni n W)
  have hRL : Lens (fR n) := by
    unfold fR
    by_cases h : 1 ≤ n ∧ n ≤ 8
    · rw [if_pos h]
      refine ⟨?_, ?_, ?_⟩
      · show (List.replicate n.toNat ((true, 20000, 1) : PortC)).length ≤ maxLen
        rw [List.length_replicate]; unfold maxLen; omega
      · exact maxLen_ge _ (by show 1 ≤ _; omega)
      · exact Nat.zero_le _
    · rw [if_neg h]; exact ⟨Nat.zero_le _, Nat.zero_le _, Nat.zero_le _⟩
  have HRL := hide hRL
  generalize fR n = R at *
  generalize fE n = en at *
  have CC := hide (fun W (hW : Below w.heap.size w W) => copy_any c Ap Av As cp cv cs (by omega) (by omega) (by omega) W (hA.below hW))
  have K14 := hide (fun W (hW : Below w.heap.size w W) => good_any c Ap Av As cp cv cs hL hM W (hA.below hW))
  have K15 := hide (fun W (hW : Below w.heap.size w W) => rgood_any c Ap Av As cp cv cs hM W (hA.below hW))
  have K16 := hide (fun W (hW : Below w.heap.size w W) => same_any c d Ap Av As Dp Dv Ds cp cv cs dp dv ds hL hL2 W (hA.below hW) (hD.below hW))
  have K17 := hide (fun W (hW : Below w.heap.size w W) => configs_any c d Ap Av As Dp Dv Ds cp cv cs dp dv ds hL hL2 W (hA.below hW) (hD.below hW))
  have HAA := hide hA
  have HLL := hide hL
  generalize goodB c = t1 at *
  generalize sameB c d = t2 at *
  clear hA hD hL hL2 hM hf hfd hRL
  go_enter Try.func3, Try.ntmps3
  go_upto_region 4 with (first
    | (go_at_call 9; (with_reducible refine (unhide HF1 _).mono ?_); rintro e w3 ⟨rfl, hb3⟩; have HB3 := hide (below_then (unhide HB) hb3); have hk := heap_keep (unhide HD) hb3; have HC3 := hide (heap_keep (unhide HC) hb3); have HD3 := hide hk; obtain ⟨d0, -⟩ := heap_cell hk 0; obtain ⟨d1, -⟩ := heap_cell hk 1; obtain ⟨d2, -⟩ := heap_cell hk 2; obtain ⟨d3, -⟩ := heap_cell hk 3; obtain ⟨d4, -⟩ := heap_cell hk 4; obtain ⟨d5, -⟩ := heap_cell hk 5; clear hb3 hk)
    | (go_at_call 9; (with_reducible refine (unhide HF2 _).mono ?_); rintro e w4 ⟨rfl, hb4⟩; have HB4 := hide (below_then (unhide HB3) hb4); have HC4 := hide (heap_keep (unhide HC3) hb4); have HD4 := hide (heap_keep (unhide HD3) hb4); clear hb4 d0 d1 d2 d3 d4 d5)
    | (go_at_call 11; (with_reducible refine (unhide F1 _).mono ?_); rintro e w5 ⟨hb5, Fp, f1, Fv, f2, Fs, f3, rfl, ho⟩; have HB5 := hide (below_then (unhide HB4) hb5); have HFO := hide ho.adr; have HC5 := hide (heap_keep (unhide HC4) hb5); have HD5 := hide (heap_keep (unhide HD4) hb5); clear hb5 ho))
  have HF6 := hide (heap_new w5 (.cells #[.int .i64 R.prio, .int .i64 R.age, .int .i64 R.delay, .slice Fp R.ports.length f1, .slice Fv R.vlans.length f2, .slice Fs R.stats.length f3] 26) _ rfl)
  have hb6 := below_alloc (Below.refl w5.heap.size w5) (.cells #[.int .i64 R.prio, .int .i64 R.age, .int .i64 R.delay, .slice Fp R.ports.length f1, .slice Fv R.vlans.length f2, .slice Fs R.stats.length f3] 26)
  have HB6 := hide (below_then (unhide HB5) hb6)
  have HFO6 := hide ((unhide HFO).below hb6)
  have HC6 := hide (heap_keep (unhide HC5) hb6)
  have HD6 := hide (heap_keep (unhide HD5) hb6)
  clear hb6 HB3 HB4 HB5 HC3 HC4 HC5 HD3 HD4 HD5 HFO
  generalize w5.alloc (.cells #[.int .i64 R.prio, .int .i64 R.age, .int .i64 R.delay, .slice Fp R.ports.length f1, .slice Fv R.vlans.length f2, .slice Fs R.stats.length f3] 26) = w6 at *
  generalize w5.heap.size = g5 at *
  go_upto_region 5 with (first
    | (go_at_call 12; (with_reducible refine (unhide F2 _).mono ?_); rintro e w7 ⟨hb7, Gp, g1, Gv, g2, Gs, g3, rfl, ho⟩; have HB7 := hide (below_then (unhide HB6) hb7); have HF7 := hide (heap_keep (unhide HF6) hb7); have HFO7 := hide ((unhide HFO6).below hb7); have HGO := hide ho.adr; have HC7 := hide (heap_keep (unhide HC6) hb7); have HD7 := hide (heap_keep (unhide HD6) hb7); clear hb7 ho))
  have HG8 := hide (heap_new w7 (.cells #[.int .i64 R.prio, .int .i64 R.age, .int .i64 R.delay, .slice Gp R.ports.length g1, .slice Gv R.vlans.length g2, .slice Gs R.stats.length g3] 26) _ rfl)
  have hb8 := below_alloc (Below.refl w7.heap.size w7) (.cells #[.int .i64 R.prio, .int .i64 R.age, .int .i64 R.delay, .slice Gp R.ports.length g1, .slice Gv R.vlans.length g2, .slice Gs R.stats.length g3] 26)
  have HB8 := hide (below_then (unhide HB7) hb8)
  have HF8 := hide (heap_keep (unhide HF7) hb8)
  have HFO8 := hide ((unhide HFO7).below hb8)
  have HGO8 := hide ((unhide HGO).below hb8)
  have HC8 := hide (heap_keep (unhide HC7) hb8)
  have HD8 := hide (heap_keep (unhide HD7) hb8)
  clear hb8 HB6 HB7 HC6 HC7 HD6 HD7 HF6 HF7 HFO6 HFO7 HGO
  generalize w7.alloc (.cells #[.int .i64 R.prio, .int .i64 R.age, .int .i64 R.delay, .slice Gp R.ports.length g1, .slice Gv R.vlans.length g2, .slice Gs R.stats.length g3] 26) = w8 at *
  generalize w7.heap.size = g7 at *
  obtain ⟨c0, -⟩ := heap_cell (unhide HC8) 0; obtain ⟨c1, -⟩ := heap_cell (unhide HC8) 1; obtain ⟨c2, -⟩ := heap_cell (unhide HC8) 2; obtain ⟨c3, -⟩ := heap_cell (unhide HC8) 3; obtain ⟨c4, -⟩ := heap_cell (unhide HC8) 4; obtain ⟨c5, -⟩ := heap_cell (unhide HC8) 5
  go_upto_region 6 with (first
    | (go_at_call 13; (with_reducible refine (unhide CC _ (unhide HB8)).mono ?_); rintro e wa ⟨vp, vv, vs, rfl, ho, hba⟩; obtain ⟨Xp, Xv, Xs, x1, x2, x3, rfl, rfl, rfl, hxa⟩ := ho.open; have HXA := hide hxa; have HBA := hide hba; clear hba ho hxa c0 c1 c2 c3 c4 c5))
  have HX9 := hide (heap_new wa (.cells #[.int .i64 c.prio, .int .i64 c.age, .int .i64 c.delay, .slice Xp c.ports.length x1, .slice Xv c.vlans.length x2, .slice Xs c.stats.length x3] 26) _ rfl)
  have hb9 := below_alloc (unhide HBA) (.cells #[.int .i64 c.prio, .int .i64 c.age, .int .i64 c.delay, .slice Xp c.ports.length x1, .slice Xv c.vlans.length x2, .slice Xs c.stats.length x3] 26)
  have hba := below_alloc (Below.refl wa.heap.size wa) (.cells #[.int .i64 c.prio, .int .i64 c.age, .int .i64 c.delay, .slice Xp c.ports.length x1, .slice Xv c.vlans.length x2, .slice Xs c.stats.length x3] 26)
  have HB9 := hide (below_then (unhide HB8) hb9)
  have HXA9 := hide ((unhide HXA).below hba)
  have HF9 := hide (heap_keep (unhide HF8) hb9)
  have HG9 := hide (heap_keep (unhide HG8) hb9)
  have HFO9 := hide ((unhide HFO8).below hb9)
  have HGO9 := hide ((unhide HGO8).below hb9)
  have HC9 := hide (heap_keep (unhide HC8) hb9)
  have HD9 := hide (heap_keep (unhide HD8) hb9)
  clear hb9 hba HB8 HBA HXA HF8 HG8 HFO8 HGO8 HC8 HD8
  generalize wa.alloc (.cells #[.int .i64 c.prio, .int .i64 c.age, .int .i64 c.delay, .slice Xp c.ports.length x1, .slice Xv c.vlans.length x2, .slice Xs c.stats.length x3] 26) = w9 at *
  generalize wa.heap.size = g9 at *
  have K17b := hide (fun W (hW : Below w9.heap.size w9 W) => configs_t R Fp Fv Fs Gp Gv Gs f1 f2 f3 g1 g2 g3 (unhide HRL) W ((unhide HFO9).below hW) ((unhide HGO9).below hW))
  have K17c := hide (fun W (hW : Below w9.heap.size w9 W) => configs_t c Xp Xv Xs Ap Av As x1 x2 x3 cp cv cs (unhide HLL) W ((unhide HXA9).below hW) ((unhide HAA).below (below_then (unhide HB9) hW)))
  have HSK := hide (fun (W : World) (hW : Below w9.heap.size w9 W) => (by
    have k1 := heap_keep (unhide HC9) hW
    have k2 := heap_keep (unhide HD9) hW
    have k3 := heap_keep (unhide HF9) hW
    have k4 := heap_keep (unhide HG9) hW
    have k5 := heap_keep (unhide HX9) hW
    exact ⟨hW, ⟨(heap_cell k1 0).1, (heap_cell k1 1).1, (heap_cell k1 2).1, (heap_cell k1 3).1, (heap_cell k1 4).1, (heap_cell k1 5).1, (heap_cell k2 0).1, (heap_cell k2 1).1, (heap_cell k2 2).1, (heap_cell k2 3).1, (heap_cell k2 4).1, (heap_cell k2 5).1, (heap_cell k3 0).1, (heap_cell k3 1).1, (heap_cell k3 2).1, (heap_cell k3 3).1, (heap_cell k3 4).1, (heap_cell k3 5).1, (heap_cell k4 0).1, (heap_cell k4 1).1, (heap_cell k4 2).1, (heap_cell k4 3).1, (heap_cell k4 4).1, (heap_cell k4 5).1, (heap_cell k5 0).1, (heap_cell k5 1).1, (heap_cell k5 2).1, (heap_cell k5 3).1, (heap_cell k5 4).1, (heap_cell k5 5).1⟩⟩ : Below w9.heap.size w9 W ∧ W.cell? ⟨w.heap.size, 0, none⟩ = some (.int .i64 c.prio) ∧ W.cell? ⟨w.heap.size, 1, none⟩ = some (.int .i64 c.age) ∧ W.cell? ⟨w.heap.size, 2, none⟩ = some (.int .i64 c.delay) ∧ W.cell? ⟨w.heap.size, 3, none⟩ = some (.slice Ap c.ports.length cp) ∧ W.cell? ⟨w.heap.size, 4, none⟩ = some (.slice Av c.vlans.length cv) ∧ W.cell? ⟨w.heap.size, 5, none⟩ = some (.slice As c.stats.length cs) ∧ W.cell? ⟨w.heap.size + 1, 0, none⟩ = some (.int .i64 d.prio) ∧ W.cell? ⟨w.heap.size + 1, 1, none⟩ = some (.int .i64 d.age) ∧ W.cell? ⟨w.heap.size + 1, 2, none⟩ = some (.int .i64 d.delay) ∧ W.cell? ⟨w.heap.size + 1, 3, none⟩ = some (.slice Dp d.ports.length dp) ∧ W.cell? ⟨w.heap.size + 1, 4, none⟩ = some (.slice Dv d.vlans.length dv) ∧ W.cell? ⟨w.heap.size + 1, 5, none⟩ = some (.slice Ds d.stats.length ds) ∧ W.cell? ⟨g5, 0, none⟩ = some (.int .i64 R.prio) ∧ W.cell? ⟨g5, 1, none⟩ = some (.int .i64 R.age) ∧ W.cell? ⟨g5, 2, none⟩ = some (.int .i64 R.delay) ∧ W.cell? ⟨g5, 3, none⟩ = some (.slice Fp R.ports.length f1) ∧ W.cell? ⟨g5, 4, none⟩ = some (.slice Fv R.vlans.length f2) ∧ W.cell? ⟨g5, 5, none⟩ = some (.slice Fs R.stats.length f3) ∧ W.cell? ⟨g7, 0, none⟩ = some (.int .i64 R.prio) ∧ W.cell? ⟨g7, 1, none⟩ = some (.int .i64 R.age) ∧ W.cell? ⟨g7, 2, none⟩ = some (.int .i64 R.delay) ∧ W.cell? ⟨g7, 3, none⟩ = some (.slice Gp R.ports.length g1) ∧ W.cell? ⟨g7, 4, none⟩ = some (.slice Gv R.vlans.length g2) ∧ W.cell? ⟨g7, 5, none⟩ = some (.slice Gs R.stats.length g3) ∧ W.cell? ⟨g9, 0, none⟩ = some (.int .i64 c.prio) ∧ W.cell? ⟨g9, 1, none⟩ = some (.int .i64 c.age) ∧ W.cell? ⟨g9, 2, none⟩ = some (.int .i64 c.delay) ∧ W.cell? ⟨g9, 3, none⟩ = some (.slice Xp c.ports.length x1) ∧ W.cell? ⟨g9, 4, none⟩ = some (.slice Xv c.vlans.length x2) ∧ W.cell? ⟨g9, 5, none⟩ = some (.slice Xs c.stats.length x3)))
  go_region_held3 (fun W => Below w9.heap.size w9 W ∧ W.cell? ⟨w.heap.size, 0, none⟩ = some (.int .i64 c.prio) ∧ W.cell? ⟨w.heap.size, 1, none⟩ = some (.int .i64 c.age) ∧ W.cell? ⟨w.heap.size, 2, none⟩ = some (.int .i64 c.delay) ∧ W.cell? ⟨w.heap.size, 3, none⟩ = some (.slice Ap c.ports.length cp) ∧ W.cell? ⟨w.heap.size, 4, none⟩ = some (.slice Av c.vlans.length cv) ∧ W.cell? ⟨w.heap.size, 5, none⟩ = some (.slice As c.stats.length cs) ∧ W.cell? ⟨w.heap.size + 1, 0, none⟩ = some (.int .i64 d.prio) ∧ W.cell? ⟨w.heap.size + 1, 1, none⟩ = some (.int .i64 d.age) ∧ W.cell? ⟨w.heap.size + 1, 2, none⟩ = some (.int .i64 d.delay) ∧ W.cell? ⟨w.heap.size + 1, 3, none⟩ = some (.slice Dp d.ports.length dp) ∧ W.cell? ⟨w.heap.size + 1, 4, none⟩ = some (.slice Dv d.vlans.length dv) ∧ W.cell? ⟨w.heap.size + 1, 5, none⟩ = some (.slice Ds d.stats.length ds) ∧ W.cell? ⟨g5, 0, none⟩ = some (.int .i64 R.prio) ∧ W.cell? ⟨g5, 1, none⟩ = some (.int .i64 R.age) ∧ W.cell? ⟨g5, 2, none⟩ = some (.int .i64 R.delay) ∧ W.cell? ⟨g5, 3, none⟩ = some (.slice Fp R.ports.length f1) ∧ W.cell? ⟨g5, 4, none⟩ = some (.slice Fv R.vlans.length f2) ∧ W.cell? ⟨g5, 5, none⟩ = some (.slice Fs R.stats.length f3) ∧ W.cell? ⟨g7, 0, none⟩ = some (.int .i64 R.prio) ∧ W.cell? ⟨g7, 1, none⟩ = some (.int .i64 R.age) ∧ W.cell? ⟨g7, 2, none⟩ = some (.int .i64 R.delay) ∧ W.cell? ⟨g7, 3, none⟩ = some (.slice Gp R.ports.length g1) ∧ W.cell? ⟨g7, 4, none⟩ = some (.slice Gv R.vlans.length g2) ∧ W.cell? ⟨g7, 5, none⟩ = some (.slice Gs R.stats.length g3) ∧ W.cell? ⟨g9, 0, none⟩ = some (.int .i64 c.prio) ∧ W.cell? ⟨g9, 1, none⟩ = some (.int .i64 c.age) ∧ W.cell? ⟨g9, 2, none⟩ = some (.int .i64 c.delay) ∧ W.cell? ⟨g9, 3, none⟩ = some (.slice Xp c.ports.length x1) ∧ W.cell? ⟨g9, 4, none⟩ = some (.slice Xv c.vlans.length x2) ∧ W.cell? ⟨g9, 5, none⟩ = some (.slice Xs c.stats.length x3)) ((go_split_ands; refine unhide HSK _ ?_; (repeat (first | (with_reducible assumption) | exact Below.refl _ _ | (with_reducible refine Below.drew ?_) | (with_reducible refine below_drewN ?_ _) | (with_reducible refine below_alloc ?_ _)))))
    (first
      | (go_at_call 14; (with_reducible refine (unhide K14 _ ?_).mono ?_); (focus (refine below_then (unhide HB9) ?_; (repeat (first | (with_reducible assumption) | exact Below.refl _ _ | (with_reducible refine Below.drew ?_) | (with_reducible refine below_drewN ?_ _) | (with_reducible refine below_alloc ?_ _))))); rintro e wc ⟨rfl, hbc⟩; have hbd := below_then (by (repeat (first | (with_reducible assumption) | exact Below.refl _ _ | (with_reducible refine Below.drew ?_) | (with_reducible refine below_drewN ?_ _) | (with_reducible refine below_alloc ?_ _))) : Below w9.heap.size w9 _) hbc; clear hbc)
      | (go_at_call 15; (with_reducible refine (unhide K15 _ ?_).mono ?_); (focus (refine below_then (unhide HB9) ?_; (repeat (first | (with_reducible assumption) | exact Below.refl _ _ | (with_reducible refine Below.drew ?_) | (with_reducible refine below_drewN ?_ _) | (with_reducible refine below_alloc ?_ _))))); rintro e wc ⟨rfl, hbc⟩; have hbd := below_then (by (repeat (first | (with_reducible assumption) | exact Below.refl _ _ | (with_reducible refine Below.drew ?_) | (with_reducible refine below_drewN ?_ _) | (with_reducible refine below_alloc ?_ _))) : Below w9.heap.size w9 _) hbc; clear hbc)
      | (go_at_call 16; (with_reducible refine (unhide K16 _ ?_).mono ?_); (focus (refine below_then (unhide HB9) ?_; (repeat (first | (with_reducible assumption) | exact Below.refl _ _ | (with_reducible refine Below.drew ?_) | (with_reducible refine below_drewN ?_ _) | (with_reducible refine below_alloc ?_ _))))); rintro e wc ⟨rfl, hbc⟩; have hbd := below_then (by (repeat (first | (with_reducible assumption) | exact Below.refl _ _ | (with_reducible refine Below.drew ?_) | (with_reducible refine below_drewN ?_ _) | (with_reducible refine below_alloc ?_ _))) : Below w9.heap.size w9 _) hbc; clear hbc)
      | (go_at_call 17; (with_reducible refine (unhide K17 _ ?_).mono ?_); (focus (refine below_then (unhide HB9) ?_; (repeat (first | (with_reducible assumption) | exact Below.refl _ _ | (with_reducible refine Below.drew ?_) | (with_reducible refine below_drewN ?_ _) | (with_reducible refine below_alloc ?_ _))))); rintro e wc ⟨rfl, hbc⟩; have hbd := below_then (by (repeat (first | (with_reducible assumption) | exact Below.refl _ _ | (with_reducible refine Below.drew ?_) | (with_reducible refine below_drewN ?_ _) | (with_reducible refine below_alloc ?_ _))) : Below w9.heap.size w9 _) hbc; clear hbc)
      | (go_at_call 17; (with_reducible refine (unhide K17b _ ?_).mono ?_); (focus (repeat (first | (with_reducible assumption) | exact Below.refl _ _ | (with_reducible refine Below.drew ?_) | (with_reducible refine below_drewN ?_ _) | (with_reducible refine below_alloc ?_ _)))); rintro e wc ⟨rfl, hbc⟩; have hbd := below_then (by (repeat (first | (with_reducible assumption) | exact Below.refl _ _ | (with_reducible refine Below.drew ?_) | (with_reducible refine below_drewN ?_ _) | (with_reducible refine below_alloc ?_ _))) : Below w9.heap.size w9 _) hbc; clear hbc)
      | (go_at_call 17; (with_reducible refine (unhide K17c _ ?_).mono ?_); (focus (repeat (first | (with_reducible assumption) | exact Below.refl _ _ | (with_reducible refine Below.drew ?_) | (with_reducible refine below_drewN ?_ _) | (with_reducible refine below_alloc ?_ _)))); rintro e wc ⟨rfl, hbc⟩; have hbd := below_then (by (repeat (first | (with_reducible assumption) | exact Below.refl _ _ | (with_reducible refine Below.drew ?_) | (with_reducible refine below_drewN ?_ _) | (with_reducible refine below_alloc ?_ _))) : Below w9.heap.size w9 _) hbc; clear hbc)
      | (go_at_call 10; (with_reducible refine (wakes_any _).mono ?_); rintro e wc ⟨rfl, hbc⟩; have hbd := below_then (by (repeat (first | (with_reducible assumption) | exact Below.refl _ _ | (with_reducible refine Below.drew ?_) | (with_reducible refine below_drewN ?_ _) | (with_reducible refine below_alloc ?_ _))) : Below w9.heap.size w9 _) hbc; clear hbc))
  all_goals
    go_wp2
    go_ret
    exact ⟨rfl, below_then (unhide HB9) (by assumption)⟩
end Go.Proofs.Ytbbadncdkiganaa
