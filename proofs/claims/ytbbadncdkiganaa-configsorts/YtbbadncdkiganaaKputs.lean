/- put and drop of a static. -/
import Derived.Test.YtbbadncdkiganaaKinss
namespace Go.Proofs.Ytbbadncdkiganaa
open Go.RowKit
set_option linter.unusedVariables false
set_option maxRecDepth 4000

set_option maxHeartbeats 4000000 in
theorem putS_any (base : Nat) (vs : List StatC) (v : Value) (x : StatC) (w : World) (hl : vs.length ≤ 99) (ho : w.ownsRow base 52 3 v vs.length (fl encS vs)) (hb : base ≤ w.heap.size) (hr : risB ltS vs = true) :
    Calls Try.prog 54 #[v, .agg #[.int .u64 x.1, .int .i64 x.2.1, .int .i64 x.2.2], .func (.func 50) #[] #[]] w fun e w' => ∃ v', e = .returned v' ∧ w'.ownsRow base 52 3 v' (putL ltS eqS x vs).length (fl encS (putL ltS eqS x vs)) ∧ w.grownBy w' v.ownBlock := by
  obtain ⟨A, cp, rfl, hA⟩ := own_row ho
  have HS := hide (fun (W : World) (hW : Below w.heap.size w W) => searchS_any A vs cp x W (rowA_below hA hW) (by omega) hr)
  have HB : Hid (Below w.heap.size w (w.alloc (.cells #[.int .u64 x.1, .int .i64 x.2.1, .int .i64 x.2.2] 52))) := below_alloc (Below.refl _ _) _
  have HT3 : Hid (∀ W, Below (w.alloc (.cells #[.int .u64 x.1, .int .i64 x.2.1, .int .i64 x.2.2] 52)).heap.size (w.alloc (.cells #[.int .u64 x.1, .int .i64 x.2.1, .int .i64 x.2.2] 52)) W → W.cell? ⟨w.heap.size, 0, none⟩ = some (.int .u64 x.1) ∧ W.cell? ⟨w.heap.size, 1, none⟩ = some (.int .i64 x.2.1) ∧ W.cell? ⟨w.heap.size, 2, none⟩ = some (.int .i64 x.2.2)) := hide (fun W hW => ⟨keep_cell (cell_lit rfl rfl) hW, keep_cell (cell_lit rfl rfl) hW, keep_cell (cell_lit rfl rfl) hW⟩)
  have hle := at_le ltS x vs
  cases hh : hasL ltS eqS x vs with
  | true =>
    have hlt : atL ltS x vs < vs.length := by
      rcases Nat.lt_or_ge (atL ltS x vs) vs.length with h | h
      · exact h
      · rw [has_end (by omega)] at hh
        cases hh
    have hp : putL ltS eqS x vs = vs.set (atL ltS x vs) x := by unfold putL; rw [if_pos hh]
    have hfs := fl_set encS_len vs (atL ltS x vs) x hlt
    rw [hh] at HS
    rw [hp, List.length_set, hfs]
    clear hp hh hfs
    obtain ⟨g, cap, cur, heq, hbg, hnc, hcm, hC, htk⟩ := own_open ho (by omega)
    cases heq
    have hst := hide (set_take (ys := encS x) hC.len hnc hlt htk rfl)
    have HBG := hide hbg
    have HCM := hide hcm
    have HTK := hide htk
    have HC := hide hC
    clear ho hA htk hC hbg hcm hr
    generalize vs.length = n at *
    generalize atL ltS x vs = i at *
    have hi2 : (i : Int) < (n : Int) := by omega
    have hnc2 : (n : Int) ≤ (cp : Int) := by omega
    go_enter Try.func54, Try.ntmps54
    go_wp2_with (go_at_call 68; (with_reducible refine (unhide HS _ (unhide HB)).mono ?_); rintro e w2 ⟨rfl, hb2⟩; obtain ⟨t0, t1, t2⟩ := unhide HT3 w2 hb2; have HC2 := hide ((unhide HC).keep (grown_below (r := none) (below_then (unhide HB) hb2)) (by simp)); have HB2 := hide (below_then (unhide HB) hb2); have hsz := (unhide HC2).len; have m0 : w2.cell? ⟨g, i * 3, none⟩ = some (cur.getD (i * 3) undef) := ((unhide HC2).cell _).trans (getD_of _ _ 0 (by omega)); have m1 : w2.cell? ⟨g, i * 3 + 1, none⟩ = some (cur.getD (i * 3 + 1) undef) := ((unhide HC2).cell _).trans (getD_of _ _ 0 (by omega)); have m2 : w2.cell? ⟨g, i * 3 + 2, none⟩ = some (cur.getD (i * 3 + 2) undef) := ((unhide HC2).cell _).trans (getD_of _ _ 0 (by omega)); have l0 := (unhide HC2).frozen (i * 3); have l1 := (unhide HC2).frozen (i * 3 + 1); have l2 := (unhide HC2).frozen (i * 3 + 2); clear hb2 hsz)
    go_ret
    have hC3 : Cur (w2.setCells g (i * 3) (encS x)) 52 g cp (splice cur (i * 3) (encS x)) := ⟨heap_setCells g 52 (encS x) (i * 3) cur w2 (unhide HC2).heap (by rw [(unhide HC2).len, encS_len]; omega), (length_splice _ _ _ (by rw [(unhide HC2).len, encS_len]; omega)).trans (unhide HC2).len⟩
    exact ⟨_, rfl, own_shut hC3 (unhide HBG) hnc (unhide HCM) (unhide hst), grown_trans (grown_below (unhide HB2)) (grown_setCells w2 g (i * 3) (encS x))⟩
  | false =>
    have hp : putL ltS eqS x vs = insL (atL ltS x vs) x vs := by unfold putL insL; rw [hh]; rfl
    rw [hh] at HS
    rw [hp, ins_len _ _ _ hle]
    clear hp hh
    have HI := hide (fun (W : World) (hW : Below w.heap.size w W) (N : Nat) (hN : W.heap[N]? = some (.cells #[.int .u64 x.1, .int .i64 x.2.1, .int .i64 x.2.2] 52 (0, 0))) (hNN : (Value.slice A vs.length cp).ownBlock ≠ some N) => insS_any base vs (.slice A vs.length cp) (atL ltS x vs) x N W (by omega) hle (own_below ho hW) (by have := hW.size; omega) hN hNN)
    have HLT := hide (own_lt ho)
    clear ho hA hr
    generalize vs.length = n at *
    generalize atL ltS x vs = i at *
    go_enter Try.func54, Try.ntmps54
    go_wp2_with (first
      | (go_at_call 68; (with_reducible refine (unhide HS _ (unhide HB)).mono ?_); rintro e w2 ⟨rfl, hb2⟩; obtain ⟨t0, t1, t2⟩ := unhide HT3 w2 hb2; have HB2 := hide (below_then (unhide HB) hb2); clear hb2)
      | (go_at_call 69; (with_reducible refine (unhide HI _ (below_alloc (unhide HB2) _) w2.heap.size (heap_new _ _ _ rfl) ?_).mono ?_); (focus (intro hk; have := unhide HLT _ hk; have := (unhide HB2).size; omega)); rintro e w4 ⟨v', rfl, ho', hg'⟩; have HO := hide ho'; have HG := hide hg'; clear ho' hg'))
    go_ret
    exact ⟨_, rfl, unhide HO, grown_trans (grown_below (below_alloc (unhide HB2) _)) (unhide HG)⟩
set_option maxHeartbeats 4000000 in
theorem dropS_yes (base : Nat) (vs : List StatC) (v : Value) (x : StatC) (w : World) (hl : vs.length ≤ 100) (ho : w.ownsRow base 52 3 v vs.length (fl encS vs)) (hr : risB ltS vs = true) (hh : hasL ltS eqS x vs = true) :
    Calls Try.prog 55 #[v, .agg #[.int .u64 x.1, .int .i64 x.2.1, .int .i64 x.2.2], .func (.func 50) #[] #[]] w fun e w' => ∃ v', e = .returned (.tuple #[v', .int .i64 0]) ∧ w'.ownsRow base 52 3 v' (cutL ltS x vs).length (fl encS (cutL ltS x vs)) ∧ w.grownBy w' v.ownBlock := by
  obtain ⟨A, cp, rfl, hA⟩ := own_row ho
  have HS := hide (fun (W : World) (hW : Below w.heap.size w W) => searchS_any A vs cp x W (rowA_below hA hW) (by omega) hr)
  have HB : Hid (Below w.heap.size w (w.alloc (.cells #[.int .u64 x.1, .int .i64 x.2.1, .int .i64 x.2.2] 52))) := below_alloc (Below.refl _ _) _
  have hle := at_le ltS x vs
  have hlt : atL ltS x vs < vs.length := by
    rcases Nat.lt_or_ge (atL ltS x vs) vs.length with h | h
    · exact h
    · rw [has_end (by omega)] at hh
      cases hh
  have hp : cutL ltS x vs = cutA (atL ltS x vs) vs := rfl
  rw [hh] at HS
  rw [hp, cut_len _ _ hlt]
  clear hp hh
  obtain ⟨g, cap, cur, heq, hbg, hnc, hcm, hC, htk⟩ := own_open ho (by omega)
  cases heq
  have HD := hide (fun (W : World) (hC' : Cur W 52 g cp cur) => delS_any g cp (atL ltS x vs) cur vs W hl hlt hnc hcm hC' htk)
  have HBG := hide hbg
  have HCM := hide hcm
  have HC := hide hC
  clear ho hA htk hC hbg hcm hr
  generalize vs.length = n at *
  generalize atL ltS x vs = i at *
  have hi2 : (i : Int) < (n : Int) := by omega
  have hni : (n : Int) ≤ 100 := by omega
  have hnc2 : (n : Int) ≤ (cp : Int) := by omega
  go_enter Try.func55, Try.ntmps55
  go_wp2_with (first
    | (go_at_call 68; (with_reducible refine (unhide HS _ (unhide HB)).mono ?_); rintro e w2 ⟨rfl, hb2⟩; have HC2 := hide ((unhide HC).keep (grown_below (r := none) (below_then (unhide HB) hb2)) (by simp)); have HB2 := hide (below_then (unhide HB) hb2); clear hb2)
    | (go_at_call 70; (with_reducible refine (unhide HD _ (unhide HC2)).mono ?_); rintro e w3 ⟨rfl, ⟨cur', k4, k5⟩, k6⟩; have K4 := hide k4; have K5 := hide k5; have K6 := hide k6; clear k4 k5 k6))
  go_ret2
  exact ⟨_, rfl, own_shut (unhide K4) (unhide HBG) (by omega) (unhide HCM) (unhide K5), grown_trans (grown_below (unhide HB2)) (unhide K6)⟩
set_option maxHeartbeats 4000000 in
theorem dropS_no (base : Nat) (vs : List StatC) (v : Value) (x : StatC) (w : World) (hl : vs.length ≤ 100) (ho : w.ownsRow base 52 3 v vs.length (fl encS vs)) (hr : risB ltS vs = true) (hh : hasL ltS eqS x vs = false) :
    Calls Try.prog 55 #[v, .agg #[.int .u64 x.1, .int .i64 x.2.1, .int .i64 x.2.2], .func (.func 50) #[] #[]] w fun e w' => e = .returned (.tuple #[v, .int .i64 13]) ∧ Below w.heap.size w w' := by
  obtain ⟨A, cp, rfl, hA⟩ := own_row ho
  have HS := hide (fun (W : World) (hW : Below w.heap.size w W) => searchS_any A vs cp x W (rowA_below hA hW) (by omega) hr)
  have HB : Hid (Below w.heap.size w (w.alloc (.cells #[.int .u64 x.1, .int .i64 x.2.1, .int .i64 x.2.2] 52))) := below_alloc (Below.refl _ _) _
  rw [hh] at HS
  clear hh ho hA hr
  generalize vs.length = n at *
  generalize atL ltS x vs = i at *
  go_enter Try.func55, Try.ntmps55
  go_wp2_with (go_at_call 68; (with_reducible refine (unhide HS _ (unhide HB)).mono ?_); rintro e w2 ⟨rfl, hb2⟩; have HB2 := hide (below_then (unhide HB) hb2); clear hb2)
  go_ret2
  exact ⟨rfl, unhide HB2⟩
end Go.Proofs.Ytbbadncdkiganaa
