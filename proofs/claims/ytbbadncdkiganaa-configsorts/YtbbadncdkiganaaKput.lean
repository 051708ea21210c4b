/- put and drop of a VLAN. -/
import Derived.Test.YtbbadncdkiganaaKdel2
namespace Go.Proofs.Ytbbadncdkiganaa
open Go.RowKit
set_option linter.unusedVariables false
set_option maxRecDepth 4000

theorem fl_set {α : Type} {enc : α → List Value} (h : ∀ x, (enc x).length = 3) : ∀ (l : List α) (i : Nat) (x : α), i < l.length → fl enc (l.set i x) = (fl enc l).take (i * 3) ++ enc x ++ (fl enc l).drop ((i + 1) * 3)
  | [], i, x, hi => by simp at hi
  | y :: t, 0, x, hi => by
    unfold fl
    rw [List.set_cons_zero, List.flatMap_cons, List.flatMap_cons, Nat.zero_mul, List.take_zero, List.nil_append, List.drop_left' (by rw [h])]
  | y :: t, i + 1, x, hi => by
    have := fl_set h t i x (by simpa using hi)
    unfold fl at this ⊢
    rw [List.set_cons_succ, List.flatMap_cons, this, List.flatMap_cons, List.take_append, List.drop_append, h, show (i + 1) * 3 - 3 = i * 3 from by omega, show (i + 1 + 1) * 3 - 3 = (i + 1) * 3 from by omega, List.take_of_length_le (l := enc y) (by rw [h]; omega), show List.drop ((i + 1 + 1) * 3) (enc y) = [] from List.drop_eq_nil_of_le (by rw [h]; omega), List.nil_append]
    simp
theorem set_take {cur xs ys : List Value} {i n c : Nat} (hl : cur.length = c * 3) (hn : n ≤ c) (hi : i < n) (hx : cur.take (n * 3) = xs) (hy : ys.length = 3) : (splice cur (i * 3) ys).take (n * 3) = xs.take (i * 3) ++ ys ++ xs.drop ((i + 1) * 3) := by
  unfold splice
  rw [hy, ← List.append_assoc, List.take_append, List.length_append, List.length_take, hy, List.take_of_length_le (by rw [List.length_append, List.length_take, hy]; omega), ← hx, List.take_take, show min (i * 3) (n * 3) = i * 3 from by omega, List.drop_take, show min (i * 3) cur.length = i * 3 from by omega, show i * 3 + 3 = (i + 1) * 3 from by omega]
theorem own_grown_other {w w' : World} {base : Nat} {e : TypeId} {size : Nat} {v : Value} {n : Nat} {xs : List Value} (h : w.ownsRow base e size v n xs) {r : Option Nat} (hg : w.grownBy w' r) (hr : ∀ k, v.ownBlock = some k → some k ≠ r) : w'.ownsRow base e size v n xs := by
  obtain ⟨hl, h2⟩ := h
  refine ⟨hl, ?_⟩
  rcases h2 with h0 | ⟨g, cap, cur, hv, hbg, hgg, r'⟩
  · exact .inl h0
  · exact .inr ⟨g, cap, cur, hv, hbg, by rw [hg.block g (lt_of_get hgg) (hr g (by rw [hv]; rfl))]; exact hgg, r'⟩
theorem getD_of {l : List Value} (i : Nat) (d : Value) (k : Nat) (h : i < l.length) : l[i]? = some (l.getD i d) := by rw [List.getD_eq_getElem?_getD, List.getElem?_eq_getElem h]; rfl
theorem own_lt {w : World} {base : Nat} {e : TypeId} {size : Nat} {v : Value} {n : Nat} {xs : List Value} (h : w.ownsRow base e size v n xs) : ∀ k, v.ownBlock = some k → k < w.heap.size := fun k hk => by
  rcases h.2 with ⟨rfl, _⟩ | ⟨g, cap, cur, rfl, _, hg, _⟩
  · cases hk
  · cases hk; exact lt_of_get hg
set_option maxHeartbeats 4000000 in
theorem putV_any (base : Nat) (vs : List VlanC) (v : Value) (x : VlanC) (w : World) (hl : vs.length ≤ 99) (ho : w.ownsRow base 46 3 v vs.length (fl encV vs)) (hb : base ≤ w.heap.size) (hr : risB ltV vs = true) :
    Calls Try.prog 52 #[v, .agg #[.int .i64 x.1, .int .u8 x.2.1, .int .u8 x.2.2], .func (.func 44) #[] #[]] w fun e w' => ∃ v', e = .returned v' ∧ w'.ownsRow base 46 3 v' (putL ltV eqV x vs).length (fl encV (putL ltV eqV x vs)) ∧ w.grownBy w' v.ownBlock := by
  obtain ⟨A, cp, rfl, hA⟩ := own_row ho
  have HS := hide (fun (W : World) (hW : Below w.heap.size w W) => searchV_any A vs cp x W (rowA_below hA hW) (by omega) hr)
  have HB : Hid (Below w.heap.size w (w.alloc (.cells #[.int .i64 x.1, .int .u8 x.2.1, .int .u8 x.2.2] 46))) := below_alloc (Below.refl _ _) _
  have HT3 : Hid (∀ W, Below (w.alloc (.cells #[.int .i64 x.1, .int .u8 x.2.1, .int .u8 x.2.2] 46)).heap.size (w.alloc (.cells #[.int .i64 x.1, .int .u8 x.2.1, .int .u8 x.2.2] 46)) W → W.cell? ⟨w.heap.size, 0, none⟩ = some (.int .i64 x.1) ∧ W.cell? ⟨w.heap.size, 1, none⟩ = some (.int .u8 x.2.1) ∧ W.cell? ⟨w.heap.size, 2, none⟩ = some (.int .u8 x.2.2)) := hide (fun W hW => ⟨keep_cell (cell_lit rfl rfl) hW, keep_cell (cell_lit rfl rfl) hW, keep_cell (cell_lit rfl rfl) hW⟩)
  have hle := at_le ltV x vs
  cases hh : hasL ltV eqV x vs with
  | true =>
    have hlt : atL ltV x vs < vs.length := by
      rcases Nat.lt_or_ge (atL ltV x vs) vs.length with h | h
      · exact h
      · rw [has_end (by omega)] at hh
        cases hh
    have hp : putL ltV eqV x vs = vs.set (atL ltV x vs) x := by unfold putL; rw [if_pos hh]
    have hfs := fl_set encV_len vs (atL ltV x vs) x hlt
    rw [hh] at HS
    rw [hp, List.length_set, hfs]
    clear hp hh hfs
    obtain ⟨g, cap, cur, heq, hbg, hnc, hcm, hC, htk⟩ := own_open ho (by omega)
    cases heq
    have hst := hide (set_take (ys := encV x) hC.len hnc hlt htk rfl)
    have HBG := hide hbg
    have HCM := hide hcm
    have HTK := hide htk
    have HC := hide hC
    clear ho hA htk hC hbg hcm hr
    generalize vs.length = n at *
    generalize atL ltV x vs = i at *
    have hi2 : (i : Int) < (n : Int) := by omega
    have hnc2 : (n : Int) ≤ (cp : Int) := by omega
    go_enter Try.func52, Try.ntmps52
    go_wp2_with (go_at_call 65; (with_reducible refine (unhide HS _ (unhide HB)).mono ?_); rintro e w2 ⟨rfl, hb2⟩; obtain ⟨t0, t1, t2⟩ := unhide HT3 w2 hb2; have HC2 := hide ((unhide HC).keep (grown_below (r := none) (below_then (unhide HB) hb2)) (by simp)); have HB2 := hide (below_then (unhide HB) hb2); have hsz := (unhide HC2).len; have m0 : w2.cell? ⟨g, i * 3, none⟩ = some (cur.getD (i * 3) undef) := ((unhide HC2).cell _).trans (getD_of _ _ 0 (by omega)); have m1 : w2.cell? ⟨g, i * 3 + 1, none⟩ = some (cur.getD (i * 3 + 1) undef) := ((unhide HC2).cell _).trans (getD_of _ _ 0 (by omega)); have m2 : w2.cell? ⟨g, i * 3 + 2, none⟩ = some (cur.getD (i * 3 + 2) undef) := ((unhide HC2).cell _).trans (getD_of _ _ 0 (by omega)); have l0 := (unhide HC2).frozen (i * 3); have l1 := (unhide HC2).frozen (i * 3 + 1); have l2 := (unhide HC2).frozen (i * 3 + 2); clear hb2 hsz)
    go_ret
    have hC3 : Cur (w2.setCells g (i * 3) (encV x)) 46 g cp (splice cur (i * 3) (encV x)) := ⟨heap_setCells g 46 (encV x) (i * 3) cur w2 (unhide HC2).heap (by rw [(unhide HC2).len, encV_len]; omega), (length_splice _ _ _ (by rw [(unhide HC2).len, encV_len]; omega)).trans (unhide HC2).len⟩
    exact ⟨_, rfl, own_shut hC3 (unhide HBG) hnc (unhide HCM) (unhide hst), grown_trans (grown_below (unhide HB2)) (grown_setCells w2 g (i * 3) (encV x))⟩
  | false =>
    have hp : putL ltV eqV x vs = insL (atL ltV x vs) x vs := by unfold putL insL; rw [hh]; rfl
    rw [hh] at HS
    rw [hp, ins_len _ _ _ hle]
    clear hp hh
    have HI := hide (fun (W : World) (hW : Below w.heap.size w W) (N : Nat) (hN : W.heap[N]? = some (.cells #[.int .i64 x.1, .int .u8 x.2.1, .int .u8 x.2.2] 46 (0, 0))) (hNN : (Value.slice A vs.length cp).ownBlock ≠ some N) => insV_any base vs (.slice A vs.length cp) (atL ltV x vs) x N W (by omega) hle (own_below ho hW) (by have := hW.size; omega) hN hNN)
    have HLT := hide (own_lt ho)
    clear ho hA hr
    generalize vs.length = n at *
    generalize atL ltV x vs = i at *
    go_enter Try.func52, Try.ntmps52
    go_wp2_with (first
      | (go_at_call 65; (with_reducible refine (unhide HS _ (unhide HB)).mono ?_); rintro e w2 ⟨rfl, hb2⟩; obtain ⟨t0, t1, t2⟩ := unhide HT3 w2 hb2; have HB2 := hide (below_then (unhide HB) hb2); clear hb2)
      | (go_at_call 66; (with_reducible refine (unhide HI _ (below_alloc (unhide HB2) _) w2.heap.size (heap_new _ _ _ rfl) ?_).mono ?_); (focus (intro hk; have := unhide HLT _ hk; have := (unhide HB2).size; omega)); rintro e w4 ⟨v', rfl, ho', hg'⟩; have HO := hide ho'; have HG := hide hg'; clear ho' hg'))
    go_ret
    exact ⟨_, rfl, unhide HO, grown_trans (grown_below (below_alloc (unhide HB2) _)) (unhide HG)⟩
set_option maxHeartbeats 4000000 in
theorem dropV_yes (base : Nat) (vs : List VlanC) (v : Value) (x : VlanC) (w : World) (hl : vs.length ≤ 100) (ho : w.ownsRow base 46 3 v vs.length (fl encV vs)) (hr : risB ltV vs = true) (hh : hasL ltV eqV x vs = true) :
    Calls Try.prog 53 #[v, .agg #[.int .i64 x.1, .int .u8 x.2.1, .int .u8 x.2.2], .func (.func 44) #[] #[]] w fun e w' => ∃ v', e = .returned (.tuple #[v', .int .i64 0]) ∧ w'.ownsRow base 46 3 v' (cutL ltV x vs).length (fl encV (cutL ltV x vs)) ∧ w.grownBy w' v.ownBlock := by
  obtain ⟨A, cp, rfl, hA⟩ := own_row ho
  have HS := hide (fun (W : World) (hW : Below w.heap.size w W) => searchV_any A vs cp x W (rowA_below hA hW) (by omega) hr)
  have HB : Hid (Below w.heap.size w (w.alloc (.cells #[.int .i64 x.1, .int .u8 x.2.1, .int .u8 x.2.2] 46))) := below_alloc (Below.refl _ _) _
  have hle := at_le ltV x vs
  have hlt : atL ltV x vs < vs.length := by
    rcases Nat.lt_or_ge (atL ltV x vs) vs.length with h | h
    · exact h
    · rw [has_end (by omega)] at hh
      cases hh
  have hp : cutL ltV x vs = cutA (atL ltV x vs) vs := rfl
  rw [hh] at HS
  rw [hp, cut_len _ _ hlt]
  clear hp hh
  obtain ⟨g, cap, cur, heq, hbg, hnc, hcm, hC, htk⟩ := own_open ho (by omega)
  cases heq
  have HD := hide (fun (W : World) (hC' : Cur W 46 g cp cur) => delV_any g cp (atL ltV x vs) cur vs W hl hlt hnc hcm hC' htk)
  have HBG := hide hbg
  have HCM := hide hcm
  have HC := hide hC
  clear ho hA htk hC hbg hcm hr
  generalize vs.length = n at *
  generalize atL ltV x vs = i at *
  have hi2 : (i : Int) < (n : Int) := by omega
  have hni : (n : Int) ≤ 100 := by omega
  have hnc2 : (n : Int) ≤ (cp : Int) := by omega
  go_enter Try.func53, Try.ntmps53
  go_wp2_with (first
    | (go_at_call 65; (with_reducible refine (unhide HS _ (unhide HB)).mono ?_); rintro e w2 ⟨rfl, hb2⟩; have HC2 := hide ((unhide HC).keep (grown_below (r := none) (below_then (unhide HB) hb2)) (by simp)); have HB2 := hide (below_then (unhide HB) hb2); clear hb2)
    | (go_at_call 67; (with_reducible refine (unhide HD _ (unhide HC2)).mono ?_); rintro e w3 ⟨rfl, ⟨cur', k4, k5⟩, k6⟩; have K4 := hide k4; have K5 := hide k5; have K6 := hide k6; clear k4 k5 k6))
  go_ret2
  exact ⟨_, rfl, own_shut (unhide K4) (unhide HBG) (by omega) (unhide HCM) (unhide K5), grown_trans (grown_below (unhide HB2)) (unhide K6)⟩
set_option maxHeartbeats 4000000 in
theorem dropV_no (base : Nat) (vs : List VlanC) (v : Value) (x : VlanC) (w : World) (hl : vs.length ≤ 100) (ho : w.ownsRow base 46 3 v vs.length (fl encV vs)) (hr : risB ltV vs = true) (hh : hasL ltV eqV x vs = false) :
    Calls Try.prog 53 #[v, .agg #[.int .i64 x.1, .int .u8 x.2.1, .int .u8 x.2.2], .func (.func 44) #[] #[]] w fun e w' => e = .returned (.tuple #[v, .int .i64 13]) ∧ Below w.heap.size w w' := by
  obtain ⟨A, cp, rfl, hA⟩ := own_row ho
  have HS := hide (fun (W : World) (hW : Below w.heap.size w W) => searchV_any A vs cp x W (rowA_below hA hW) (by omega) hr)
  have HB : Hid (Below w.heap.size w (w.alloc (.cells #[.int .i64 x.1, .int .u8 x.2.1, .int .u8 x.2.2] 46))) := below_alloc (Below.refl _ _) _
  rw [hh] at HS
  clear hh ho hA hr
  generalize vs.length = n at *
  generalize atL ltV x vs = i at *
  go_enter Try.func53, Try.ntmps53
  go_wp2_with (go_at_call 65; (with_reducible refine (unhide HS _ (unhide HB)).mono ?_); rintro e w2 ⟨rfl, hb2⟩; have HB2 := hide (below_then (unhide HB) hb2); clear hb2)
  go_ret2
  exact ⟨rfl, unhide HB2⟩
end Go.Proofs.Ytbbadncdkiganaa
