/- slices.Insert of one VLAN. -/
import Derived.Test.YtbbadncdkiganaaKrow
namespace Go.Proofs.Ytbbadncdkiganaa
open Go.RowKit
set_option linter.unusedVariables false
set_option maxRecDepth 4000

def insL {α : Type} (i : Nat) (x : α) (l : List α) : List α := l.take i ++ x :: l.drop i
theorem fl_take {α : Type} {enc : α → List Value} (h : ∀ x, (enc x).length = 3) : ∀ (l : List α) (i : Nat), fl enc (l.take i) = (fl enc l).take (i * 3)
  | [], i => by simp [fl]
  | x :: t, 0 => by simp [fl]
  | x :: t, i + 1 => by
    have := fl_take h t i
    unfold fl at this ⊢
    rw [List.take_succ_cons, List.flatMap_cons, List.flatMap_cons, this, List.take_append, h, show (i + 1) * 3 - 3 = i * 3 from by omega, List.take_of_length_le (l := enc x) (by rw [h]; omega)]
theorem fl_drop {α : Type} {enc : α → List Value} (h : ∀ x, (enc x).length = 3) : ∀ (l : List α) (i : Nat), fl enc (l.drop i) = (fl enc l).drop (i * 3)
  | [], i => by simp [fl]
  | x :: t, 0 => by simp [fl]
  | x :: t, i + 1 => by
    have := fl_drop h t i
    unfold fl at this ⊢
    rw [List.drop_succ_cons, List.flatMap_cons, this, List.drop_append, h, show (i + 1) * 3 - 3 = i * 3 from by omega, show List.drop ((i + 1) * 3) (enc x) = [] from List.drop_eq_nil_of_le (by rw [h]; omega), List.nil_append]
theorem fl_ins {α : Type} {enc : α → List Value} (h : ∀ x, (enc x).length = 3) (i : Nat) (x : α) (l : List α) : fl enc (insL i x l) = (fl enc l).take (i * 3) ++ enc x ++ (fl enc l).drop (i * 3) := by
  unfold insL
  rw [fl_app, fl_take h, show x :: l.drop i = [x] ++ l.drop i from rfl, fl_app, fl_drop h, show fl enc [x] = enc x from by simp [fl], List.append_assoc]
theorem ins_len {α : Type} (i : Nat) (x : α) (l : List α) (h : i ≤ l.length) : (insL i x l).length = l.length + 1 := by
  unfold insL
  simp
  omega

set_option maxHeartbeats 2000000 in
theorem insV_end (base : Nat) (vs : List VlanC) (v : Value) (x : VlanC) (N : Nat) (w : World) (hl : vs.length ≤ 100) (ho : w.ownsRow base 46 3 v vs.length (fl encV vs)) (hb : base ≤ w.heap.size) (hx : RowA w (some ⟨N, 0, none⟩) (encV x)) :
    Calls Try.prog 66 #[v, .int .i64 vs.length, .slice (some ⟨N, 0, none⟩) 1 1] w fun e w' => ∃ v', e = .returned v' ∧ w'.ownsRow base 46 3 v' (vs.length + 1) (fl encV vs ++ encV x) ∧ w.grownBy w' v.ownBlock := by
  obtain ⟨i0, hi, hz0, hz1, hz2⟩ := info_parts Try.info46
  obtain ⟨n, hn⟩ : ∃ n, vs.length = n := ⟨_, rfl⟩
  rw [hn] at hl ho ⊢
  clear hn
  have HO := hide ho
  have HX := hide hx
  have hform := ho.2
  clear ho hx
  rcases hform with ⟨rfl, rfl⟩ | ⟨g, cap, cur, rfl, hbg, hg, hnc, hcm, hcs, htk⟩
  · go_enter Try.func66, Try.ntmps66
    go_wp2_with (refine wpList_append_row rfl _ _ 23 rfl base 46 i0 _ 3 16 Try.underlying23 hi hz0 hz1 hz2 rfl (by decide) (by decide) _ 0 (fl encV vs) rfl (unhide HO) (some ⟨N, 0, none⟩) 1 1 (encV x) rfl rfl (unhide HX) (encV_one x) (by omega) hb ?_; intro v' w' ho' hgw hat; have HO2 := hide ho'; have HG := hide hgw; clear ho' hgw hat)
    go_ret
    exact ⟨_, rfl, unhide HO2, unhide HG⟩
  · have hnc2 : (n : Int) ≤ (cap : Int) := by omega
    clear hg hcs htk
    go_enter Try.func66, Try.ntmps66
    go_wp2_with (refine wpList_append_row rfl _ _ 23 rfl base 46 i0 _ 3 16 Try.underlying23 hi hz0 hz1 hz2 rfl (by decide) (by decide) _ n (fl encV vs) rfl (unhide HO) (some ⟨N, 0, none⟩) 1 1 (encV x) rfl rfl (unhide HX) (encV_one x) (by omega) hb ?_; intro v' w' ho' hgw hat; have HO2 := hide ho'; have HG := hide hgw; clear ho' hgw hat)
    all_goals
      go_ret
      exact ⟨_, rfl, unhide HO2, unhide HG⟩
theorem Try.sz46 : ∀ w, (Go.sizeOf 46).run Try.prog w = .ok 3 w := Try.sizeOf46
theorem overlaps_no (w : World) (N g off la ca lb cb cap : Nat) (cN cur : List Value) (hne : N ≠ g) (hN : w.heap[N]? = some (.cells cN.toArray 46 (0, 0))) (hC : Cur w 46 g cap cur) (hcap : 0 < cap) :
    (callFunc 73 #[.slice (some ⟨N, 0, none⟩) la ca, .slice (some ⟨g, off, none⟩) lb cb]).run Try.prog w = .ok (.value (.bool false)) w := by
  rw [run_callFunc_extern Try.func73 (by kernel_rfl) (by kernel_rfl) (by kernel_rfl) (e := Extern.SlicesOverlaps.overlaps #[23, 23] #[4]) (by kernel_rfl),
    Lib.run_overlaps_apart w 23 4 46 Try.underlying23 3 Try.sz46 ⟨N, 0, none⟩ ⟨g, off, none⟩ la ca lb cb hne 46 46 cN.length cur.length (by simp [World.shape?, hN]) (by simp [World.shape?, hC.heap]) (by rw [hC.len]; omega) (heap_cell hN 0).2 (heap_cell hN _).2]
  rfl
theorem drop_cells {w : World} {e : TypeId} {g cap n : Nat} {cur xs : List Value} (h : Cur w e g cap cur) (htk : cur.take (n * 3) = xs) (i : Nat) : ∀ j v, (xs.drop (i * 3))[j]? = some v → w.cell? ⟨g, i * 3 + j, none⟩ = some v := by
  intro j v hj
  rw [h.cell]
  rw [List.getElem?_drop, ← htk, List.getElem?_take] at hj
  split at hj
  · exact hj
  · cases hj
set_option maxHeartbeats 4000000 in
theorem insV_shift (g cap i : Nat) (cur : List Value) (vs : List VlanC) (x : VlanC) (N : Nat) (w : World) (hl : vs.length ≤ 100) (hi : i < vs.length) (hroom : vs.length + 1 ≤ cap) (hcm : cap ≤ maxLen) (hC : Cur w 46 g cap cur) (htk : cur.take (vs.length * 3) = fl encV vs) (hne : N ≠ g) (hN : w.heap[N]? = some (.cells (encV x).toArray 46 (0, 0))) :
    Calls Try.prog 66 #[.slice (some ⟨g, 0, none⟩) vs.length cap, .int .i64 i, .slice (some ⟨N, 0, none⟩) 1 1] w fun e w' => e = .returned (.slice (some ⟨g, 0, none⟩) (vs.length + 1) cap) ∧ (∃ cur', Cur w' 46 g cap cur' ∧ cur'.take ((vs.length + 1) * 3) = fl encV (insL i x vs)) ∧ w.grownBy w' (some g) := by
  have hfl := fl_len encV_len vs
  have HIN := hide (fl_ins encV_len i x vs)
  unfold maxLen at hcm
  have HSH := hide (shift_in (cur := cur) (xs := fl encV vs) (ys := encV x) (i := i) (n := vs.length) (by rw [hC.len]; omega) (by omega) htk rfl)
  have hov := fun lb cb => overlaps_no w N g ((i + 1) * 3) 1 1 lb cb cap (encV x) cur hne hN hC (by omega)
  obtain ⟨n, hn⟩ : ∃ n, vs.length = n := ⟨_, rfl⟩
  rw [hn] at hl hi hroom htk hfl HSH ⊢
  clear hn
  have HC := hide hC
  have HTK := hide htk
  have HFL := hide hfl
  have HNN := hide hN
  clear hC htk hfl hN
  have hi2 : (i : Int) < (n : Int) := by omega
  have hne2 : ¬ (i : Int) = (n : Int) := by omega
  have hnc : (n : Int) + 1 ≤ (cap : Int) := by omega
  have hnc2 : ¬ (cap : Int) < (n : Int) + 1 := by omega
  have hc1 : ¬ cap = i := by omega
  have hc2 : ¬ cap = i + 1 := by omega
  have hw1 : IntKind.i64.wrap ((n : Int) + 1) = (n : Int) + 1 := by rw [IntKind.wrap_i64]; omega
  have hw2 : IntKind.i64.wrap ((i : Int) + 1) = (i : Int) + 1 := by rw [IntKind.wrap_i64]; omega
  have hb1 : (0 : Int) ≤ (i : Int) + 1 := by omega
  have hin : i ≤ n := by omega
  have htn : ((i : Int) + 1).toNat = i + 1 := by omega
  have hb3 : (i : Int) ≤ (n : Int) + 1 := by omega
  go_enter Try.func66, Try.ntmps66
  go_wp2_with (simp only [hov])
  have HC1 := hide (unhide HC).drew
  go_region_law ((refine step_copy3 rfl _ _ 23 23 rfl 46 Try.underlying23 Try.size46 g ((i + 1) * 3) (n - i) (cap - (i + 1)) g (i * 3) (n + 1 - i) (cap - i) cap cur ((fl encV vs).drop (i * 3)) (n - i) (by simp [Act.eval, Act.put]) (by simp [Act.eval, Act.put]) ?_ (unhide HC1) ?_ ?_ ?_ ?_ ?_); (focus (simp only [Nat.min_def]; split <;> omega)); (focus (rw [List.length_drop, unhide HFL]; omega)); (focus (exact drop_cells (unhide HC1) (unhide HTK) i)); (focus (rw [List.length_drop, unhide HFL, (unhide HC1).len]; omega)); (focus (exact fun v hv => fl_one encV_one vs v (List.mem_of_mem_drop hv))); intro w2 HC2 HG2)
  all_goals
    have HN2 := hide (((unhide HG2).block N (lt_of_get (unhide HNN)) (by intro e; cases e; exact hne rfl)).trans (unhide HNN))
    go_wp2_with ((refine wpList_copy3 rfl _ _ 23 23 rfl 46 Try.underlying23 Try.size46 g (i * 3) (n + 1 - i) (cap - i) N 0 1 1 cap _ (encV x) 1 (by simp [Act.eval]) (by simp [Act.eval]) ?_ (unhide HC2) rfl ?_ ?_ (encV_one x) ?_; (focus (simp only [Nat.min_def]; split <;> omega)); (focus (intro j v hj; rw [Nat.zero_add, (heap_cell (unhide HN2) j).1]; simpa using hj)); (focus (rw [(unhide HC2).len, encV_len]; omega)); intro w3 HC3 HG3))
    go_ret
    exact ⟨rfl, ⟨_, unhide HC3, by rw [unhide HIN]; exact unhide HSH⟩, grown_trans (grown_trans grown_drew (unhide HG2)) (unhide HG3)⟩
theorem ret_len {g n m c : Nat} (h : n = m) : Ending.returned (.slice (some ⟨g, 0, none⟩) n c) = .returned (.slice (some ⟨g, 0, none⟩) m c) := by rw [h]
theorem shift_out {cur ys zs : List Value} {i n c : Nat} (hl : cur.length = c * 3) (hc : n + 1 ≤ c) (hi : i ≤ n) (hy : ys.length = 3) (hz : zs.length = (n - i) * 3) :
    (splice (splice cur (i * 3) ys) ((i + 1) * 3) zs).take ((n + 1) * 3) = cur.take (i * 3) ++ ys ++ zs := by
  have h1 : splice cur (i * 3) ys = (cur.take (i * 3) ++ ys) ++ cur.drop (i * 3 + 3) := by unfold splice; rw [hy, List.append_assoc]
  have h2 : (cur.take (i * 3) ++ ys).length = (i + 1) * 3 := by rw [List.length_append, List.length_take, hy, hl]; omega
  rw [h1]
  unfold splice
  rw [List.take_left' h2, ← List.append_assoc]
  refine List.take_left' ?_
  rw [List.length_append, h2, hz]
  omega
set_option maxHeartbeats 4000000 in
theorem insV_grow (g cap i : Nat) (cur : List Value) (vs : List VlanC) (x : VlanC) (N : Nat) (w : World) (hl : vs.length ≤ 100) (hi : i < vs.length) (hroom : cap < vs.length + 1) (hcn : vs.length ≤ cap) (hC : Cur w 46 g cap cur) (htk : cur.take (vs.length * 3) = fl encV vs) (hN : w.heap[N]? = some (.cells (encV x).toArray 46 (0, 0))) :
    Calls Try.prog 66 #[.slice (some ⟨g, 0, none⟩) vs.length cap, .int .i64 i, .slice (some ⟨N, 0, none⟩) 1 1] w fun e w' => ∃ g2 cap2, e = .returned (.slice (some ⟨g2, 0, none⟩) (vs.length + 1) cap2) ∧ w.heap.size ≤ g2 ∧ vs.length + 1 ≤ cap2 ∧ cap2 ≤ maxLen ∧ (∃ cur', Cur w' 46 g2 cap2 cur' ∧ cur'.take ((vs.length + 1) * 3) = fl encV (insL i x vs)) ∧ w.grownBy w' none := by
  have hfl := fl_len encV_len vs
  have HIN := hide (fl_ins encV_len i x vs)
  obtain ⟨i0, hi0, hz0, hz1, hz2⟩ := info_parts Try.info46
  obtain ⟨n, hn⟩ : ∃ n, vs.length = n := ⟨_, rfl⟩
  rw [hn] at hl hi hroom hcn htk hfl ⊢
  clear hn
  obtain rfl : cap = n := by omega
  obtain ⟨k, hk⟩ : ∃ k, cap + 1 - i = k := ⟨_, rfl⟩
  have hold : (Builtin.firstCells i0.size i (.slice (some ⟨g, 0, none⟩) i cap)).run Try.prog w.drew = .ok ((fl encV vs).take (i * 3)).toArray w.drew := by
    rw [hz1]
    refine run_firstCells_some w.drew 3 i ⟨g, 0, none⟩ i cap _ (by rw [List.length_take, hfl]; omega) (fun j v hj => ?_)
    rw [addr_add, Nat.zero_add, hC.drew.cell]
    rw [List.getElem?_take] at hj
    split at hj
    · rw [← htk, List.getElem?_take] at hj
      split at hj
      · exact hj
      · cases hj
    · cases hj
  have hap := fun ty => Lib.run_append_grow_zeros (P := Try.prog) w 23 3 ty 46 i0 _ .i64 .i64 Try.underlying23 Try.underlying3 hi0 hz0 (some ⟨g, 0, none⟩) i cap ((fl encV vs).take (i * 3)) hold k (by omega) (by omega) (by omega) (by omega) (by rw [hz2]; omega) (by rw [hz2]; exact growslice_fits (by omega) (by omega))
  have hge := grownCap_ge w (i + k) cap 46
  have hcl := grownCap_le_maxLen w (i + k) cap 46 (by unfold maxLen; omega)
  generalize grownCap w (i + k) cap 46 = cap2 at hap hge hcl
  obtain ⟨cur2, hcur2⟩ : ∃ cur2 : List Value, (((fl encV vs).take (i * 3)).toArray ++ Builtin.zeroCells (Value.agg #[.int .i64 0, .int .u8 0, .int .u8 0]).cells k ++ Builtin.zeroCells (Value.agg #[.int .i64 0, .int .u8 0, .int .u8 0]).cells (cap2 - (i + k))) = cur2.toArray := by
    generalize (((fl encV vs).take (i * 3)).toArray ++ Builtin.zeroCells (Value.agg #[.int .i64 0, .int .u8 0, .int .u8 0]).cells k ++ Builtin.zeroCells (Value.agg #[.int .i64 0, .int .u8 0, .int .u8 0]).cells (cap2 - (i + k))) = Z
    exact ⟨Z.toList, by simp⟩
  have htl : ((fl encV vs).take (i * 3)).length = i * 3 := by rw [List.length_take, hfl]; omega
  have hcl2 : cur2.length = cap2 * 3 := by
    have := congrArg Array.size hcur2
    simp only [Array.size_append, List.size_toArray, size_zeroCells, htl] at this
    have h3 : (Value.agg #[.int .i64 0, .int .u8 0, .int .u8 0]).cells.size = 3 := rfl
    rw [h3] at this
    omega
  have htk2 : cur2.take (i * 3) = (fl encV vs).take (i * 3) := by
    have := congrArg Array.toList hcur2
    simp only [Array.toList_append, List.append_assoc] at this
    rw [← show cur2.toArray.toList = cur2 from rfl, ← this]
    exact List.take_left' htl
  rw [hcur2] at hap
  obtain ⟨W2, hW2⟩ : ∃ W2, w.drew.alloc (.cells cur2.toArray 46) = W2 := ⟨_, rfl⟩
  have HC2 : Hid (Cur W2 46 w.heap.size cap2 cur2) := hide ⟨by rw [← hW2]; exact heap_alloc_new w.drew _, hcl2⟩
  have HG2 : Hid (w.grownBy W2 none) := hide (by rw [← hW2]; exact ⟨rfl, rfl, rfl, by simp, fun k hk _ => heap_alloc_old w.drew _ hk⟩)
  rw [hW2] at hap
  have hglt := hC.lt
  have HC := hide (hC.keep (unhide HG2) (by simp))
  have HTK := hide htk
  have HFL := hide hfl
  have HT2 := hide htk2
  have HNN := hide (((unhide HG2).block N (lt_of_get hN) (by simp)).trans hN)
  have HAP := hide hap
  have HCL := hide hcl
  clear hC htk hfl hN hold hap hW2 htk2 hcl2 hcur2 hcl hz0 hz1 hz2
  have hi2 : (i : Int) < (cap : Int) := by omega
  have hne2 : ¬ (i : Int) = (cap : Int) := by omega
  have hkk : (cap : Int) + 1 - (i : Int) = (k : Int) := by omega
  have hw1 : IntKind.i64.wrap ((cap : Int) + 1) = (cap : Int) + 1 := by rw [IntKind.wrap_i64]; omega
  have hw2 : IntKind.i64.wrap ((i : Int) + 1) = (i : Int) + 1 := by rw [IntKind.wrap_i64]; omega
  have hw3 : IntKind.i64.wrap (k : Int) = (k : Int) := by rw [IntKind.wrap_i64]; omega
  have hb1 : (0 : Int) ≤ (i : Int) + 1 := by omega
  have htn : ((i : Int) + 1).toNat = i + 1 := by omega
  have hc2 : ¬ cap2 = i := by omega
  have hc3 : ¬ cap2 = i + 1 := by omega
  have hc4 : ¬ cap = i := by omega
  have hik : i ≤ i + k := by omega
  have hin : i ≤ cap := by omega
  have hik2 : i + 1 ≤ i + k := by omega
  have hik3 : (i : Int) + 1 ≤ (i : Int) + (k : Int) := by omega
  have HKK : Hid (i + k = cap + 1) := hide (by omega)
  clear hk
  go_enter Try.func66, Try.ntmps66
  go_wp2_with (first
    | (refine Lib.wpList_append_run _ rfl _ _ _ _ rfl _ _ rfl rfl _ _ (unhide HAP _) ?_)
    | ((refine wpList_copy3 rfl _ _ 23 23 rfl 46 Try.underlying23 Try.size46 w.heap.size (i * 3) (i + k - i) (cap2 - i) N 0 1 1 cap2 _ (encV x) 1 (by simp [Act.eval]) (by simp [Act.eval]) ?_ (unhide HC2) rfl ?_ ?_ (encV_one x) ?_; (focus (simp only [Nat.min_def]; split <;> omega)); (focus (intro j v hj; rw [Nat.zero_add, (heap_cell (unhide HNN) j).1]; simpa using hj)); (focus (rw [(unhide HC2).len, encV_len]; omega)); intro w3 HC3 HG3)))
  try simp only [Act.put, List.setIfInBounds_toArray, List.set_cons_zero, List.set_cons_succ]
  have HC4 := hide (unhide HC3).drew
  have HCo := hide ((unhide HC).keep (unhide HG3) (by intro e; cases e; omega)).drew
  go_region_law ((refine step_copy3 rfl _ _ 23 23 rfl 46 Try.underlying23 Try.size46 w.heap.size ((i + 1) * 3) (i + k - (i + 1)) (cap2 - (i + 1)) g (i * 3) (cap - i) (cap - i) cap2 _ ((fl encV vs).drop (i * 3)) (cap - i) (by simp [Act.eval, Act.put]) (by simp [Act.eval, Act.put]) ?_ (unhide HC4) ?_ ?_ ?_ ?_ ?_); (focus (simp only [Nat.min_def]; split <;> omega)); (focus (rw [List.length_drop, unhide HFL]; omega)); (focus (exact drop_cells (unhide HCo) (unhide HTK) i)); (focus (rw [List.length_drop, unhide HFL, (unhide HC4).len]; omega)); (focus (exact fun v hv => fl_one encV_one vs v (List.mem_of_mem_drop hv))); intro w5 HC5 HG5)
  all_goals
    go_wp2
    go_ret
    refine ⟨w.heap.size, cap2, ret_len (unhide HKK), Nat.le_refl _, by have := unhide HKK; omega, unhide HCL, ⟨_, unhide HC5, ?_⟩, ?_⟩
    · rw [unhide HIN, shift_out (unhide HC2).len (by have := unhide HKK; omega) (by omega) rfl (by rw [List.length_drop, unhide HFL]; omega), unhide HT2]
    · exact grown_new (grown_trans (grown_new (unhide HG2) (unhide HG3) (Nat.le_refl _)) grown_drew) (unhide HG5) (Nat.le_refl _)
end Go.Proofs.Ytbbadncdkiganaa
