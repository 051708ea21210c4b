/- slices.Insert and Delete of one static; put and drop. -/
import Derived.Test.YtbbadncdkiganaaKput
namespace Go.Proofs.Ytbbadncdkiganaa
open Go.RowKit
set_option linter.unusedVariables false
set_option maxRecDepth 4000

theorem Try.size52 : (Try.prog.info? 52).map (·.size) = some 3 := by kernel_rfl
set_option maxHeartbeats 2000000 in
theorem insS_end (base : Nat) (vs : List StatC) (v : Value) (x : StatC) (N : Nat) (w : World) (hl : vs.length ≤ 100) (ho : w.ownsRow base 52 3 v vs.length (fl encS vs)) (hb : base ≤ w.heap.size) (hx : RowA w (some ⟨N, 0, none⟩) (encS x)) :
    Calls Try.prog 69 #[v, .int .i64 vs.length, .slice (some ⟨N, 0, none⟩) 1 1] w fun e w' => ∃ v', e = .returned v' ∧ w'.ownsRow base 52 3 v' (vs.length + 1) (fl encS vs ++ encS x) ∧ w.grownBy w' v.ownBlock := by
  obtain ⟨i0, hi, hz0, hz1, hz2⟩ := info_parts Try.info52
  obtain ⟨n, hn⟩ : ∃ n, vs.length = n := ⟨_, rfl⟩
  rw [hn] at hl ho ⊢
  clear hn
  have HO := hide ho
  have HX := hide hx
  have hform := ho.2
  clear ho hx
  rcases hform with ⟨rfl, rfl⟩ | ⟨g, cap, cur, rfl, hbg, hg, hnc, hcm, hcs, htk⟩
  · go_enter Try.func69, Try.ntmps69
    go_wp2_with (refine wpList_append_row rfl _ _ 24 rfl base 52 i0 _ 3 24 Try.underlying24 hi hz0 hz1 hz2 rfl (by decide) (by decide) _ 0 (fl encS vs) rfl (unhide HO) (some ⟨N, 0, none⟩) 1 1 (encS x) rfl rfl (unhide HX) (encS_one x) (by omega) hb ?_; intro v' w' ho' hgw hat; have HO2 := hide ho'; have HG := hide hgw; clear ho' hgw hat)
    go_ret
    exact ⟨_, rfl, unhide HO2, unhide HG⟩
  · have hnc2 : (n : Int) ≤ (cap : Int) := by omega
    clear hg hcs htk
    go_enter Try.func69, Try.ntmps69
    go_wp2_with (refine wpList_append_row rfl _ _ 24 rfl base 52 i0 _ 3 24 Try.underlying24 hi hz0 hz1 hz2 rfl (by decide) (by decide) _ n (fl encS vs) rfl (unhide HO) (some ⟨N, 0, none⟩) 1 1 (encS x) rfl rfl (unhide HX) (encS_one x) (by omega) hb ?_; intro v' w' ho' hgw hat; have HO2 := hide ho'; have HG := hide hgw; clear ho' hgw hat)
    all_goals
      go_ret
      exact ⟨_, rfl, unhide HO2, unhide HG⟩
theorem Try.sz52 : ∀ w, (Go.sizeOf 52).run Try.prog w = .ok 3 w := Try.sizeOf52
theorem overlaps_noS (w : World) (N g off la ca lb cb cap : Nat) (cN cur : List Value) (hne : N ≠ g) (hN : w.heap[N]? = some (.cells cN.toArray 52 (0, 0))) (hC : Cur w 52 g cap cur) (hcap : 0 < cap) :
    (callFunc 75 #[.slice (some ⟨N, 0, none⟩) la ca, .slice (some ⟨g, off, none⟩) lb cb]).run Try.prog w = .ok (.value (.bool false)) w := by
  rw [run_callFunc_extern Try.func75 (by kernel_rfl) (by kernel_rfl) (by kernel_rfl) (e := Extern.SlicesOverlaps.overlaps #[24, 24] #[4]) (by kernel_rfl),
    Lib.run_overlaps_apart w 24 4 52 Try.underlying24 3 Try.sz52 ⟨N, 0, none⟩ ⟨g, off, none⟩ la ca lb cb hne 52 52 cN.length cur.length (by simp [World.shape?, hN]) (by simp [World.shape?, hC.heap]) (by rw [hC.len]; omega) (heap_cell hN 0).2 (heap_cell hN _).2]
  rfl
set_option maxHeartbeats 4000000 in
theorem insS_shift (g cap i : Nat) (cur : List Value) (vs : List StatC) (x : StatC) (N : Nat) (w : World) (hl : vs.length ≤ 100) (hi : i < vs.length) (hroom : vs.length + 1 ≤ cap) (hcm : cap ≤ maxLen) (hC : Cur w 52 g cap cur) (htk : cur.take (vs.length * 3) = fl encS vs) (hne : N ≠ g) (hN : w.heap[N]? = some (.cells (encS x).toArray 52 (0, 0))) :
    Calls Try.prog 69 #[.slice (some ⟨g, 0, none⟩) vs.length cap, .int .i64 i, .slice (some ⟨N, 0, none⟩) 1 1] w fun e w' => e = .returned (.slice (some ⟨g, 0, none⟩) (vs.length + 1) cap) ∧ (∃ cur', Cur w' 52 g cap cur' ∧ cur'.take ((vs.length + 1) * 3) = fl encS (insL i x vs)) ∧ w.grownBy w' (some g) := by
  have hfl := fl_len encS_len vs
  have HIN := hide (fl_ins encS_len i x vs)
  unfold maxLen at hcm
  have HSH := hide (shift_in (cur := cur) (xs := fl encS vs) (ys := encS x) (i := i) (n := vs.length) (by rw [hC.len]; omega) (by omega) htk rfl)
  have hov := fun lb cb => overlaps_noS w N g ((i + 1) * 3) 1 1 lb cb cap (encS x) cur hne hN hC (by omega)
  obtain ⟨n, hn⟩ : ∃ n, vs.length = n := ⟨_, rfl⟩
  rw [hn] at hl hi hroom htk hfl HSH ⊢
  clear hn
  have HC := hide hC
  have HTK := hide htk
  have HFL := hide hfl
  have HNN := hide hN
  clear hC htk hfl hN
  have hi2 : (i : Int) < (n : Int) := by omega
  have hne2 : ¬ (i : Int) = (n : Int) := by omega
  have hnc : (n : Int) + 1 ≤ (cap : Int) := by omega
  have hnc2 : ¬ (cap : Int) < (n : Int) + 1 := by omega
  have hc1 : ¬ cap = i := by omega
  have hc2 : ¬ cap = i + 1 := by omega
  have hw1 : IntKind.i64.wrap ((n : Int) + 1) = (n : Int) + 1 := by rw [IntKind.wrap_i64]; omega
  have hw2 : IntKind.i64.wrap ((i : Int) + 1) = (i : Int) + 1 := by rw [IntKind.wrap_i64]; omega
  have hb1 : (0 : Int) ≤ (i : Int) + 1 := by omega
  have hin : i ≤ n := by omega
  have htn : ((i : Int) + 1).toNat = i + 1 := by omega
  have hb3 : (i : Int) ≤ (n : Int) + 1 := by omega
  go_enter Try.func69, Try.ntmps69
  go_wp2_with (simp only [hov])
  have HC1 := hide (unhide HC).drew
  go_region_law ((refine step_copy3 rfl _ _ 24 24 rfl 52 Try.underlying24 Try.size52 g ((i + 1) * 3) (n - i) (cap - (i + 1)) g (i * 3) (n + 1 - i) (cap - i) cap cur ((fl encS vs).drop (i * 3)) (n - i) (by simp [Act.eval, Act.put]) (by simp [Act.eval, Act.put]) ?_ (unhide HC1) ?_ ?_ ?_ ?_ ?_); (focus (simp only [Nat.min_def]; split <;> omega)); (focus (rw [List.length_drop, unhide HFL]; omega)); (focus (exact drop_cells (unhide HC1) (unhide HTK) i)); (focus (rw [List.length_drop, unhide HFL, (unhide HC1).len]; omega)); (focus (exact fun v hv => fl_one encS_one vs v (List.mem_of_mem_drop hv))); intro w2 HC2 HG2)
  all_goals
    have HN2 := hide (((unhide HG2).block N (lt_of_get (unhide HNN)) (by intro e; cases e; exact hne rfl)).trans (unhide HNN))
    go_wp2_with ((refine wpList_copy3 rfl _ _ 24 24 rfl 52 Try.underlying24 Try.size52 g (i * 3) (n + 1 - i) (cap - i) N 0 1 1 cap _ (encS x) 1 (by simp [Act.eval]) (by simp [Act.eval]) ?_ (unhide HC2) rfl ?_ ?_ (encS_one x) ?_; (focus (simp only [Nat.min_def]; split <;> omega)); (focus (intro j v hj; rw [Nat.zero_add, (heap_cell (unhide HN2) j).1]; simpa using hj)); (focus (rw [(unhide HC2).len, encS_len]; omega)); intro w3 HC3 HG3))
    go_ret
    exact ⟨rfl, ⟨_, unhide HC3, by rw [unhide HIN]; exact unhide HSH⟩, grown_trans (grown_trans grown_drew (unhide HG2)) (unhide HG3)⟩
set_option maxHeartbeats 4000000 in
theorem insS_grow (g cap i : Nat) (cur : List Value) (vs : List StatC) (x : StatC) (N : Nat) (w : World) (hl : vs.length ≤ 100) (hi : i < vs.length) (hroom : cap < vs.length + 1) (hcn : vs.length ≤ cap) (hC : Cur w 52 g cap cur) (htk : cur.take (vs.length * 3) = fl encS vs) (hN : w.heap[N]? = some (.cells (encS x).toArray 52 (0, 0))) :
    Calls Try.prog 69 #[.slice (some ⟨g, 0, none⟩) vs.length cap, .int .i64 i, .slice (some ⟨N, 0, none⟩) 1 1] w fun e w' => ∃ g2 cap2, e = .returned (.slice (some ⟨g2, 0, none⟩) (vs.length + 1) cap2) ∧ w.heap.size ≤ g2 ∧ vs.length + 1 ≤ cap2 ∧ cap2 ≤ maxLen ∧ (∃ cur', Cur w' 52 g2 cap2 cur' ∧ cur'.take ((vs.length + 1) * 3) = fl encS (insL i x vs)) ∧ w.grownBy w' none := by
  have hfl := fl_len encS_len vs
  have HIN := hide (fl_ins encS_len i x vs)
  obtain ⟨i0, hi0, hz0, hz1, hz2⟩ := info_parts Try.info52
  obtain ⟨n, hn⟩ : ∃ n, vs.length = n := ⟨_, rfl⟩
  rw [hn] at hl hi hroom hcn htk hfl ⊢
  clear hn
  obtain rfl : cap = n := by omega
  obtain ⟨k, hk⟩ : ∃ k, cap + 1 - i = k := ⟨_, rfl⟩
  have hold : (Builtin.firstCells i0.size i (.slice (some ⟨g, 0, none⟩) i cap)).run Try.prog w.drew = .ok ((fl encS vs).take (i * 3)).toArray w.drew := by
    rw [hz1]
    refine run_firstCells_some w.drew 3 i ⟨g, 0, none⟩ i cap _ (by rw [List.length_take, hfl]; omega) (fun j v hj => ?_)
    rw [addr_add, Nat.zero_add, hC.drew.cell]
    rw [List.getElem?_take] at hj
    split at hj
    · rw [← htk, List.getElem?_take] at hj
      split at hj
      · exact hj
      · cases hj
    · cases hj
  have hap := fun ty => Lib.run_append_grow_zeros (P := Try.prog) w 24 3 ty 52 i0 _ .i64 .i64 Try.underlying24 Try.underlying3 hi0 hz0 (some ⟨g, 0, none⟩) i cap ((fl encS vs).take (i * 3)) hold k (by omega) (by omega) (by omega) (by omega) (by rw [hz2]; omega) (by rw [hz2]; exact growslice_fits (by omega) (by omega))
  have hge := grownCap_ge w (i + k) cap 52
  have hcl := grownCap_le_maxLen w (i + k) cap 52 (by unfold maxLen; omega)
  generalize grownCap w (i + k) cap 52 = cap2 at hap hge hcl
  obtain ⟨cur2, hcur2⟩ : ∃ cur2 : List Value, (((fl encS vs).take (i * 3)).toArray ++ Builtin.zeroCells (Value.agg #[.int .u64 0, .int .i64 0, .int .i64 0]).cells k ++ Builtin.zeroCells (Value.agg #[.int .u64 0, .int .i64 0, .int .i64 0]).cells (cap2 - (i + k))) = cur2.toArray := by
    generalize (((fl encS vs).take (i * 3)).toArray ++ Builtin.zeroCells (Value.agg #[.int .u64 0, .int .i64 0, .int .i64 0]).cells k ++ Builtin.zeroCells (Value.agg #[.int .u64 0, .int .i64 0, .int .i64 0]).cells (cap2 - (i + k))) = Z
    exact ⟨Z.toList, by simp⟩
  have htl : ((fl encS vs).take (i * 3)).length = i * 3 := by rw [List.length_take, hfl]; omega
  have hcl2 : cur2.length = cap2 * 3 := by
    have := congrArg Array.size hcur2
    simp only [Array.size_append, List.size_toArray, size_zeroCells, htl] at this
    have h3 : (Value.agg #[.int .u64 0, .int .i64 0, .int .i64 0]).cells.size = 3 := rfl
    rw [h3] at this
    omega
  have htk2 : cur2.take (i * 3) = (fl encS vs).take (i * 3) := by
    have := congrArg Array.toList hcur2
    simp only [Array.toList_append, List.append_assoc] at this
    rw [← show cur2.toArray.toList = cur2 from rfl, ← this]
    exact List.take_left' htl
  rw [hcur2] at hap
  obtain ⟨W2, hW2⟩ : ∃ W2, w.drew.alloc (.cells cur2.toArray 52) = W2 := ⟨_, rfl⟩
  have HC2 : Hid (Cur W2 52 w.heap.size cap2 cur2) := hide ⟨by rw [← hW2]; exact heap_alloc_new w.drew _, hcl2⟩
  have HG2 : Hid (w.grownBy W2 none) := hide (by rw [← hW2]; exact ⟨rfl, rfl, rfl, by simp, fun k hk _ => heap_alloc_old w.drew _ hk⟩)
  rw [hW2] at hap
  have hglt := hC.lt
  have HC := hide (hC.keep (unhide HG2) (by simp))
  have HTK := hide htk
  have HFL := hide hfl
  have HT2 := hide htk2
  have HNN := hide (((unhide HG2).block N (lt_of_get hN) (by simp)).trans hN)
  have HAP := hide hap
  have HCL := hide hcl
  clear hC htk hfl hN hold hap hW2 htk2 hcl2 hcur2 hcl hz0 hz1 hz2
  have hi2 : (i : Int) < (cap : Int) := by omega
  have hne2 : ¬ (i : Int) = (cap : Int) := by omega
  have hkk : (cap : Int) + 1 - (i : Int) = (k : Int) := by omega
  have hw1 : IntKind.i64.wrap ((cap : Int) + 1) = (cap : Int) + 1 := by rw [IntKind.wrap_i64]; omega
  have hw2 : IntKind.i64.wrap ((i : Int) + 1) = (i : Int) + 1 := by rw [IntKind.wrap_i64]; omega
  have hw3 : IntKind.i64.wrap (k : Int) = (k : Int) := by rw [IntKind.wrap_i64]; omega
  have hb1 : (0 : Int) ≤ (i : Int) + 1 := by omega
  have htn : ((i : Int) + 1).toNat = i + 1 := by omega
  have hc2 : ¬ cap2 = i := by omega
  have hc3 : ¬ cap2 = i + 1 := by omega
  have hc4 : ¬ cap = i := by omega
  have hik : i ≤ i + k := by omega
  have hin : i ≤ cap := by omega
  have hik2 : i + 1 ≤ i + k := by omega
  have hik3 : (i : Int) + 1 ≤ (i : Int) + (k : Int) := by omega
  have HKK : Hid (i + k = cap + 1) := hide (by omega)
  clear hk
  go_enter Try.func69, Try.ntmps69
  go_wp2_with (first
    | (refine Lib.wpList_append_run _ rfl _ _ _ _ rfl _ _ rfl rfl _ _ (unhide HAP _) ?_)
    | ((refine wpList_copy3 rfl _ _ 24 24 rfl 52 Try.underlying24 Try.size52 w.heap.size (i * 3) (i + k - i) (cap2 - i) N 0 1 1 cap2 _ (encS x) 1 (by simp [Act.eval]) (by simp [Act.eval]) ?_ (unhide HC2) rfl ?_ ?_ (encS_one x) ?_; (focus (simp only [Nat.min_def]; split <;> omega)); (focus (intro j v hj; rw [Nat.zero_add, (heap_cell (unhide HNN) j).1]; simpa using hj)); (focus (rw [(unhide HC2).len, encS_len]; omega)); intro w3 HC3 HG3)))
  try simp only [Act.put, List.setIfInBounds_toArray, List.set_cons_zero, List.set_cons_succ]
  have HC4 := hide (unhide HC3).drew
  have HCo := hide ((unhide HC).keep (unhide HG3) (by intro e; cases e; omega)).drew
  go_region_law ((refine step_copy3 rfl _ _ 24 24 rfl 52 Try.underlying24 Try.size52 w.heap.size ((i + 1) * 3) (i + k - (i + 1)) (cap2 - (i + 1)) g (i * 3) (cap - i) (cap - i) cap2 _ ((fl encS vs).drop (i * 3)) (cap - i) (by simp [Act.eval, Act.put]) (by simp [Act.eval, Act.put]) ?_ (unhide HC4) ?_ ?_ ?_ ?_ ?_); (focus (simp only [Nat.min_def]; split <;> omega)); (focus (rw [List.length_drop, unhide HFL]; omega)); (focus (exact drop_cells (unhide HCo) (unhide HTK) i)); (focus (rw [List.length_drop, unhide HFL, (unhide HC4).len]; omega)); (focus (exact fun v hv => fl_one encS_one vs v (List.mem_of_mem_drop hv))); intro w5 HC5 HG5)
  all_goals
    go_wp2
    go_ret
    refine ⟨w.heap.size, cap2, ret_len (unhide HKK), Nat.le_refl _, by have := unhide HKK; omega, unhide HCL, ⟨_, unhide HC5, ?_⟩, ?_⟩
    · rw [unhide HIN, shift_out (unhide HC2).len (by have := unhide HKK; omega) (by omega) rfl (by rw [List.length_drop, unhide HFL]; omega), unhide HT2]
    · exact grown_new (grown_trans (grown_new (unhide HG2) (unhide HG3) (Nat.le_refl _)) grown_drew) (unhide HG5) (Nat.le_refl _)
theorem insS_any (base : Nat) (vs : List StatC) (v : Value) (i : Nat) (x : StatC) (N : Nat) (w : World) (hl : vs.length ≤ 100) (hi : i ≤ vs.length) (ho : w.ownsRow base 52 3 v vs.length (fl encS vs)) (hb : base ≤ w.heap.size) (hN : w.heap[N]? = some (.cells (encS x).toArray 52 (0, 0))) (hv : v.ownBlock ≠ some N) :
    Calls Try.prog 69 #[v, .int .i64 i, .slice (some ⟨N, 0, none⟩) 1 1] w fun e w' => ∃ v', e = .returned v' ∧ w'.ownsRow base 52 3 v' (vs.length + 1) (fl encS (insL i x vs)) ∧ w.grownBy w' v.ownBlock := by
  have hx : RowA w (some ⟨N, 0, none⟩) (encS x) := fun _ => ⟨N, 0, rfl, fun j u hj => by rw [Nat.zero_add, (heap_cell hN j).1]; simpa using hj⟩
  rcases Nat.lt_or_ge i vs.length with h | h
  · obtain ⟨g, cap, cur, rfl, hbg, hnc, hcm, hC, htk⟩ := own_open ho (by omega)
    have hne : N ≠ g := by rintro rfl; exact hv rfl
    rcases Nat.lt_or_ge cap (vs.length + 1) with h2 | h2
    · refine (insS_grow g cap i cur vs x N w hl h h2 hnc hC htk hN).mono ?_
      rintro e w' ⟨g2, cap2, rfl, k1, k2, k3, ⟨cur', k4, k5⟩, k6⟩
      exact ⟨_, rfl, own_shut k4 (by omega) k2 k3 k5, ⟨k6.os, k6.tape, k6.output, k6.size, fun k hk _ => k6.block k hk (by simp)⟩⟩
    · refine (insS_shift g cap i cur vs x N w hl h h2 hcm hC htk hne hN).mono ?_
      rintro e w' ⟨rfl, ⟨cur', k4, k5⟩, k6⟩
      exact ⟨_, rfl, own_shut k4 hbg h2 hcm k5, k6⟩
  · obtain rfl : i = vs.length := by omega
    have hfl := fl_len encS_len vs
    rw [fl_ins encS_len, List.take_of_length_le (by omega), List.drop_eq_nil_of_le (by omega), List.append_nil]
    exact insS_end base vs v x N w hl ho hb hx

theorem zcS : (Builtin.zeroCells (Value.agg #[.int .u64 0, .int .i64 0, .int .i64 0]).cells 1).toList = encS (0, 0, 0) := by kernel_rfl
set_option maxHeartbeats 4000000 in
theorem delS_any (g cap i : Nat) (cur : List Value) (vs : List StatC) (w : World) (hl : vs.length ≤ 100) (hi : i < vs.length) (hcn : vs.length ≤ cap) (hcm : cap ≤ maxLen) (hC : Cur w 52 g cap cur) (htk : cur.take (vs.length * 3) = fl encS vs) :
    Calls Try.prog 70 #[.slice (some ⟨g, 0, none⟩) vs.length cap, .int .i64 i, .int .i64 ((i : Int) + 1)] w fun e w' => e = .returned (.slice (some ⟨g, 0, none⟩) (vs.length - 1) cap) ∧ (∃ cur', Cur w' 52 g cap cur' ∧ cur'.take ((vs.length - 1) * 3) = fl encS (cutA i vs)) ∧ w.grownBy w' (some g) := by
  have hfl := fl_len encS_len vs
  have HCUT := hide (fl_cut encS_len i vs)
  have HSB := hide (shift_back (cur := cur) (xs := fl encS vs) (zs := encS (0, 0, 0)) (i := i) (n := vs.length) (by rw [hC.len]; exact Nat.mul_le_mul_right _ hcn) hi htk rfl)
  obtain ⟨i0, hi0, hz0, hz1, hz2⟩ := info_parts Try.info52
  have HZ0 := hide hz0
  have HZ1 := hide hz1
  unfold maxLen at hcm
  obtain ⟨q, hq⟩ : ∃ q, vs.length = q + 1 := ⟨vs.length - 1, by omega⟩
  rw [hq] at hl hi hcn htk hfl HSB ⊢
  rw [show q + 1 - 1 = q from rfl] at HSB ⊢
  clear hq
  have hcell := drop_cells hC.drew htk
  have HCD := hide (hcell (i + 1))
  have HC1 := hide hC.drew
  have HFL := hide hfl
  clear hC htk hfl hcell hz0 hz1 hz2
  have hi2 : (i : Int) ≤ (q : Int) := by omega
  have hi3 : i ≤ q := by omega
  have hi4 : i ≤ q + 1 := by omega
  have hb1 : (0 : Int) ≤ (i : Int) + 1 := by omega
  have hb2 : (i : Int) + 1 ≤ (q : Int) + 1 := by omega
  have htn : ((i : Int) + 1).toNat = i + 1 := by omega
  have hne : ¬ (i : Int) = (i : Int) + 1 := by omega
  have hqq : i + (q - i) = q := by omega
  have hc0 : (q : Int) + 1 ≤ (cap : Int) := by omega
  have hc1 : ¬ q + 1 = i := by omega
  have hc2 : ¬ cap = q := by omega
  have hc3 : ¬ cap = i := by omega
  have hc4 : q ≤ cap := by omega
  have hc5 : i ≤ cap := by omega
  by_cases hc6 : cap = i + 1
  · obtain rfl : i = q := by omega
    subst hc6
    have hnil : (fl encS vs).drop ((i + 1) * 3) = [] := List.drop_eq_nil_of_le (by rw [unhide HFL]; omega)
    rw [hnil] at HSB
    clear HCD
    have hx9 : (i : Int) ≤ (i : Int) + 1 := by omega
    go_enter Try.func70, Try.ntmps70
    go_wp2
    go_region_law ((refine step_append3 rfl _ _ 24 rfl 52 i0 Try.underlying24 hi0 (unhide HZ1) g i (i + 1) cur (by simp [Act.eval, Act.put]) (unhide HC1) ⟨g, 0, none⟩ 0 0 [] (by simp [Act.eval, Act.put]) rfl ?_ ?_ ?_ ?_); (focus (intro j u hj; simp at hj)); (focus (intro v hv; cases hv)); (focus omega); intro w2 HC2 HG2)
    all_goals
      go_wp2_with ((refine wpList_clear3 rfl _ 24 rfl 52 i0 _ g (i * 3) 1 (i + 1) _ (encS (0, 0, 0)) Try.underlying24 hi0 (unhide HZ0) zcS (encS_one (0, 0, 0)) rfl (unhide HC2) ?_ ?_); (focus (rw [(unhide HC2).len, encS_len]; omega)); intro w3 HC3 HG3)
      go_ret
      refine ⟨rfl, ⟨_, unhide HC3, by rw [unhide HCUT, hnil]; exact unhide HSB⟩, grown_trans (grown_trans grown_drew (unhide HG2)) (unhide HG3)⟩
  · go_enter Try.func70, Try.ntmps70
    go_wp2
    go_region_law ((refine step_append3 rfl _ _ 24 rfl 52 i0 Try.underlying24 hi0 (unhide HZ1) g i cap cur (by simp [Act.eval, Act.put]) (unhide HC1) ⟨g, (i + 1) * 3, none⟩ (q - i) (cap - (i + 1)) ((fl encS vs).drop ((i + 1) * 3)) (by simp [Act.eval, Act.put]) ?_ ?_ ?_ ?_ ?_); (focus (rw [List.length_drop, unhide HFL]; omega)); (focus (intro j u hj; rw [addr_add]; exact unhide HCD j u hj)); (focus (exact fun v hv => fl_one encS_one vs v (List.mem_of_mem_drop hv))); (focus omega); intro w2 HC2 HG2)
    all_goals
      go_wp2_with ((refine wpList_clear3 rfl _ 24 rfl 52 i0 _ g (q * 3) (cap - q) cap _ (encS (0, 0, 0)) Try.underlying24 hi0 (unhide HZ0) zcS (encS_one (0, 0, 0)) rfl (unhide HC2) ?_ ?_); (focus (rw [(unhide HC2).len, encS_len]; omega)); intro w3 HC3 HG3)
      go_ret
      refine ⟨rfl, ⟨_, unhide HC3, by rw [unhide HCUT]; exact unhide HSB⟩, grown_trans (grown_trans grown_drew (unhide HG2)) (unhide HG3)⟩
end Go.Proofs.Ytbbadncdkiganaa
