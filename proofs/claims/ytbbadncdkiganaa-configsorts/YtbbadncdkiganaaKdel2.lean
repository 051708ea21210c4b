/- slices.Delete of one VLAN. -/
import Derived.Test.YtbbadncdkiganaaKdel
namespace Go.Proofs.Ytbbadncdkiganaa
open Go.RowKit
set_option linter.unusedVariables false
set_option maxRecDepth 4000

def cutA {α : Type} (i : Nat) (l : List α) : List α := l.take i ++ l.drop (i + 1)
theorem fl_cut {α : Type} {enc : α → List Value} (h : ∀ x, (enc x).length = 3) (i : Nat) (l : List α) : fl enc (cutA i l) = (fl enc l).take (i * 3) ++ (fl enc l).drop ((i + 1) * 3) := by
  unfold cutA
  rw [fl_app, fl_take h, fl_drop h]
theorem cut_len {α : Type} (i : Nat) (l : List α) (h : i < l.length) : (cutA i l).length = l.length - 1 := by
  unfold cutA
  simp
  omega
theorem zcV : (Builtin.zeroCells (Value.agg #[.int .i64 0, .int .u8 0, .int .u8 0]).cells 1).toList = encV (0, 0, 0) := by kernel_rfl
set_option maxHeartbeats 4000000 in
theorem delV_any (g cap i : Nat) (cur : List Value) (vs : List VlanC) (w : World) (hl : vs.length ≤ 100) (hi : i < vs.length) (hcn : vs.length ≤ cap) (hcm : cap ≤ maxLen) (hC : Cur w 46 g cap cur) (htk : cur.take (vs.length * 3) = fl encV vs) :
    Calls Try.prog 67 #[.slice (some ⟨g, 0, none⟩) vs.length cap, .int .i64 i, .int .i64 ((i : Int) + 1)] w fun e w' => e = .returned (.slice (some ⟨g, 0, none⟩) (vs.length - 1) cap) ∧ (∃ cur', Cur w' 46 g cap cur' ∧ cur'.take ((vs.length - 1) * 3) = fl encV (cutA i vs)) ∧ w.grownBy w' (some g) := by
  have hfl := fl_len encV_len vs
  have HCUT := hide (fl_cut encV_len i vs)
  have HSB := hide (shift_back (cur := cur) (xs := fl encV vs) (zs := encV (0, 0, 0)) (i := i) (n := vs.length) (by rw [hC.len]; exact Nat.mul_le_mul_right _ hcn) hi htk rfl)
  obtain ⟨i0, hi0, hz0, hz1, hz2⟩ := info_parts Try.info46
  have HZ0 := hide hz0
  have HZ1 := hide hz1
  unfold maxLen at hcm
  obtain ⟨q, hq⟩ : ∃ q, vs.length = q + 1 := ⟨vs.length - 1, by omega⟩
  rw [hq] at hl hi hcn htk hfl HSB ⊢
  rw [show q + 1 - 1 = q from rfl] at HSB ⊢
  clear hq
  have hcell := drop_cells hC.drew htk
  have HCD := hide (hcell (i + 1))
  have HC1 := hide hC.drew
  have HFL := hide hfl
  clear hC htk hfl hcell hz0 hz1 hz2
  have hi2 : (i : Int) ≤ (q : Int) := by omega
  have hi3 : i ≤ q := by omega
  have hi4 : i ≤ q + 1 := by omega
  have hb1 : (0 : Int) ≤ (i : Int) + 1 := by omega
  have hb2 : (i : Int) + 1 ≤ (q : Int) + 1 := by omega
  have htn : ((i : Int) + 1).toNat = i + 1 := by omega
  have hne : ¬ (i : Int) = (i : Int) + 1 := by omega
  have hqq : i + (q - i) = q := by omega
  have hc0 : (q : Int) + 1 ≤ (cap : Int) := by omega
  have hc1 : ¬ q + 1 = i := by omega
  have hc2 : ¬ cap = q := by omega
  have hc3 : ¬ cap = i := by omega
  have hc4 : q ≤ cap := by omega
  have hc5 : i ≤ cap := by omega
  by_cases hc6 : cap = i + 1
  · obtain rfl : i = q := by omega
    subst hc6
    have hnil : (fl encV vs).drop ((i + 1) * 3) = [] := List.drop_eq_nil_of_le (by rw [unhide HFL]; omega)
    rw [hnil] at HSB
    clear HCD
    have hx9 : (i : Int) ≤ (i : Int) + 1 := by omega
    go_enter Try.func67, Try.ntmps67
    go_wp2
    go_region_law ((refine step_append3 rfl _ _ 23 rfl 46 i0 Try.underlying23 hi0 (unhide HZ1) g i (i + 1) cur (by simp [Act.eval, Act.put]) (unhide HC1) ⟨g, 0, none⟩ 0 0 [] (by simp [Act.eval, Act.put]) rfl ?_ ?_ ?_ ?_); (focus (intro j u hj; simp at hj)); (focus (intro v hv; cases hv)); (focus omega); intro w2 HC2 HG2)
    all_goals
      go_wp2_with ((refine wpList_clear3 rfl _ 23 rfl 46 i0 _ g (i * 3) 1 (i + 1) _ (encV (0, 0, 0)) Try.underlying23 hi0 (unhide HZ0) zcV (encV_one (0, 0, 0)) rfl (unhide HC2) ?_ ?_); (focus (rw [(unhide HC2).len, encV_len]; omega)); intro w3 HC3 HG3)
      go_ret
      refine ⟨rfl, ⟨_, unhide HC3, by rw [unhide HCUT, hnil]; exact unhide HSB⟩, grown_trans (grown_trans grown_drew (unhide HG2)) (unhide HG3)⟩
  · go_enter Try.func67, Try.ntmps67
    go_wp2
    go_region_law ((refine step_append3 rfl _ _ 23 rfl 46 i0 Try.underlying23 hi0 (unhide HZ1) g i cap cur (by simp [Act.eval, Act.put]) (unhide HC1) ⟨g, (i + 1) * 3, none⟩ (q - i) (cap - (i + 1)) ((fl encV vs).drop ((i + 1) * 3)) (by simp [Act.eval, Act.put]) ?_ ?_ ?_ ?_ ?_); (focus (rw [List.length_drop, unhide HFL]; omega)); (focus (intro j u hj; rw [addr_add]; exact unhide HCD j u hj)); (focus (exact fun v hv => fl_one encV_one vs v (List.mem_of_mem_drop hv))); (focus omega); intro w2 HC2 HG2)
    all_goals
      go_wp2_with ((refine wpList_clear3 rfl _ 23 rfl 46 i0 _ g (q * 3) (cap - q) cap _ (encV (0, 0, 0)) Try.underlying23 hi0 (unhide HZ0) zcV (encV_one (0, 0, 0)) rfl (unhide HC2) ?_ ?_); (focus (rw [(unhide HC2).len, encV_len]; omega)); intro w3 HC3 HG3)
      go_ret
      refine ⟨rfl, ⟨_, unhide HC3, by rw [unhide HCUT]; exact unhide HSB⟩, grown_trans (grown_trans grown_drew (unhide HG2)) (unhide HG3)⟩
end Go.Proofs.Ytbbadncdkiganaa
