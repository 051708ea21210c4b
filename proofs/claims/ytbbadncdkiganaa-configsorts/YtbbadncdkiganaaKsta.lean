/- ConfigStays: mathematics; edits whose answer is told as one. -/
import Derived.Test.YtbbadncdkiganaaKwak
namespace Go.Proofs.Ytbbadncdkiganaa
open Go.RowKit
set_option linter.unusedVariables false
set_option maxRecDepth 4000

def nilC : Cfg := ⟨0, 0, 0, [], [], []⟩
def resC (c : Cfg) (l : List Ed) : Cfg := if editE c l = 0 then editC c l else nilC
theorem res_no {c : Cfg} {l : List Ed} (h : editE c l ≠ 0) : resC c l = nilC := if_neg h
theorem res_ok {c : Cfg} {l : List Ed} (h : editE c l = 0) : resC c l = editC c l := if_pos h
theorem all_way : ∀ (l : List Ed) (c : Cfg) (k : Nat), Way c k → (∀ e ∈ l, 0 ≤ e.member ∧ e.member ≤ 255) → ∃ j, Way (applyAll c l).2 j
  | [], c, k, h, _ => ⟨k, h⟩
  | e :: l, c, k, h, hm => by
    simp only [applyAll]
    split
    · exact all_way l _ (k + 1) (h.next e (hm e (by simp))) (fun x hx => hm x (by simp [hx]))
    · exact ⟨k, h⟩
theorem edit_parts {c : Cfg} {l : List Ed} (h : editE c l = 0) : goodB c = true ∧ l.length ≤ 32 ∧ (applyAll c l).1 = 0 ∧ goodB (editC c l) = true := by
  unfold editE at h
  unfold editC
  split at h
  · cases h
  · rename_i h1
    split at h
    · cases h
    · rename_i h2
      split at h
      · rename_i h3
        exact absurd h h3
      · rename_i h3
        split at h
        · rename_i h4
          exact ⟨by simpa using h1, by omega, by simpa using h3, h4⟩
        · cases h
theorem edit_of {c : Cfg} {l : List Ed} (h1 : goodB c = true) (h2 : l.length ≤ 32) (h3 : (applyAll c l).1 = 0) (h4 : goodB (editC c l) = true) : editE c l = 0 := by
  unfold editE
  unfold editC at h4
  rw [if_neg (by rw [h1]; simp), if_neg (by omega), if_neg (by rw [h3]; simp), if_pos h4]
theorem all_app (c : Cfg) : ∀ (a b : List Ed), (applyAll c a).1 = 0 → applyAll c (a ++ b) = applyAll (applyAll c a).2 b := by
  intro a
  induction a generalizing c with
  | nil => intro b _; rfl
  | cons x t ih =>
    intro b h
    by_cases h2 : (applyE c x).1 = 0
    · have hx : ∀ r, applyAll c (x :: r) = applyAll (applyE c x).2 r := fun r => by simp [applyAll, h2]
      rw [hx] at h
      rw [List.cons_append, hx, hx]
      exact ih _ b h
    · have hx : applyAll c (x :: t) = ((applyE c x).1, c) := by simp [applyAll, h2]
      rw [hx] at h
      exact absurd h h2
/-- Edits in two calls. -/
theorem two_edits (c : Cfg) (l : List Ed) (k : Nat) (hl : l.length ≤ 32) (h : editE c (l.take k) = 0) :
    editE (resC c (l.take k)) (l.drop k) = editE c l ∧ resC (resC c (l.take k)) (l.drop k) = resC c l := by
  obtain ⟨h1, h2, h3, h4⟩ := edit_parts h
  have ha := all_app c (l.take k) (l.drop k) h3
  rw [List.take_append_drop] at ha
  have hr : resC c (l.take k) = (applyAll c (l.take k)).2 := by rw [res_ok h]; rfl
  have hg : goodB (applyAll c (l.take k)).2 = true := h4
  have he : editE (resC c (l.take k)) (l.drop k) = editE c l := by
    rw [hr]
    unfold editE
    rw [if_neg (show ¬ goodB (applyAll c (l.take k)).2 = false from by rw [hg]; simp), if_neg (show ¬ 32 < (l.drop k).length from by rw [List.length_drop]; omega), if_neg (show ¬ goodB c = false from by rw [h1]; simp), if_neg (show ¬ 32 < l.length from by omega), ha]
  refine ⟨he, ?_⟩
  have hc : editC (resC c (l.take k)) (l.drop k) = editC c l := by
    rw [hr]
    unfold editC
    rw [ha]
  show (if editE (resC c (l.take k)) (l.drop k) = 0 then editC (resC c (l.take k)) (l.drop k) else nilC) = (if editE c l = 0 then editC c l else nilC)
  rw [he, hc]
theorem res_lens (c : Cfg) (l : List Ed) : Lens (resC c l) := by
  by_cases h : editE c l = 0
  · rw [res_ok h]
    have hg := (edit_parts h).2.2.2
    simp only [goodB, Bool.and_eq_true] at hg
    have := sizes_lim hg.1.1.1.1
    exact ⟨maxLen_ge _ (by omega), maxLen_ge _ (by omega), maxLen_ge _ (by omega)⟩
  · rw [res_no h]
    exact ⟨maxLen_ge _ (by simp [nilC]), maxLen_ge _ (by simp [nilC]), maxLen_ge _ (by simp [nilC])⟩
theorem res_mems (c : Cfg) (l : List Ed) (hM : Mems c) (hEm : ∀ e ∈ l, 0 ≤ e.member ∧ e.member ≤ 255) : Mems (resC c l) := by
  by_cases h : editE c l = 0
  · rw [res_ok h]
    obtain ⟨j, hj⟩ := all_way l c 0 (way_good hM (edit_parts h).1) hEm
    exact hj.mem
  · rw [res_no h]
    intro v hv
    simp [nilC] at hv
theorem CfgO.adr {w : World} {base : Nat} {c : Cfg} {A1 A2 A3 : Option Addr} {n1 n2 n3 c1 c2 c3 : Nat} (h : CfgO w base c (.slice A1 n1 c1) (.slice A2 n2 c2) (.slice A3 n3 c3)) : CfgA w c A1 A2 A3 := by
  obtain ⟨Ap', Av', As', cp', cv', cs', e1, e2, e3, h⟩ := h.open
  simp only [Value.slice.injEq] at e1 e2 e3
  obtain ⟨rfl, _⟩ := e1
  obtain ⟨rfl, _⟩ := e2
  obtain ⟨rfl, _⟩ := e3
  exact h
/-- What Edit answers, told as one. -/
def EdP (R : Cfg) (en : Int) (W : World) (x : Ending) (w' : World) : Prop :=
  Below W.heap.size W w' ∧ ∃ A1 k1 A2 k2 A3 k3, x = .returned (.tuple #[.agg #[.int .i64 R.prio, .int .i64 R.age, .int .i64 R.delay, .slice A1 R.ports.length k1, .slice A2 R.vlans.length k2, .slice A3 R.stats.length k3], .int .i64 en]) ∧ CfgO w' W.heap.size R (.slice A1 R.ports.length k1) (.slice A2 R.vlans.length k2) (.slice A3 R.stats.length k3)
theorem edit_uni (c : Cfg) (l : List Ed) (Ap Av As A : Option Addr) (cp cv cs ce : Nat) (hL : Lens c) (hM : Mems c) (w : World) (hA : CfgA w c Ap Av As) (hE : RowA w A (flE l)) (hl : l.length ≤ maxLen) (hEm : ∀ e ∈ l, 0 ≤ e.member ∧ e.member ≤ 255) :
    Calls Try.prog 19 #[.agg #[.int .i64 c.prio, .int .i64 c.age, .int .i64 c.delay, .slice Ap c.ports.length cp, .slice Av c.vlans.length cv, .slice As c.stats.length cs], .slice A l.length ce] w (EdP (resC c l) (editE c l) w) := by
  refine (edit_any c l Ap Av As A cp cv cs ce hL hM w hA hE hl hEm).mono ?_
  rintro x w' ⟨hb, h⟩
  refine ⟨hb, ?_⟩
  rcases h with ⟨h0, h⟩ | ⟨h0, vp, vv, vs, h1, h2⟩
  · rw [res_no h0]
    exact ⟨none, 0, none, 0, none, 0, h, World.ownsRow_nil _ _ _ _, World.ownsRow_nil _ _ _ _, World.ownsRow_nil _ _ _ _⟩
  · obtain ⟨Ap', Av', As', cp', cv', cs', rfl, rfl, rfl, h3⟩ := h2.open
    rw [res_ok h0, h0]
    exact ⟨_, _, _, _, _, _, h1, h2⟩
theorem flE_at (l m : List Ed) : flE (l ++ m) = flE l ++ flE m := by unfold flE; rw [List.flatMap_append]
theorem row_takeE {w : World} {A : Option Addr} {l : List Ed} (k : Nat) (h : RowA w A (flE l)) : RowA w A (flE (l.take k)) := by
  intro hne
  have e : flE l = flE (l.take k) ++ flE (l.drop k) := by rw [← flE_at, List.take_append_drop]
  obtain ⟨b, off, rfl, hc⟩ := h (by rw [e]; simp [hne])
  refine ⟨b, off, rfl, fun j u hj => hc j u ?_⟩
  rw [e, List.getElem?_append_left (List.getElem?_eq_some_iff.1 hj).1]
  exact hj
theorem row_dropE {w : World} {x : Addr} {l : List Ed} (k : Nat) (hk : k ≤ l.length) (h : RowA w (some x) (flE l)) : RowA w (some (x.add (k * 7))) (flE (l.drop k)) := by
  intro hne
  have e : flE l = flE (l.take k) ++ flE (l.drop k) := by rw [← flE_at, List.take_append_drop]
  obtain ⟨b, off, hx, hc⟩ := h (by rw [e]; simp [hne])
  cases hx
  refine ⟨b, off + k * 7, by rw [addr_add], fun j u hj => ?_⟩
  have hl : (flE (l.take k)).length = k * 7 := by rw [flE_len, List.length_take, Nat.min_eq_left hk]
  have := hc (k * 7 + j) u (by rw [e, List.getElem?_append_right (by omega), hl, Nat.add_sub_cancel_left]; exact hj)
  rw [Nat.add_assoc]
  exact this
theorem same_refl (c : Cfg) : sameB c c = true := by simp [sameB]
/-- A VLAN that is set and deleted again. -/
theorem ris_last : ∀ (l : List VlanC) (z : VlanC), risB ltV l = true → l.getLast? = some z → ∀ v ∈ l, v.1 ≤ z.1
  | [], z, _, _, v, hv => by simp at hv
  | [a], z, _, hz, v, hv => by
    simp at hz hv
    subst hz; subst hv
    exact Int.le_refl _
  | a :: b :: t, z, hr, hz, v, hv => by
    simp only [risB, Bool.and_eq_true] at hr
    have ih := ris_last (b :: t) z hr.2 (by rw [← hz, List.getLast?_cons_cons])
    have hab : a.1 < b.1 := by simpa [ltV] using hr.1
    rcases List.mem_cons.1 hv with rfl | hv
    · have := ih b (by simp)
      omega
    · exact ih v hv
theorem at_all {l r : List VlanC} {x : VlanC} (h : ∀ v ∈ l, v.1 < x.1) (hr : r = [] ∨ ∃ y t, r = y :: t ∧ ¬ y.1 < x.1) : atL ltV x (l ++ r) = l.length := by
  unfold atL
  rw [List.takeWhile_append_of_pos (by intro v hv; simpa [ltV] using h v hv)]
  rcases hr with rfl | ⟨y, t, rfl, hy⟩
  · simp
  · rw [List.takeWhile_cons_of_neg (by simpa [ltV] using hy)]
    simp
theorem put_cut (l : List VlanC) (h : ∀ v ∈ l, v.1 < 4094) : hasL ltV eqV (4094, 0, 0) (putL ltV eqV (4094, 0, 0) l) = true ∧ cutL ltV (4094, 0, 0) (putL ltV eqV (4094, 0, 0) l) = l := by
  have e1 : atL ltV (4094, 0, 0) l = l.length := by
    have := at_all (r := []) (x := (4094, 0, 0)) h (.inl rfl)
    rwa [List.append_nil] at this
  have e2 : atL ltV (4094, 0, 0) (l ++ [(4094, 0, 0)]) = l.length := at_all h (.inr ⟨_, _, rfl, by simp⟩)
  have hp : putL ltV eqV (4094, 0, 0) l = l ++ [(4094, 0, 0)] := by
    have hh : hasL ltV eqV (4094, 0, 0) l = false := by
      unfold hasL
      rw [e1, List.getElem?_eq_none (Nat.le_refl _)]
    unfold putL
    rw [hh, e1]
    simp
  rw [hp]
  constructor
  · unfold hasL
    rw [e2]
    simp [eqV]
  · unfold cutL
    rw [e2]
    simp
def setDel : List Ed := [⟨7, 0, 0, 4094, 0, 0, 0⟩, ⟨8, 0, 0, 4094, 0, 0, 0⟩]
theorem set_del (c : Cfg) (h : goodB c = true) (hz : ∀ z, c.vlans.getLast? = some z → z.1 ≠ 4094) : editE c setDel = 0 ∧ resC c setDel = c := by
  have hv : ∀ v ∈ c.vlans, v.1 < 4094 := by
    have h' := h
    simp only [goodB, Bool.and_eq_true] at h'
    have h3 := h'.1.1.2
    simp only [vlansB, Bool.and_eq_true] at h3
    intro v hv
    obtain ⟨z, hl⟩ : ∃ z, c.vlans.getLast? = some z := by
      cases hc : c.vlans with
      | nil => rw [hc] at hv; simp at hv
      | cons a t => exact ⟨_, List.getLast?_cons⟩
    have hle := ris_last c.vlans z h3.2 hl v hv
    have hzm : z ∈ c.vlans := List.mem_of_getLast? hl
    have := (List.all_eq_true.1 h3.1) z hzm
    simp only [vlanOk, Bool.and_eq_true] at this
    have := wi_t this.1.1
    have := hz z hl
    omega
  obtain ⟨p1, p2⟩ := put_cut c.vlans hv
  have ha : applyAll c setDel = (0, c) := by
    simp [setDel, applyAll, applyE, p1, p2]
  have hc : editC c setDel = c := by unfold editC; rw [ha]
  have he : editE c setDel = 0 := edit_of h (by decide) (by rw [ha]) (by rw [hc]; exact h)
  exact ⟨he, by rw [res_ok he, hc]⟩
end Go.Proofs.Ytbbadncdkiganaa
