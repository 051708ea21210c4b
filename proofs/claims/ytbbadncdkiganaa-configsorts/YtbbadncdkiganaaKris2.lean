/- Plain mathematics: what is put, or goes, leaves a list rising. -/
import Derived.Test.YtbbadncdkiganaaKput
namespace Go.Proofs.Ytbbadncdkiganaa
open Go.RowKit
set_option linter.unusedVariables false

theorem ris_intro {α : Type} {lt : α → α → Bool} : ∀ {l : List α}, (∀ i x y, l[i]? = some x → l[i + 1]? = some y → lt x y = true) → risB lt l = true
  | [], _ => rfl
  | [x], _ => rfl
  | x :: y :: t, h => by
    simp only [risB, Bool.and_eq_true]
    exact ⟨h 0 x y rfl rfl, ris_intro (l := y :: t) (fun i a b ha hb => h (i + 1) a b (by simpa using ha) (by simpa using hb))⟩
theorem at_lt {α : Type} {lt : α → α → Bool} {x : α} : ∀ {l : List α} (t : Nat) (y : α), t < atL lt x l → l[t]? = some y → lt y x = true
  | [], t, y, _, h => by simp at h
  | a :: l, t, y, ht, h => by
    unfold atL at ht
    rw [List.takeWhile_cons] at ht
    cases ha : lt a x with
    | false => rw [ha] at ht; simp at ht
    | true =>
      rw [ha] at ht
      cases t with
      | zero => simp at h; subst h; exact ha
      | succ t => exact at_lt (l := l) t y (by simpa [atL] using ht) (by simpa using h)
theorem at_not {α : Type} {lt : α → α → Bool} {x : α} : ∀ {l : List α} (y : α), l[atL lt x l]? = some y → lt y x = false
  | [], y, h => by simp at h
  | a :: l, y, h => by
    unfold atL at h
    rw [List.takeWhile_cons] at h
    cases ha : lt a x with
    | false => rw [ha] at h; simp at h; subst h; exact ha
    | true =>
      rw [ha] at h
      exact at_not (l := l) y (by simpa [atL] using h)
/-- Of two one is less, or they are alike. -/
def Tri {α : Type} (lt eq : α → α → Bool) : Prop := (∀ a b, lt a b = false → eq a b = false → lt b a = true) ∧ (∀ a b c, eq a b = true → lt c a = true → lt c b = true) ∧ (∀ a b c, eq a b = true → lt a c = true → lt b c = true)
theorem triV : Tri ltV eqV := by
  refine ⟨fun a b h1 h2 => ?_, fun a b c h1 h2 => ?_, fun a b c h1 h2 => ?_⟩ <;> simp [ltV, eqV] at * <;> omega
theorem triS : Tri ltS eqS := by
  refine ⟨fun a b h1 h2 => ?_, fun a b c h1 h2 => ?_, fun a b c h1 h2 => ?_⟩ <;> simp [ltS, eqS] at * <;> omega
theorem ris_adj {α : Type} {lt : α → α → Bool} : ∀ {l : List α}, risB lt l = true → ∀ i x y, l[i]? = some x → l[i + 1]? = some y → lt x y = true
  | [], _, i, x, y, h, _ => by simp at h
  | [a], _, i, x, y, _, h => by simp at h
  | a :: b :: t, h, 0, x, y, hx, hy => by
    simp at hx hy
    subst hx; subst hy
    simp only [risB, Bool.and_eq_true] at h
    exact h.1
  | a :: b :: t, h, i + 1, x, y, hx, hy => ris_adj (ris_tail h) i x y (by simpa using hx) (by simpa using hy)
theorem ris_put {α : Type} {lt eq : α → α → Bool} (ht : Trans lt) (h3 : Tri lt eq) {l : List α} (h : risB lt l = true) (x : α) : risB lt (putL lt eq x l) = true := by
  have hle := at_le lt x l
  unfold putL
  cases hh : hasL lt eq x l with
  | true =>
    rw [if_pos rfl]
    have hlt : atL lt x l < l.length := by
      rcases Nat.lt_or_ge (atL lt x l) l.length with h | h
      · exact h
      · rw [has_end (by omega)] at hh
        cases hh
    obtain ⟨z, hz⟩ : ∃ z, l[atL lt x l]? = some z := ⟨_, List.getElem?_eq_getElem hlt⟩
    have hez : eq z x = true := by rw [← has_at (eq := eq) rfl hz]; exact hh
    refine ris_intro (fun i a b ha hb => ?_)
    rw [List.getElem?_set] at ha hb
    split at ha
    · rename_i e1
      cases ha
      split at hb
      · omega
      · subst e1
        exact h3.2.2 z _ b hez (ris_adj h _ z b hz hb)
    · split at hb
      · rename_i e2
        cases hb
        exact h3.2.1 z _ a hez (ris_adj h i a z ha (by rw [← e2]; exact hz))
      · exact ris_adj h i a b ha hb
  | false =>
    rw [if_neg (by simp)]
    refine ris_intro (fun i a b ha hb => ?_)
    generalize hk : atL lt x l = k at *
    have htl : (l.take k).length = k := by rw [List.length_take]; omega
    rcases Nat.lt_trichotomy (i + 1) k with h1 | h1 | h1
    · rw [List.getElem?_append_left (by omega), List.getElem?_take, if_pos (by omega)] at ha
      rw [List.getElem?_append_left (by omega), List.getElem?_take, if_pos (by omega)] at hb
      exact ris_adj h i a b ha hb
    · rw [List.getElem?_append_left (by omega), List.getElem?_take, if_pos (by omega)] at ha
      rw [List.getElem?_append_right (by omega), htl, h1, Nat.sub_self] at hb
      simp at hb
      subst hb
      exact at_lt i a (by omega) ha
    · rw [List.getElem?_append_right (by omega), htl, show i + 1 - k = (i - k) + 1 from by omega, List.getElem?_cons_succ, List.getElem?_drop] at hb
      rw [List.getElem?_append_right (by omega), htl] at ha
      rcases Nat.lt_or_ge k i with h2 | h2
      · rw [show i - k = (i - k - 1) + 1 from by omega, List.getElem?_cons_succ, List.getElem?_drop] at ha
        rw [show k + (i - k) = (k + (i - k - 1)) + 1 from by omega] at hb
        exact ris_adj h _ a b ha hb
      · obtain rfl : i = k := by omega
        rw [Nat.sub_self] at ha hb
        simp at ha
        subst ha
        rw [Nat.add_zero] at hb
        subst hk
        have hn := at_not b hb
        have he : eq b x = false := by rw [← has_at (eq := eq) rfl hb]; exact hh
        exact h3.1 b x hn he
theorem ris_cut {α : Type} {lt : α → α → Bool} (ht : Trans lt) {l : List α} (h : risB lt l = true) (x : α) : risB lt (cutL lt x l) = true := by
  have hle := at_le lt x l
  unfold cutL
  generalize atL lt x l = k at *
  have htl : (l.take k).length = k := by rw [List.length_take]; omega
  refine ris_intro (fun i a b ha hb => ?_)
  rcases Nat.lt_trichotomy (i + 1) k with h1 | h1 | h1
  · rw [List.getElem?_append_left (by omega), List.getElem?_take, if_pos (by omega)] at ha
    rw [List.getElem?_append_left (by omega), List.getElem?_take, if_pos (by omega)] at hb
    exact ris_adj h i a b ha hb
  · rw [List.getElem?_append_left (by omega), List.getElem?_take, if_pos (by omega)] at ha
    rw [List.getElem?_append_right (by omega), htl, List.getElem?_drop] at hb
    exact ris_get ht h i _ a b (by omega) ha hb
  · rw [List.getElem?_append_right (by omega), htl, List.getElem?_drop] at hb
    rw [List.getElem?_append_right (by omega), htl, List.getElem?_drop] at ha
    exact ris_get ht h _ _ a b (by omega) ha hb
theorem put_len {α : Type} (lt eq : α → α → Bool) (x : α) (l : List α) : (putL lt eq x l).length ≤ l.length + 1 := by
  have := at_le lt x l
  unfold putL
  split
  · simp
  · simp; omega
theorem cut_le {α : Type} (lt : α → α → Bool) (x : α) (l : List α) : (cutL lt x l).length ≤ l.length := by
  have := at_le lt x l
  unfold cutL
  simp
  omega
theorem put_mem {α : Type} {lt eq : α → α → Bool} {x y : α} {l : List α} (h : y ∈ putL lt eq x l) : y = x ∨ y ∈ l := by
  unfold putL at h
  split at h
  · rcases List.mem_or_eq_of_mem_set h with h | h
    · exact .inr h
    · exact .inl h
  · rcases List.mem_append.1 h with h | h
    · exact .inr (List.mem_of_mem_take h)
    · rcases List.mem_cons.1 h with h | h
      · exact .inl h
      · exact .inr (List.mem_of_mem_drop h)
theorem cut_mem {α : Type} {lt : α → α → Bool} {x y : α} {l : List α} (h : y ∈ cutL lt x l) : y ∈ l := by
  unfold cutL at h
  rcases List.mem_append.1 h with h | h
  · exact List.mem_of_mem_take h
  · exact List.mem_of_mem_drop h
/-- A configuration on the way: its lists rise, and are no longer than so much. -/
structure Way (c : Cfg) (k : Nat) : Prop where
  rv : risB ltV c.vlans = true
  rs : risB ltS c.stats = true
  lp : c.ports.length ≤ 8
  lv : c.vlans.length ≤ 16 + k
  ls : c.stats.length ≤ 16 + k
  mem : ∀ v ∈ c.vlans, 0 ≤ v.2.1 ∧ v.2.1 ≤ 255
theorem port_len (ps : List PortC) (e : Ed) : (portE ps e).2.length = ps.length := by
  unfold portE
  split
  · rfl
  · repeat' split
    all_goals simp
theorem Way.next {c : Cfg} {k : Nat} (h : Way c k) (e : Ed) (he : 0 ≤ e.member ∧ e.member ≤ 255) : Way (applyE c e).2 (k + 1) := by
  obtain ⟨h1, h2, h3, h4, h5, h6⟩ := h
  have l1 := put_len ltV eqV (e.vlan, e.member, e.tagged) c.vlans
  have l2 := cut_le ltV (e.vlan, 0, 0) c.vlans
  have l3 := put_len ltS eqS (e.mac, e.vlan, e.port) c.stats
  have l4 := cut_le ltS (e.mac, e.vlan, 0) c.stats
  have l5 := port_len c.ports e
  have m1 : ∀ v ∈ putL ltV eqV (e.vlan, e.member, e.tagged) c.vlans, 0 ≤ v.2.1 ∧ v.2.1 ≤ 255 := fun v hv => by
    rcases put_mem hv with rfl | hv
    · exact he
    · exact h6 v hv
  have m2 : ∀ v ∈ cutL ltV (e.vlan, 0, 0) c.vlans, 0 ≤ v.2.1 ∧ v.2.1 ≤ 255 := fun v hv => h6 v (cut_mem hv)
  have r1 := ris_put transV triV h1 (e.vlan, e.member, e.tagged)
  have r2 := ris_cut transV h1 (e.vlan, 0, 0)
  have r3 := ris_put transS triS h2 (e.mac, e.vlan, e.port)
  have r4 := ris_cut transS h2 (e.mac, e.vlan, 0)
  unfold applyE
  repeat' split
  all_goals (refine ⟨?_, ?_, ?_, ?_, ?_, ?_⟩ <;> dsimp only)
  all_goals first | assumption | omega
end Go.Proofs.Ytbbadncdkiganaa
