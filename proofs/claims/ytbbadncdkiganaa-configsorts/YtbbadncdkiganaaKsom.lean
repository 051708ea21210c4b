/- ConfigSorts: mathematics: whatever the order, the same configuration, and it rises. -/
import Derived.Test.YtbbadncdkiganaaKsta
import Derived.Test.YtbbadncdkiganaaKris2
namespace Go.Proofs.Ytbbadncdkiganaa
open Go.RowKit
set_option linter.unusedVariables false
set_option maxRecDepth 4000
theorem put_iff {α : Type} {lt eq : α → α → Bool} {x : α} {l : List α} (h : ∀ y ∈ l, eq y x = true → y = x) (y : α) : y ∈ putL lt eq x l ↔ y = x ∨ y ∈ l := by
  unfold putL hasL
  cases hg : l[atL lt x l]? with
  | none =>
    simp only [Bool.false_eq_true, if_false]
    have e := List.take_append_drop (atL lt x l) l
    constructor
    · intro hy
      rcases List.mem_append.1 hy with h1 | h1
      · exact .inr (List.mem_of_mem_take h1)
      · rcases List.mem_cons.1 h1 with h2 | h2
        · exact .inl h2
        · exact .inr (List.mem_of_mem_drop h2)
    · rintro (rfl | hy)
      · exact List.mem_append.2 (.inr (List.mem_cons_self))
      · rw [← e] at hy
        rcases List.mem_append.1 hy with h1 | h1
        · exact List.mem_append.2 (.inl h1)
        · exact List.mem_append.2 (.inr (List.mem_cons_of_mem _ h1))
  | some z =>
    simp only
    by_cases hz : eq z x = true
    · have hzm : z ∈ l := List.mem_of_getElem? hg
      have hzx := h z hzm hz
      subst hzx
      rw [if_pos hz]
      have hs : l.set (atL lt z l) z = l := by
        apply List.ext_getElem?
        intro i
        rw [List.getElem?_set]
        split
        · rename_i hi; subst hi; split
          · exact hg.symm
          · rw [List.getElem?_eq_none (by omega)]
        · rfl
      rw [hs]
      exact ⟨.inr, fun h => h.elim (fun e => e ▸ hzm) id⟩
    · rw [if_neg hz]
      have e := List.take_append_drop (atL lt x l) l
      constructor
      · intro hy
        rcases List.mem_append.1 hy with h1 | h1
        · exact .inr (List.mem_of_mem_take h1)
        · rcases List.mem_cons.1 h1 with h2 | h2
          · exact .inl h2
          · exact .inr (List.mem_of_mem_drop h2)
      · rintro (rfl | hy)
        · exact List.mem_append.2 (.inr (List.mem_cons_self))
        · rw [← e] at hy
          rcases List.mem_append.1 hy with h1 | h1
          · exact List.mem_append.2 (.inl h1)
          · exact List.mem_append.2 (.inr (List.mem_cons_of_mem _ h1))
/-- Two lists that rise and have the same members are the same. -/
theorem ris_ext {α : Type} {lt : α → α → Bool} (ht : Trans lt) (hi : ∀ a, lt a a = false) : ∀ (l m : List α), risB lt l = true → risB lt m = true → (∀ y, y ∈ l ↔ y ∈ m) → l = m
  | [], [], _, _, _ => rfl
  | [], b :: m, _, _, h => by have := (h b).2 (by simp); cases this
  | a :: l, [], _, _, h => by have := (h a).1 (by simp); cases this
  | a :: l, b :: m, h1, h2, h => by
    have ha : ∀ y ∈ l, lt a y = true := fun y hy => by
      obtain ⟨j, hj⟩ := List.mem_iff_getElem?.1 hy
      exact ris_head ht h1 j y hj
    have hb : ∀ y ∈ m, lt b y = true := fun y hy => by
      obtain ⟨j, hj⟩ := List.mem_iff_getElem?.1 hy
      exact ris_head ht h2 j y hj
    have hab : a = b := by
      have p := (h a).1 (by simp)
      have q := (h b).2 (by simp)
      rcases List.mem_cons.1 p with p | p
      · exact p
      · rcases List.mem_cons.1 q with q | q
        · exact q.symm
        · have := ht a b a (ha b q) (hb a p)
          rw [hi a] at this; cases this
    subst hab
    have tl : ∀ {l : List α}, risB lt (a :: l) = true → risB lt l = true := by
      intro l h
      cases l with
      | nil => rfl
      | cons x t => simp only [risB, Bool.and_eq_true] at h; exact h.2
    congr 1
    refine ris_ext ht hi l m (tl h1) (tl h2) fun y => ?_
    constructor
    · intro hy
      rcases List.mem_cons.1 ((h y).1 (List.mem_cons_of_mem _ hy)) with e | e
      · subst e
        have := ha y hy
        rw [hi y] at this; cases this
      · exact e
    · intro hy
      rcases List.mem_cons.1 ((h y).2 (List.mem_cons_of_mem _ hy)) with e | e
      · subst e
        have := hb y hy
        rw [hi y] at this; cases this
      · exact e
def vE (x : Nat) : Ed := ⟨7, 0, 0, 2 + ((x % 4000 : Nat) : Int), 3, 0, 0⟩
def sE (y : Nat) : Ed := ⟨9, 1, 0, 1, 0, 0, (y : Int) + 1⟩
def vT (x : Nat) : VlanC := (2 + ((x % 4000 : Nat) : Int), 3, 0)
def sT (y : Nat) : StatC := ((y : Int) + 1, 1, 1)
def IsE (e : Ed) : Prop := (∃ x : Nat, e = vE x) ∨ (∃ y : Nat, y < 65536 ∧ e = sE y)
/-- A configuration on the way: VLAN 1 and those of the form, statics of the form, rising. -/
structure Wy (c : Cfg) (V S : Nat) : Prop where
  base : c.prio = 32768 ∧ c.age = 20 ∧ c.delay = 15 ∧ c.ports = [(true, 20000, 1), (true, 20000, 1)]
  one : ((1, 3, 0) : VlanC) ∈ c.vlans
  vs : ∀ v ∈ c.vlans, v.2 = (3, 0) ∧ 1 ≤ v.1 ∧ v.1 ≤ 4001
  ss : ∀ s ∈ c.stats, s.2 = (1, 1) ∧ 1 ≤ s.1 ∧ s.1 ≤ 65536
  rv : risB ltV c.vlans = true
  rs : risB ltS c.stats = true
  lv : c.vlans.length ≤ V
  ls : c.stats.length ≤ S
theorem wy_first : Wy (firstC 2) 1 0 := ⟨⟨rfl, rfl, rfl, rfl⟩, by decide, by decide, by decide, by decide, by decide, by decide, by decide⟩
theorem apply_v (c : Cfg) (x : Nat) : applyE c (vE x) = (0, { c with vlans := putL ltV eqV (vT x) c.vlans }) := by simp [applyE, vE, vT]
theorem apply_s (c : Cfg) (y : Nat) : applyE c (sE y) = (0, { c with stats := putL ltS eqS (sT y) c.stats }) := by simp [applyE, sE, sT]
theorem shape_v {c : Cfg} {V S : Nat} (h : Wy c V S) (x : Nat) : ∀ y ∈ c.vlans, eqV y (vT x) = true → y = vT x := by
  intro y hy he
  have h1 := (h.vs y hy).1
  have h2 : y.1 = (vT x).1 := by simpa [eqV] using he
  exact Prod.ext h2 h1
theorem shape_s {c : Cfg} {V S : Nat} (h : Wy c V S) (x : Nat) : ∀ y ∈ c.stats, eqS y (sT x) = true → y = sT x := by
  intro y hy he
  have h1 := (h.ss y hy).1
  have h2 : y.1 = (sT x).1 := by simp [eqS] at he; exact he.2
  exact Prod.ext h2 h1
theorem wy_next {c : Cfg} {V S : Nat} (h : Wy c V S) {e : Ed} (he : IsE e) : (applyE c e).1 = 0 ∧ Wy (applyE c e).2 (if e.kind = 7 then V + 1 else V) (if e.kind = 7 then S else S + 1) ∧ (∀ v, v ∈ (applyE c e).2.vlans ↔ (e.kind = 7 ∧ v = (e.vlan, e.member, e.tagged)) ∨ v ∈ c.vlans) ∧ (∀ s, s ∈ (applyE c e).2.stats ↔ (e.kind = 9 ∧ s = (e.mac, e.vlan, e.port)) ∨ s ∈ c.stats) := by
  rcases he with ⟨x, rfl⟩ | ⟨y, hy, rfl⟩
  · rw [apply_v]
    have hi := put_iff (lt := ltV) (shape_v h x)
    refine ⟨rfl, ?_, fun v => ?_, fun s => ?_⟩
    · rw [if_pos (show (vE x).kind = 7 from rfl), if_pos (show (vE x).kind = 7 from rfl)]
      refine ⟨h.base, (hi _).2 (.inr h.one), fun v hv => ?_, h.ss, ris_put transV triV h.rv _, h.rs, ?_, h.ls⟩
      · rcases (hi v).1 hv with rfl | hv
        · refine ⟨rfl, ?_, ?_⟩ <;> (show _ ≤ _; unfold vT; simp only; omega)
        · exact h.vs v hv
      · have := put_len ltV eqV (vT x) c.vlans
        have := h.lv
        show (putL ltV eqV (vT x) c.vlans).length ≤ _
        omega
    · show v ∈ putL ltV eqV (vT x) c.vlans ↔ _
      rw [hi v]
      exact ⟨fun h => h.elim (fun e => .inl ⟨rfl, e⟩) .inr, fun h => h.elim (fun e => .inl e.2) .inr⟩
    · exact ⟨.inr, fun h => h.elim (fun e => absurd e.1 (by simp [vE])) id⟩
  · rw [apply_s]
    have hi := put_iff (lt := ltS) (shape_s h y)
    refine ⟨rfl, ?_, fun v => ?_, fun s => ?_⟩
    · rw [if_neg (by simp [sE]), if_neg (by simp [sE])]
      refine ⟨h.base, h.one, h.vs, fun v hv => ?_, h.rv, ris_put transS triS h.rs _, h.lv, ?_⟩
      · rcases (hi v).1 hv with rfl | hv
        · refine ⟨rfl, ?_, ?_⟩ <;> (show _ ≤ _; unfold sT; simp only; omega)
        · exact h.ss v hv
      · have := put_len ltS eqS (sT y) c.stats
        have := h.ls
        show (putL ltS eqS (sT y) c.stats).length ≤ _
        omega
    · exact ⟨.inr, fun h => h.elim (fun e => absurd e.1 (by simp [sE])) id⟩
    · show s ∈ putL ltS eqS (sT y) c.stats ↔ _
      rw [hi s]
      exact ⟨fun h => h.elim (fun e => .inl ⟨rfl, e⟩) .inr, fun h => h.elim (fun e => .inl e.2) .inr⟩
def nV (l : List Ed) : Nat := (l.filter fun e => decide (e.kind = 7)).length
def nS (l : List Ed) : Nat := (l.filter fun e => !decide (e.kind = 7)).length
theorem wy_all : ∀ (l : List Ed) (c : Cfg) (V S : Nat), Wy c V S → (∀ e ∈ l, IsE e) → (applyAll c l).1 = 0 ∧ Wy (applyAll c l).2 (V + nV l) (S + nS l) ∧ (∀ v, v ∈ (applyAll c l).2.vlans ↔ (∃ e ∈ l, e.kind = 7 ∧ v = (e.vlan, e.member, e.tagged)) ∨ v ∈ c.vlans) ∧ (∀ s, s ∈ (applyAll c l).2.stats ↔ (∃ e ∈ l, e.kind = 9 ∧ s = (e.mac, e.vlan, e.port)) ∨ s ∈ c.stats)
  | [], c, V, S, h, _ => ⟨rfl, by simpa [applyAll, nV, nS] using h, fun v => by simp [applyAll], fun s => by simp [applyAll]⟩
  | e :: l, c, V, S, h, hl => by
    obtain ⟨h0, hw, hv, hs⟩ := wy_next h (hl e (by simp))
    have ih := wy_all l _ _ _ hw (fun x hx => hl x (by simp [hx]))
    have ha : applyAll c (e :: l) = applyAll (applyE c e).2 l := by simp [applyAll, h0]
    rw [ha]
    obtain ⟨i0, iw, iv, is⟩ := ih
    refine ⟨i0, ?_, fun v => ?_, fun s => ?_⟩
    · by_cases hk : e.kind = 7
      · rw [if_pos hk, if_pos hk] at iw
        have e1 : V + nV (e :: l) = V + 1 + nV l := by simp [nV, hk]; omega
        have e2 : S + nS (e :: l) = S + nS l := by simp [nS, hk]
        rw [e1, e2]; exact iw
      · rw [if_neg hk, if_neg hk] at iw
        have e1 : V + nV (e :: l) = V + nV l := by simp [nV, hk]
        have e2 : S + nS (e :: l) = S + 1 + nS l := by simp [nS, hk]; omega
        rw [e1, e2]; exact iw
    · rw [iv v, hv v]
      constructor
      · rintro (⟨x, hx, hq⟩ | hq | hq)
        · exact .inl ⟨x, by simp [hx], hq⟩
        · exact .inl ⟨e, by simp, hq⟩
        · exact .inr hq
      · rintro (⟨x, hx, hq⟩ | hq)
        · rcases List.mem_cons.1 hx with rfl | hx
          · exact .inr (.inl hq)
          · exact .inl ⟨x, hx, hq⟩
        · exact .inr (.inr hq)
    · rw [is s, hs s]
      constructor
      · rintro (⟨x, hx, hq⟩ | hq | hq)
        · exact .inl ⟨x, by simp [hx], hq⟩
        · exact .inl ⟨e, by simp, hq⟩
        · exact .inr hq
      · rintro (⟨x, hx, hq⟩ | hq)
        · rcases List.mem_cons.1 hx with rfl | hx
          · exact .inr (.inl hq)
          · exact .inl ⟨x, hx, hq⟩
        · exact .inr (.inr hq)
end Go.Proofs.Ytbbadncdkiganaa
