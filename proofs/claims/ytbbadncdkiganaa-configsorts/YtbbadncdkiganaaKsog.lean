/- ConfigSorts: what is made may be; whatever the order. -/
import Derived.Test.YtbbadncdkiganaaKsom
import Derived.Laws.BitsLemmas
import Derived.Laws.Bits64
namespace Go.Proofs.Ytbbadncdkiganaa
open Go.RowKit
set_option linter.unusedVariables false
set_option maxRecDepth 4000
theorem bits_and (a b : Nat) (ha : a < 18446744073709551616) (hb : b < 18446744073709551616) : bits .and .u64 (a : Int) (b : Int) = ((a &&& b : Nat) : Int) := by
  have h : a &&& b ≤ a := Nat.and_le_left
  simp [bits]
  have e : 2 ^ IntKind.u64.bits = 18446744073709551616 := by decide
  rw [e, Nat.mod_eq_of_lt ha, Nat.mod_eq_of_lt hb, IntKind.wrap_u64]
  omega
theorem and_bit (a i : Nat) : (a &&& 2 ^ i) = if a / 2 ^ i % 2 = 1 then 2 ^ i else 0 := by
  refine Nat.eq_of_testBit_eq fun j => ?_
  rw [Nat.testBit_and, Nat.testBit_two_pow]
  by_cases hj : i = j
  · subst hj
    by_cases h : a / 2 ^ i % 2 = 1
    · rw [if_pos h, Nat.testBit_two_pow_self, Nat.testBit_eq_decide_div_mod_eq, h]; simp
    · rw [if_neg h, Nat.testBit_eq_decide_div_mod_eq]; simp [h]
  · by_cases h : a / 2 ^ i % 2 = 1
    · rw [if_pos h, Nat.testBit_two_pow_of_ne hj]; simp [hj]
    · rw [if_neg h]; simp [hj]
theorem mac_bit (m : Int) (h1 : 1 ≤ m) (h2 : m ≤ 65536) : (bits .and .u64 m 1099511627776 == 0) = true := by
  obtain ⟨n, rfl⟩ : ∃ n : Nat, m = (n : Int) := ⟨m.toNat, by omega⟩
  have h := bits_and n 1099511627776 (by omega) (by decide)
  have e : (1099511627776 : Nat) = 2 ^ 40 := by decide
  have h3 := and_bit n 40
  rw [← e] at h3
  rw [show (1099511627776 : Int) = ((1099511627776 : Nat) : Int) from rfl, h, h3, if_neg (by omega)]
  rfl
theorem wy_find {c : Cfg} {V S : Nat} (h : Wy c V S) : ∃ v, findV c.vlans 1 = some v ∧ v = (1, 3, 0) := by
  cases hf : findV c.vlans 1 with
  | none =>
    unfold findV at hf
    have := List.find?_eq_none.1 hf _ h.one
    simp at this
  | some v =>
    refine ⟨v, rfl, ?_⟩
    unfold findV at hf
    have h1 := List.find?_some hf
    have h2 := (h.vs v (List.mem_of_find?_eq_some hf)).1
    exact Prod.ext (by simpa using h1) h2
theorem wy_good {c : Cfg} {V S : Nat} (h : Wy c V S) (hV : V ≤ 16) (hS : S ≤ 16) : goodB c = true := by
  obtain ⟨b1, b2, b3, b4⟩ := h.base
  obtain ⟨f, hf, rfl⟩ := wy_find h
  have hv0 : 1 ≤ c.vlans.length := List.length_pos_of_mem h.one
  have hlv := h.lv
  have hls := h.ls
  unfold goodB
  simp only [Bool.and_eq_true]
  refine ⟨⟨⟨⟨?_, ?_⟩, ?_⟩, ?_⟩, ?_⟩
  · unfold sizesB
    simp only [Bool.and_eq_true]
    rw [b4]
    exact ⟨⟨by decide, wi_of (by omega) (by omega)⟩, by simp; omega⟩
  · unfold treeB
    rw [b1, b2, b3]
    decide
  · unfold vlansB
    rw [b4]
    simp only [Bool.and_eq_true, List.all_eq_true]
    refine ⟨fun v hv => ?_, h.rv⟩
    obtain ⟨e, h1, h2⟩ := h.vs v hv
    obtain ⟨a, m, t⟩ := v
    simp only [Prod.mk.injEq] at e
    obtain ⟨rfl, rfl⟩ := e
    unfold vlanOk
    simp only at h1 h2 ⊢
    rw [wi_of h1 (by omega)]
    decide
  · unfold portsB
    rw [b4]
    simp only [List.all_eq_true]
    intro p hp
    simp at hp
    subst hp
    unfold portOk
    simp only [hf]
    decide
  · unfold statsB
    simp only [Bool.and_eq_true, List.all_eq_true]
    refine ⟨fun s hs => ?_, h.rs⟩
    obtain ⟨e, h1, h2⟩ := h.ss s hs
    obtain ⟨a, m, t⟩ := s
    simp only [Prod.mk.injEq] at e
    obtain ⟨rfl, rfl⟩ := e
    unfold statOk
    simp only [hf]
    simp only at h1 h2
    rw [wi_of h1 (by omega), mac_bit a h1 h2]
    decide
def sortL (ids macs : List Nat) : List Ed := ids.map vE ++ macs.map sE
theorem sort_is (ids macs : List Nat) (hm : ∀ y ∈ macs, y < 65536) : ∀ e ∈ sortL ids macs, IsE e := by
  intro e he
  rcases List.mem_append.1 he with h | h
  · obtain ⟨x, _, rfl⟩ := List.mem_map.1 h; exact .inl ⟨x, rfl⟩
  · obtain ⟨y, hy, rfl⟩ := List.mem_map.1 h; exact .inr ⟨y, hm y hy, rfl⟩
theorem sort_nV (ids macs : List Nat) : nV (sortL ids macs) = ids.length ∧ nS (sortL ids macs) = macs.length := by
  unfold nV nS sortL
  rw [List.filter_append, List.filter_append]
  have a1 : (ids.map vE).filter (fun e => decide (e.kind = 7)) = ids.map vE := List.filter_eq_self.2 (by intro e he; obtain ⟨x, _, rfl⟩ := List.mem_map.1 he; rfl)
  have a2 : (macs.map sE).filter (fun e => decide (e.kind = 7)) = [] := List.filter_eq_nil_iff.2 (by intro e he; obtain ⟨x, _, rfl⟩ := List.mem_map.1 he; simp [sE])
  have a3 : (ids.map vE).filter (fun e => !decide (e.kind = 7)) = [] := List.filter_eq_nil_iff.2 (by intro e he; obtain ⟨x, _, rfl⟩ := List.mem_map.1 he; simp [vE])
  have a4 : (macs.map sE).filter (fun e => !decide (e.kind = 7)) = macs.map sE := List.filter_eq_self.2 (by intro e he; obtain ⟨x, _, rfl⟩ := List.mem_map.1 he; rfl)
  rw [a1, a2, a3, a4]
  simp
theorem ltV_irr (a : VlanC) : ltV a a = false := by simp [ltV]
theorem ltS_irr (a : StatC) : ltS a a = false := by simp [ltS]
theorem edit_fine {l : List Ed} (hl : l.length ≤ 32) (he : ∀ e ∈ l, IsE e) (hv : nV l ≤ 12) (hs : nS l ≤ 10) : editE (firstC 2) l = 0 ∧ Wy (resC (firstC 2) l) (1 + nV l) (0 + nS l) := by
  obtain ⟨h0, hw, _, _⟩ := wy_all l (firstC 2) 1 0 wy_first he
  have h1 : editE (firstC 2) l = 0 := edit_of (by decide) hl h0 (wy_good hw (by omega) (by omega))
  exact ⟨h1, by rw [res_ok h1]; exact hw⟩
theorem sorts_main (ids macs : List Nat) (hm : ∀ y ∈ macs, y < 65536) (h1 : ids.length ≤ 12) (h2 : macs.length ≤ 10) :
    editE (firstC 2) (sortL ids macs) = 0 ∧ editE (firstC 2) (sortL ids macs).reverse = 0 ∧ resC (firstC 2) (sortL ids macs).reverse = resC (firstC 2) (sortL ids macs) ∧ Wy (resC (firstC 2) (sortL ids macs)) 13 10 := by
  have hl : (sortL ids macs).length ≤ 32 := by simp [sortL]; omega
  have he := sort_is ids macs hm
  have her : ∀ e ∈ (sortL ids macs).reverse, IsE e := fun e h => he e (List.mem_reverse.1 h)
  obtain ⟨n1, n2⟩ := sort_nV ids macs
  have r1 : nV (sortL ids macs).reverse = nV (sortL ids macs) := by simp [nV, List.filter_reverse]
  have r2 : nS (sortL ids macs).reverse = nS (sortL ids macs) := by simp [nS, List.filter_reverse]
  obtain ⟨a1, a2⟩ := edit_fine hl he (by omega) (by omega)
  obtain ⟨b1, b2⟩ := edit_fine (by simpa using hl) her (by omega) (by omega)
  obtain ⟨_, _, va, sa⟩ := wy_all (sortL ids macs) (firstC 2) 1 0 wy_first he
  obtain ⟨_, _, vb, sb⟩ := wy_all (sortL ids macs).reverse (firstC 2) 1 0 wy_first her
  refine ⟨a1, b1, ?_, ⟨a2.base, a2.one, a2.vs, a2.ss, a2.rv, a2.rs, by have := a2.lv; omega, by have := a2.ls; omega⟩⟩
  have ea : resC (firstC 2) (sortL ids macs) = (applyAll (firstC 2) (sortL ids macs)).2 := by rw [res_ok a1]; rfl
  have eb : resC (firstC 2) (sortL ids macs).reverse = (applyAll (firstC 2) (sortL ids macs).reverse).2 := by rw [res_ok b1]; rfl
  rw [← ea] at va sa
  rw [← eb] at vb sb
  generalize resC (firstC 2) (sortL ids macs) = Ra at *
  generalize resC (firstC 2) (sortL ids macs).reverse = Rb at *
  have ev : Rb.vlans = Ra.vlans := ris_ext transV ltV_irr _ _ b2.rv a2.rv fun y => by
    rw [va y, vb y]
    simp only [List.mem_reverse]
  have es : Rb.stats = Ra.stats := ris_ext transS ltS_irr _ _ b2.rs a2.rs fun y => by
    rw [sa y, sb y]
    simp only [List.mem_reverse]
  obtain ⟨p1, p2, p3, p4⟩ := a2.base
  obtain ⟨q1, q2, q3, q4⟩ := b2.base
  cases Ra
  cases Rb
  simp only at *
  subst_vars
  rfl
theorem wy_up {c : Cfg} {V S : Nat} (h : Wy c V S) (i : Nat) (x y : VlanC) (h1 : c.vlans[i]? = some x) (h2 : c.vlans[i + 1]? = some y) : x.1 < y.1 := by
  have := ris_adj h.rv i x y h1 h2
  simpa [ltV] using this
theorem wy_ups {c : Cfg} {V S : Nat} (h : Wy c V S) (i : Nat) (x y : StatC) (h1 : c.stats[i]? = some x) (h2 : c.stats[i + 1]? = some y) : x.1 < y.1 := by
  have hh := ris_adj h.rs i x y h1 h2
  have e1 := (h.ss x (List.mem_of_getElem? h1)).1
  have e2 := (h.ss y (List.mem_of_getElem? h2)).1
  simp only [ltS, e1, e2] at hh
  simpa using hh
end Go.Proofs.Ytbbadncdkiganaa
