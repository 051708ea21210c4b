/- ConfigUndoes: mathematics. -/
import Derived.Test.YtbbadncdkiganabKsta
namespace Go.Proofs.Ytbbadncdkiganab
open Go.RowKit
set_option linter.unusedVariables false
set_option maxRecDepth 4000
def wasI (u : Bool) : Int := if u then 1 else 0
def undA (k : Nat) (u : Bool) (n : Nat) : List Ed := [⟨5, k, 1 + (n : Int), 0, 0, 0, 0⟩, ⟨4, k, 1 - wasI u, 0, 0, 0, 0⟩, ⟨1, 0, 4096 * ((n : Int) % 16), 0, 0, 0, 0⟩]
def undB (k : Nat) (u : Bool) (prio co : Int) : List Ed := [⟨1, 0, prio, 0, 0, 0, 0⟩, ⟨4, k, wasI u, 0, 0, 0, 0⟩, ⟨5, k, co, 0, 0, 0, 0⟩]
def undD (c : Cfg) (k : Nat) (q : PortC) (n : Nat) : Cfg := { c with prio := 4096 * ((n : Int) % 16), ports := c.ports.set k (!q.1, 1 + (n : Int), q.2.2) }
theorem portE_cost {ps : List PortC} {k : Nat} {q : PortC} (hq : ps[k]? = some q) (x : Int) (h : wi x 0 4294967295 = true) : portE ps ⟨5, k, x, 0, 0, 0, 0⟩ = (0, ps.set k (q.1, x, q.2.2)) := by
  unfold portE
  simp only [Int.toNat_natCast, hq]
  rw [if_neg (by omega), if_neg (by simp), if_pos ⟨by first | rfl | trivial, h⟩]
theorem portE_up {ps : List PortC} {k : Nat} {q : PortC} (hq : ps[k]? = some q) (x : Int) (h : wi x 0 1 = true) : portE ps ⟨4, k, x, 0, 0, 0, 0⟩ = (0, ps.set k (decide (x = 1), q.2.1, q.2.2)) := by
  unfold portE
  simp only [Int.toNat_natCast, hq]
  rw [if_neg (by omega), if_pos ⟨by first | rfl | trivial, h⟩]
theorem get_set {ps : List PortC} {k : Nat} {q x : PortC} (hq : ps[k]? = some q) : (ps.set k x)[k]? = some x := by
  rw [List.getElem?_set_self]
  exact (List.getElem?_eq_some_iff.1 hq).1
theorem und_all {c : Cfg} {k : Nat} {q : PortC} (hq : c.ports[k]? = some q) (n : Nat) (hn : n ≤ 65535) : applyAll c (undA k q.1 n) = (0, undD c k q n) := by
  have h1 := portE_cost hq (1 + (n : Int)) (wi_of (by omega) (by omega))
  have h2 := portE_up (get_set (x := (q.1, 1 + (n : Int), q.2.2)) hq) (1 - wasI q.1) (by unfold wasI; cases q.1 <;> decide)
  have e : decide (1 - wasI q.1 = 1) = !q.1 := by unfold wasI; cases q.1 <;> decide
  rw [e, List.set_set] at h2
  unfold undA undD
  simp [applyAll, applyE, h1, h2]
theorem und_back {c : Cfg} {k : Nat} {q : PortC} (hq : c.ports[k]? = some q) (n : Nat) (hco : 0 ≤ q.2.1 ∧ q.2.1 ≤ 4294967295) : applyAll (undD c k q n) (undB k q.1 c.prio q.2.1) = (0, c) := by
  have g1 := get_set (x := (!q.1, 1 + (n : Int), q.2.2)) hq
  have h1 := portE_up g1 (wasI q.1) (by unfold wasI; cases q.1 <;> decide)
  have e : decide (wasI q.1 = 1) = q.1 := by unfold wasI; cases q.1 <;> decide
  rw [e, List.set_set] at h1
  have h2 := portE_cost (get_set (x := (q.1, 1 + (n : Int), q.2.2)) hq) q.2.1 (wi_of hco.1 hco.2)
  rw [List.set_set] at h2
  have hs : c.ports.set k (q.1, q.2.1, q.2.2) = c.ports := by
    obtain ⟨hk, rfl⟩ := List.getElem?_eq_some_iff.1 hq
    exact List.set_getElem_self hk
  have hs' : c.ports.set k (q.1, q.2) = c.ports := hs
  unfold undB undD
  simp [applyAll, applyE, h1, h2, hs']
theorem und_good {c : Cfg} {k : Nat} {q : PortC} (hq : c.ports[k]? = some q) (n : Nat) (hn : n ≤ 65535) (h : goodB c = true) : goodB (undD c k q n) = true := by
  have hp := h
  simp only [goodB, Bool.and_eq_true] at h ⊢
  obtain ⟨⟨⟨⟨h1, h2⟩, h3⟩, h4⟩, h5⟩ := h
  have hl : (c.ports.set k (!q.1, 1 + (n : Int), q.2.2)).length = c.ports.length := List.length_set
  refine ⟨⟨⟨⟨?_, ?_⟩, ?_⟩, ?_⟩, ?_⟩
  · unfold sizesB at h1 ⊢
    show (wi (c.ports.set k (!q.1, 1 + (n : Int), q.2.2)).length 1 8 && _ && _) = true
    rw [hl]; exact h1
  · unfold treeB at h2 ⊢
    show (wi (4096 * ((n : Int) % 16)) 0 61440 && decide (4096 * ((n : Int) % 16) % 4096 = 0) && wi c.age 6 40 && wi c.delay 4 30 && decide (c.age ≤ 2 * (c.delay - 1))) = true
    simp only [Bool.and_eq_true] at h2 ⊢
    exact ⟨⟨⟨⟨wi_of (by omega) (by omega), by simp⟩, h2.1.1.2⟩, h2.1.2⟩, h2.2⟩
  · unfold vlansB at h3 ⊢
    show (c.vlans.all (vlanOk (everyI (c.ports.set k (!q.1, 1 + (n : Int), q.2.2)).length)) && risB ltV c.vlans) = true
    rw [hl]; exact h3
  · unfold portsB at h4 ⊢
    rw [List.all_eq_true] at h4 ⊢
    intro x hx
    rcases List.mem_or_eq_of_mem_set hx with hx | rfl
    · exact h4 x hx
    · have := h4 q (List.mem_of_getElem? hq)
      unfold portOk at this ⊢
      rw [Bool.and_eq_true] at this ⊢
      exact ⟨this.1, wi_of (by show (1 : Int) ≤ 1 + n; omega) (by show (1 : Int) + n ≤ _; omega)⟩
  · exact h5
theorem und_cost {c : Cfg} {k : Nat} {q : PortC} (hq : c.ports[k]? = some q) (h : goodB c = true) : 1 ≤ q.2.1 ∧ q.2.1 ≤ 200000000 := by
  simp only [goodB, Bool.and_eq_true] at h
  have := (List.all_eq_true.1 h.1.2) q (List.mem_of_getElem? hq)
  unfold portOk at this
  rw [Bool.and_eq_true] at this
  exact wi_t this.2
theorem und_a {c : Cfg} {k : Nat} {q : PortC} (hq : c.ports[k]? = some q) (n : Nat) (hn : n ≤ 65535) (h : goodB c = true) : editE c (undA k q.1 n) = 0 ∧ resC c (undA k q.1 n) = undD c k q n := by
  have ha := und_all hq n hn
  have e0 : editE c (undA k q.1 n) = 0 := edit_of h (by simp [undA]) (by rw [ha]) (by unfold editC; rw [ha]; exact und_good hq n hn h)
  exact ⟨e0, by rw [res_ok e0]; unfold editC; rw [ha]⟩
theorem und_b {c : Cfg} {k : Nat} {q : PortC} (hq : c.ports[k]? = some q) (n : Nat) (hn : n ≤ 65535) (h : goodB c = true) : editE (undD c k q n) (undB k q.1 c.prio q.2.1) = 0 ∧ resC (undD c k q n) (undB k q.1 c.prio q.2.1) = c := by
  have hco := und_cost hq h
  have ha := und_back hq n ⟨by omega, by omega⟩
  have e0 : editE (undD c k q n) (undB k q.1 c.prio q.2.1) = 0 := edit_of (und_good hq n hn h) (by simp [undB]) (by rw [ha]) (by unfold editC; rw [ha]; exact h)
  exact ⟨e0, by rw [res_ok e0]; unfold editC; rw [ha]⟩
end Go.Proofs.Ytbbadncdkiganab
