/- The reference's Good where numbers or sizes are wrong. -/
import Derived.Test.YtbbadncdkiganabKrgm
namespace Go.Proofs.Ytbbadncdkiganab
open Go.RowKit
set_option linter.unusedVariables false
set_option maxRecDepth 4000
theorem tree_cases {c : Cfg} (h : treeB c = false) : c.prio < 0 ∨ (0 ≤ c.prio ∧ 61440 < c.prio) ∨ (0 ≤ c.prio ∧ c.prio ≤ 61440 ∧ ¬ c.prio % 4096 = 0) ∨
    ((0 ≤ c.prio ∧ c.prio ≤ 61440 ∧ c.prio % 4096 = 0) ∧ (c.age < 6 ∨ (6 ≤ c.age ∧ 40 < c.age) ∨ ((6 ≤ c.age ∧ c.age ≤ 40) ∧ (c.delay < 4 ∨ (4 ≤ c.delay ∧ 30 < c.delay) ∨ (4 ≤ c.delay ∧ c.delay ≤ 30 ∧ 2 * (c.delay - 1) < c.age))))) := by
  by_cases h1 : c.prio < 0
  · exact .inl h1
  by_cases h2 : 61440 < c.prio
  · exact .inr (.inl ⟨by omega, h2⟩)
  by_cases h3 : ¬ c.prio % 4096 = 0
  · exact .inr (.inr (.inl ⟨by omega, by omega, h3⟩))
  refine .inr (.inr (.inr ⟨⟨by omega, by omega, by omega⟩, ?_⟩))
  by_cases h4 : c.age < 6
  · exact .inl h4
  by_cases h5 : 40 < c.age
  · exact .inr (.inl ⟨by omega, h5⟩)
  refine .inr (.inr ⟨⟨by omega, by omega⟩, ?_⟩)
  by_cases h6 : c.delay < 4
  · exact .inl h6
  by_cases h7 : 30 < c.delay
  · exact .inr (.inl ⟨by omega, h7⟩)
  refine .inr (.inr ⟨by omega, by omega, ?_⟩)
  have g1 := wi_of (x := c.prio) (a := 0) (b := 61440) (by omega) (by omega)
  have g2 := wi_of (x := c.age) (a := 6) (b := 40) (by omega) (by omega)
  have g3 := wi_of (x := c.delay) (a := 4) (b := 30) (by omega) (by omega)
  unfold treeB at h
  rw [g1, g2, g3] at h
  simp [Classical.not_not.1 h3] at h
  exact h
theorem tree_lim {c : Cfg} (h : treeB c = true) : (0 ≤ c.prio ∧ c.prio ≤ 61440 ∧ c.prio % 4096 = 0) ∧ (6 ≤ c.age ∧ c.age ≤ 40) ∧ 4 ≤ c.delay ∧ c.delay ≤ 30 ∧ c.age ≤ 2 * (c.delay - 1) := by
  simp only [treeB, Bool.and_eq_true, decide_eq_true_eq] at h
  obtain ⟨⟨⟨⟨h1, h2⟩, h3⟩, h4⟩, h5⟩ := h
  have a := wi_t h1
  have b := wi_t h3
  have d := wi_t h4
  omega
set_option maxHeartbeats 4000000 in
theorem rgood_tree (c : Cfg) (Ap Av As : Option Addr) (cp cv cs : Nat) (w : World) (h : treeB c = false) :
    Calls Try.prog 5 #[.agg #[.int .i64 c.prio, .int .i64 c.age, .int .i64 c.delay, .slice Ap c.ports.length cp, .slice Av c.vlans.length cv, .slice As c.stats.length cs]] w fun e w' => e = .returned (.bool false) ∧ Below w.heap.size w w' := by
  have hc := tree_cases h
  clear h
  have HB := hide (below_alloc (Below.refl w.heap.size w) (.cells #[.int .i64 c.prio, .int .i64 c.age, .int .i64 c.delay, .slice Ap c.ports.length cp, .slice Av c.vlans.length cv, .slice As c.stats.length cs] 26))
  have hcell : ∀ j v, (#[.int .i64 c.prio, .int .i64 c.age, .int .i64 c.delay, .slice Ap c.ports.length cp, .slice Av c.vlans.length cv, .slice As c.stats.length cs] : Array Value)[j]? = some v → (w.alloc (.cells #[.int .i64 c.prio, .int .i64 c.age, .int .i64 c.delay, .slice Ap c.ports.length cp, .slice Av c.vlans.length cv, .slice As c.stats.length cs] 26)).cell? ⟨w.heap.size, j, none⟩ = some v := fun j v hj => cell_lit rfl hj
  have c0 := hcell 0 _ rfl
  have c1 := hcell 1 _ rfl
  have c2 := hcell 2 _ rfl
  clear hcell
  generalize c.ports.length = np at *
  generalize c.vlans.length = nv at *
  generalize c.stats.length = ns at *
  generalize c.prio = p at *
  generalize c.age = a at *
  generalize c.delay = d at *
  rcases hc with h | ⟨h, h'⟩ | ⟨h, h', h''⟩ | ⟨⟨h1, h2, h3⟩, h | ⟨h, h'⟩ | ⟨⟨h4, h5⟩, h | ⟨h, h'⟩ | ⟨h, h', h''⟩⟩⟩
  all_goals
    go_enter Try.func5, Try.ntmps5
    go_wp2
    go_ret
    exact ⟨rfl, unhide HB⟩
set_option maxHeartbeats 4000000 in
theorem rgood_size (c : Cfg) (Ap Av As : Option Addr) (cp cv cs : Nat) (w : World) (ht : treeB c = true) (h : sizesB c = false) :
    Calls Try.prog 5 #[.agg #[.int .i64 c.prio, .int .i64 c.age, .int .i64 c.delay, .slice Ap c.ports.length cp, .slice Av c.vlans.length cv, .slice As c.stats.length cs]] w fun e w' => e = .returned (.bool false) ∧ Below w.heap.size w w' := by
  obtain ⟨⟨t1, t2, t3⟩, ⟨t4, t5⟩, t6, t7, t8⟩ := tree_lim ht
  clear ht
  have hc : c.ports.length < 1 ∨ (1 ≤ c.ports.length ∧ 8 < c.ports.length) ∨ ((1 ≤ c.ports.length ∧ c.ports.length ≤ 8) ∧ (c.vlans.length < 1 ∨ (1 ≤ c.vlans.length ∧ 16 < c.vlans.length) ∨ (1 ≤ c.vlans.length ∧ c.vlans.length ≤ 16 ∧ 16 < c.stats.length))) := by
    by_cases h1 : c.ports.length < 1
    · exact .inl h1
    by_cases h2 : 8 < c.ports.length
    · exact .inr (.inl ⟨by omega, h2⟩)
    refine .inr (.inr ⟨⟨by omega, by omega⟩, ?_⟩)
    by_cases h3 : c.vlans.length < 1
    · exact .inl h3
    by_cases h4 : 16 < c.vlans.length
    · exact .inr (.inl ⟨by omega, h4⟩)
    refine .inr (.inr ⟨by omega, by omega, ?_⟩)
    have g1 := wi_of (x := (c.ports.length : Int)) (a := 1) (b := 8) (by omega) (by omega)
    have g2 := wi_of (x := (c.vlans.length : Int)) (a := 1) (b := 16) (by omega) (by omega)
    unfold sizesB at h
    rw [g1, g2] at h
    simp at h
    omega
  clear h
  have HB := hide (below_alloc (Below.refl w.heap.size w) (.cells #[.int .i64 c.prio, .int .i64 c.age, .int .i64 c.delay, .slice Ap c.ports.length cp, .slice Av c.vlans.length cv, .slice As c.stats.length cs] 26))
  have hcell : ∀ j v, (#[.int .i64 c.prio, .int .i64 c.age, .int .i64 c.delay, .slice Ap c.ports.length cp, .slice Av c.vlans.length cv, .slice As c.stats.length cs] : Array Value)[j]? = some v → (w.alloc (.cells #[.int .i64 c.prio, .int .i64 c.age, .int .i64 c.delay, .slice Ap c.ports.length cp, .slice Av c.vlans.length cv, .slice As c.stats.length cs] 26)).cell? ⟨w.heap.size, j, none⟩ = some v := fun j v hj => cell_lit rfl hj
  have c0 := hcell 0 _ rfl
  have c1 := hcell 1 _ rfl
  have c2 := hcell 2 _ rfl
  have c3 := hcell 3 _ rfl
  have c4 := hcell 4 _ rfl
  have c5 := hcell 5 _ rfl
  clear hcell
  generalize c.ports.length = np at *
  generalize c.vlans.length = nv at *
  generalize c.stats.length = ns at *
  generalize c.prio = p at *
  generalize c.age = a at *
  generalize c.delay = d at *
  rcases hc with h | ⟨h, h'⟩ | ⟨⟨h4, h5⟩, h | ⟨h, h'⟩ | ⟨h, h', h''⟩⟩
  all_goals
    go_enter Try.func5, Try.ntmps5
    go_wp2
    go_ret
    exact ⟨rfl, unhide HB⟩
end Go.Proofs.Ytbbadncdkiganab
