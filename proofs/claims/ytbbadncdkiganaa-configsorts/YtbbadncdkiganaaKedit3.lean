/- config.Edit: its walk. -/
import Derived.Test.YtbbadncdkiganaaKedit2
namespace Go.Proofs.Ytbbadncdkiganaa
open Go.RowKit
set_option linter.unusedVariables false
set_option maxRecDepth 4000

theorem good_t {c : Cfg} {Ap Av As : Option Addr} {cp cv cs : Nat} (h : goodB c = true) (hL : Lens c) (hM : Mems c) (w : World) (hA : CfgA w c Ap Av As) :
    Calls Try.prog 14 #[.agg #[.int .i64 c.prio, .int .i64 c.age, .int .i64 c.delay, .slice Ap c.ports.length cp, .slice Av c.vlans.length cv, .slice As c.stats.length cs]] w fun e w' => e = .returned (.bool true) ∧ Below w.heap.size w w' := bool_to (good_any c Ap Av As cp cv cs hL hM w hA) h
theorem good_f {c : Cfg} {Ap Av As : Option Addr} {cp cv cs : Nat} (h : goodB c = false) (hL : Lens c) (hM : Mems c) (w : World) (hA : CfgA w c Ap Av As) :
    Calls Try.prog 14 #[.agg #[.int .i64 c.prio, .int .i64 c.age, .int .i64 c.delay, .slice Ap c.ports.length cp, .slice Av c.vlans.length cv, .slice As c.stats.length cs]] w fun e w' => e = .returned (.bool false) ∧ Below w.heap.size w w' := bool_to (good_any c Ap Av As cp cv cs hL hM w hA) h
/-- What Edit answers: an error's number, or the configuration, of its own. -/
def EditPost (w : World) (c : Cfg) (l : List Ed) (x : Ending) (w' : World) : Prop :=
  Below w.heap.size w w' ∧ ((editE c l ≠ 0 ∧ x = .returned (.tuple #[.agg #[.int .i64 0, .int .i64 0, .int .i64 0, .slice none 0 0, .slice none 0 0, .slice none 0 0], .int .i64 (editE c l)])) ∨
    (editE c l = 0 ∧ ∃ vp vv vs, x = .returned (.tuple #[.agg #[.int .i64 (editC c l).prio, .int .i64 (editC c l).age, .int .i64 (editC c l).delay, vp, vv, vs], .int .i64 0]) ∧ CfgO w' w.heap.size (editC c l) vp vv vs))
set_option maxHeartbeats 4000000 in
theorem edit_bad (c : Cfg) (l : List Ed) (Ap Av As A : Option Addr) (cp cv cs ce : Nat) (hL : Lens c) (hM : Mems c) (w : World) (hA : CfgA w c Ap Av As) (hg : goodB c = false) :
    Calls Try.prog 19 #[.agg #[.int .i64 c.prio, .int .i64 c.age, .int .i64 c.delay, .slice Ap c.ports.length cp, .slice Av c.vlans.length cv, .slice As c.stats.length cs], .slice A l.length ce] w (EditPost w c l) := by
  have hE : editE c l = 14 := by unfold editE; rw [if_pos hg]
  have G1 := hide (fun W (hW : Below w.heap.size w W) => good_f (cp := cp) (cv := cv) (cs := cs) hg hL hM W (hA.below hW))
  have HP := hide (fun (x : Ending) (w' : World) (h1 : x = .returned (.tuple #[.agg #[.int .i64 0, .int .i64 0, .int .i64 0, .slice none 0 0, .slice none 0 0, .slice none 0 0], .int .i64 14])) (h2 : Below w.heap.size w w') => (⟨h2, .inl ⟨by rw [hE]; decide, by rw [hE]; exact h1⟩⟩ : EditPost w c l x w'))
  clear hL hM hA hg hE
  obtain ⟨prio, age, delay, ports, vlans, stats⟩ := c
  dsimp only at *
  generalize ports.length = np at *
  generalize vlans.length = nv at *
  generalize stats.length = ns at *
  generalize l.length = n at *
  have HB : Hid (Below w.heap.size w ((w.alloc (.cells #[.int .i64 prio, .int .i64 age, .int .i64 delay, .slice Ap np cp, .slice Av nv cv, .slice As ns cs] 26)).alloc (.cells #[.int .i64 0, .int .i64 0, .int .i64 0, .slice none 0 0, .slice none 0 0, .slice none 0 0] 26))) := below_alloc (below_alloc (Below.refl _ _) _) _
  have HR : Hid (((w.alloc (.cells #[.int .i64 prio, .int .i64 age, .int .i64 delay, .slice Ap np cp, .slice Av nv cv, .slice As ns cs] 26)).alloc (.cells #[.int .i64 0, .int .i64 0, .int .i64 0, .slice none 0 0, .slice none 0 0, .slice none 0 0] 26)).heap[w.heap.size + 1]? = some (.cells #[.int .i64 0, .int .i64 0, .int .i64 0, .slice none 0 0, .slice none 0 0, .slice none 0 0] 26 (0, 0))) := hide (heap_new _ _ _ (by simp))
  go_enter Try.func19, Try.ntmps19
  go_wp2_with (go_at_call 14; (with_reducible refine (unhide G1 _ (unhide HB)).mono ?_); rintro e w1 ⟨rfl, hb1⟩; have HR1 := hide (heap_keep (unhide HR) hb1); obtain ⟨m0, l0⟩ := heap_cell (unhide HR1) 0; obtain ⟨m1, l1⟩ := heap_cell (unhide HR1) 1; obtain ⟨m2, l2⟩ := heap_cell (unhide HR1) 2; obtain ⟨m3, l3⟩ := heap_cell (unhide HR1) 3; obtain ⟨m4, l4⟩ := heap_cell (unhide HR1) 4; obtain ⟨m5, l5⟩ := heap_cell (unhide HR1) 5; have HB1 := hide (below_then (unhide HB) hb1); clear hb1)
  refine ret_cell2 (g := w.heap.size + 1) (c := #[.int .i64 0, .int .i64 0, .int .i64 0, .slice none 0 0, .slice none 0 0, .slice none 0 0]) (t := 26) rfl rfl rfl rfl (heap_sets6 (unhide HR1) _ _ _ _ _ _) Try.underlying26 rfl Try.size26 (unhide HP _ _ rfl ?_)
  exact below_set (below_set (below_set (below_set (below_set (below_set (unhide HB1) _ _ _ (by omega)) _ _ _ (by omega)) _ _ _ (by omega)) _ _ _ (by omega)) _ _ _ (by omega)) _ _ _ (by omega)
set_option maxHeartbeats 4000000 in
theorem edit_many (c : Cfg) (l : List Ed) (Ap Av As A : Option Addr) (cp cv cs ce : Nat) (hL : Lens c) (hM : Mems c) (w : World) (hA : CfgA w c Ap Av As) (hg : goodB c = true) (hl : l.length ≤ maxLen) (h32 : 32 < l.length) :
    Calls Try.prog 19 #[.agg #[.int .i64 c.prio, .int .i64 c.age, .int .i64 c.delay, .slice Ap c.ports.length cp, .slice Av c.vlans.length cv, .slice As c.stats.length cs], .slice A l.length ce] w (EditPost w c l) := by
  have hE : editE c l = 3 := by unfold editE; rw [if_neg (by rw [hg]; simp), if_pos h32]
  have G1 := hide (fun W (hW : Below w.heap.size w W) => good_t (cp := cp) (cv := cv) (cs := cs) hg hL hM W (hA.below hW))
  have HP := hide (fun (x : Ending) (w' : World) (h1 : x = .returned (.tuple #[.agg #[.int .i64 0, .int .i64 0, .int .i64 0, .slice none 0 0, .slice none 0 0, .slice none 0 0], .int .i64 3])) (h2 : Below w.heap.size w w') => (⟨h2, .inl ⟨by rw [hE]; decide, by rw [hE]; exact h1⟩⟩ : EditPost w c l x w'))
  clear hL hM hA hg hE
  unfold maxLen at hl
  obtain ⟨prio, age, delay, ports, vlans, stats⟩ := c
  dsimp only at *
  generalize ports.length = np at *
  generalize vlans.length = nv at *
  generalize stats.length = ns at *
  generalize l.length = n at *
  have h32z : (32 : Int) < (n : Int) := by omega
  have HB : Hid (Below w.heap.size w ((w.alloc (.cells #[.int .i64 prio, .int .i64 age, .int .i64 delay, .slice Ap np cp, .slice Av nv cv, .slice As ns cs] 26)).alloc (.cells #[.int .i64 0, .int .i64 0, .int .i64 0, .slice none 0 0, .slice none 0 0, .slice none 0 0] 26))) := below_alloc (below_alloc (Below.refl _ _) _) _
  have HR : Hid (((w.alloc (.cells #[.int .i64 prio, .int .i64 age, .int .i64 delay, .slice Ap np cp, .slice Av nv cv, .slice As ns cs] 26)).alloc (.cells #[.int .i64 0, .int .i64 0, .int .i64 0, .slice none 0 0, .slice none 0 0, .slice none 0 0] 26)).heap[w.heap.size + 1]? = some (.cells #[.int .i64 0, .int .i64 0, .int .i64 0, .slice none 0 0, .slice none 0 0, .slice none 0 0] 26 (0, 0))) := hide (heap_new _ _ _ (by simp))
  go_enter Try.func19, Try.ntmps19
  go_wp2_with (go_at_call 14; (with_reducible refine (unhide G1 _ (unhide HB)).mono ?_); rintro e w1 ⟨rfl, hb1⟩; have HR1 := hide (heap_keep (unhide HR) hb1); obtain ⟨m0, l0⟩ := heap_cell (unhide HR1) 0; obtain ⟨m1, l1⟩ := heap_cell (unhide HR1) 1; obtain ⟨m2, l2⟩ := heap_cell (unhide HR1) 2; obtain ⟨m3, l3⟩ := heap_cell (unhide HR1) 3; obtain ⟨m4, l4⟩ := heap_cell (unhide HR1) 4; obtain ⟨m5, l5⟩ := heap_cell (unhide HR1) 5; have HB1 := hide (below_then (unhide HB) hb1); clear hb1)
  refine ret_cell2 (g := w.heap.size + 1) (c := #[.int .i64 0, .int .i64 0, .int .i64 0, .slice none 0 0, .slice none 0 0, .slice none 0 0]) (t := 26) rfl rfl rfl rfl (heap_sets6 (unhide HR1) _ _ _ _ _ _) Try.underlying26 rfl Try.size26 (unhide HP _ _ rfl ?_)
  exact below_set (below_set (below_set (below_set (below_set (below_set (unhide HB1) _ _ _ (by omega)) _ _ _ (by omega)) _ _ _ (by omega)) _ _ _ (by omega)) _ _ _ (by omega)) _ _ _ (by omega)
end Go.Proofs.Ytbbadncdkiganaa
