/- Contracts of the journal's leaves: Room, Next, isNext, need. -/
import Derived.Test.YtfceileohkngnaaJdec
namespace Go.Proofs.Ytfceileohkngnaa
open Go.RowKit
set_option linter.unusedVariables false
set_option maxRecDepth 4000

/-- A journal in memory: its disk, its place, its epoch, its end, how many entries it has. -/
def Jr (w : World) (j g : Nat) (fr tt : Nat) (ep : Int) (en : Nat) (ct : Int) : Prop :=
  w.heap[j]? = some (.cells #[.pointer (some ⟨g, 0, none⟩), .int .i64 fr, .int .i64 tt, .int .u32 ep, .int .i64 en, .int .u32 ct] 106 (0, 0))

theorem Jr.below {w w' : World} {j g fr tt : Nat} {ep : Int} {en : Nat} {ct : Int} (h : Jr w j g fr tt ep en ct) (hb : Below w.heap.size w w') : Jr w' j g fr tt ep en ct := by
  unfold Jr
  rw [hb.block j (lt_of_get h)]; exact h
theorem Jr.turned {tW : TypeId} {base gd gs : Nat} {w w' : World} {j g fr tt : Nat} {ep : Int} {en : Nat} {ct : Int} (h : Jr w j g fr tt ep en ct) (ht : Turned tW base gd gs w w') (h1 : j ≠ gd) (h2 : j ≠ gs) (h3 : tW ≠ 106) : Jr w' j g fr tt ep en ct := by
  unfold Jr at h ⊢
  rw [ht.block j (lt_of_get h) h1 h2 (.inr (fun cur fr' e => by rw [h] at e; cases e; exact h3 rfl))]; exact h
theorem Jr.cells {w : World} {j g fr tt : Nat} {ep : Int} {en : Nat} {ct : Int} (h : Jr w j g fr tt ep en ct) :
    w.cell? ⟨j, 0, none⟩ = some (.pointer (some ⟨g, 0, none⟩)) ∧ w.cell? ⟨j, 1, none⟩ = some (.int .i64 fr) ∧ w.cell? ⟨j, 2, none⟩ = some (.int .i64 tt) ∧ w.cell? ⟨j, 3, none⟩ = some (.int .u32 ep) ∧ w.cell? ⟨j, 4, none⟩ = some (.int .i64 en) ∧ w.cell? ⟨j, 5, none⟩ = some (.int .u32 ct) :=
  ⟨(heap_cell h 0).1, (heap_cell h 1).1, (heap_cell h 2).1, (heap_cell h 3).1, (heap_cell h 4).1, (heap_cell h 5).1⟩

theorem room_any {w : World} {j g fr tt : Nat} {ep : Int} {en : Nat} {ct : Int} (h : Jr w j g fr tt ep en ct) (h1 : en ≤ tt) (h2 : tt ≤ 100000) :
    Calls Try.prog 30 #[.pointer (some ⟨j, 0, none⟩)] w fun e w' => e = .returned (.int .i64 ((tt - en : Nat) : Int)) ∧ ∃ n, w' = w.drewN n := by
  obtain ⟨_, _, c2, _, c4, _⟩ := h.cells
  have hsub : ((tt - en : Nat) : Int) = (tt : Int) - (en : Int) := by omega
  have hl := lt_of_get h
  rw [hsub]
  go_enter Try.func30, Try.ntmps30
  go_wp2
  go_quiet (fail)
  go_wp2
  go_ret
  exact ⟨rfl, _, rfl⟩
theorem room_nil (w : World) : Calls Try.prog 30 #[.pointer none] w fun e w' => e = .returned (.int .i64 0) ∧ w' = w := by
  go_enter Try.func30, Try.ntmps30
  go_wp2
  go_ret
  exact ⟨rfl, rfl⟩
theorem next_nil (w : World) (ep : Int) : Calls Try.prog 24 #[.pointer none, .int .u32 ep] w fun e w' => e = .returned (.tuple #[]) ∧ w' = w := by
  go_enter Try.func24, Try.ntmps24
  go_wp2
  refine bodyPost_ret (results_none rfl _ _ _) rfl ?_
  exact ⟨rfl, rfl⟩
theorem all_nil (w : World) : Calls Try.prog 29 #[.pointer none] w fun e w' => e = .returned (.slice none 0 0) ∧ w' = w := by
  go_enter Try.func29, Try.ntmps29
  go_wp2
  go_ret
  exact ⟨rfl, rfl⟩
theorem append_nil (w : World) (v : Value) : Calls Try.prog 21 #[.pointer none, v] w fun e w' => e = .returned (.int .i64 1) ∧ w' = w := by
  go_enter Try.func21, Try.ntmps21
  go_wp2
  go_ret
  exact ⟨rfl, rfl⟩
theorem open_nil (w : World) (a b ep : Int) : Calls Try.prog 19 #[.pointer none, .int .i64 a, .int .i64 b, .int .u32 ep] w fun e w' => e = .returned (.tuple #[.pointer none, .int .i64 1]) ∧ w' = w := by
  go_enter Try.func19, Try.ntmps19
  go_wp2
  go_ret2
  exact ⟨rfl, rfl⟩
theorem open_out {base g gs : Nat} {S : List Sct} {P : List (Nat × Sct)} (w : World) (h : Dsk 102 120 w base g gs S P) (a b ep : Int) (hab : a < 0 ∨ b ≤ a ∨ (S.length : Int) < b) :
    Calls Try.prog 19 #[.pointer (some ⟨g, 0, none⟩), .int .i64 a, .int .i64 b, .int .u32 ep] w fun e w' => e = .returned (.tuple #[.pointer none, .int .i64 1]) ∧ w' = w := by
  have H := hide (len_any w h)
  generalize S.length = n at *
  by_cases h1 : a < 0
  · go_enter Try.func19, Try.ntmps19
    go_wp2_with (go_at_call 45; refine (unhide H).mono ?_; rintro e w' ⟨rfl, rfl⟩)
    go_ret2
    exact ⟨rfl, rfl⟩
  · by_cases h2 : b ≤ a
    · go_enter Try.func19, Try.ntmps19
      go_wp2_with (go_at_call 45; refine (unhide H).mono ?_; rintro e w' ⟨rfl, rfl⟩)
      go_ret2
      exact ⟨rfl, rfl⟩
    · have h3 : (n : Int) < b := by omega
      clear hab
      go_enter Try.func19, Try.ntmps19
      go_wp2_with (go_at_call 45; refine (unhide H).mono ?_; rintro e w' ⟨rfl, rfl⟩)
      go_ret2
      exact ⟨rfl, rfl⟩

theorem next_any {w : World} {j g fr tt : Nat} {ep : Int} {en : Nat} {ct : Int} (h : Jr w j g fr tt ep en ct) (ep' : Int) :
    Calls Try.prog 24 #[.pointer (some ⟨j, 0, none⟩), .int .u32 ep'] w fun e w' => e = .returned (.tuple #[]) ∧ Jr w' j g fr tt ep' fr 0 ∧ (∀ b, b ≠ j → w'.heap[b]? = w.heap[b]?) ∧ Below j w w' := by
  obtain ⟨_, c1, _, c3, c4, c5⟩ := h.cells
  have f3 := (heap_cell h 3).2
  have f4 := (heap_cell h 4).2
  have f5 := (heap_cell h 5).2
  have hl := lt_of_get h
  have H := hide h
  clear h
  go_enter Try.func24, Try.ntmps24
  go_wp2
  refine bodyPost_end (results_none rfl _ _ _) rfl ⟨rfl, ?_, ?_, ?_⟩
  · unfold Jr
    have h1 := heap_set (unhide H) 3 (.int .u32 ep')
    have h2 := heap_set h1 5 (.int .u32 0)
    have h3 := heap_set h2 4 (.int .i64 fr)
    exact h3
  · intro b hb
    rw [Below.heap_setCell _ _ _ _ hb, Below.heap_setCell _ _ _ _ hb, Below.heap_setCell _ _ _ _ hb]
  · have b1 := (Below.refl j w).setCell (p := ⟨j, 3, none⟩) (Nat.le_refl _) (.int .u32 ep')
    have b2 := b1.setCell (p := ⟨j, 5, none⟩) (Nat.le_refl _) (.int .u32 0)
    exact b2.setCell (p := ⟨j, 4, none⟩) (Nat.le_refl _) (.int .i64 fr)

def isN (ep : Int) (c : Nat) (k e s : Int) : Bool := k == 1 && (e == ep && s == (c : Int) % 4294967296)
theorem isNext_any {w : World} {j g fr tt : Nat} {ep : Int} {en : Nat} {ct : Int} (h : Jr w j g fr tt ep en ct) (k e s : Int) (B : Option Addr) (n c : Nat) (m : Nat) (hm : m ≤ 100000) :
    Calls Try.prog 68 #[.pointer (some ⟨j, 0, none⟩), .agg #[.int .i64 k, .int .u32 e, .int .u32 s, .slice B n c], .int .i64 m] w fun x w' => x = .returned (.bool (isN ep m k e s)) ∧ Below w.heap.size w w' := by
  have hl := lt_of_get h
  obtain ⟨_, _, _, c3, _, _⟩ := (h.below (below_alloc (Below.refl _ _) (.cells #[.int .i64 k, .int .u32 e, .int .u32 s, .slice B n c] 25))).cells
  have hb := below_alloc (Below.refl w.heap.size w) (.cells #[.int .i64 k, .int .u32 e, .int .u32 s, .slice B n c] 25)
  have hn := heap_alloc_last w (.cells #[.int .i64 k, .int .u32 e, .int .u32 s, .slice B n c] 25)
  have x0 := (heap_cell hn 0).1
  have x1 := (heap_cell hn 1).1
  have x2 := (heap_cell hn 2).1
  have hwr : IntKind.u32.wrap (m : Int) = (m : Int) % 4294967296 := by rw [IntKind.wrap_u32]
  clear hn h
  unfold isN
  by_cases h1 : k = 1
  · subst h1
    by_cases h2 : e = ep
    · subst h2
      go_enter Try.func68, Try.ntmps68
      go_wp2
      generalize w.alloc (.cells #[.int .i64 1, .int .u32 e, .int .u32 s, .slice B n c] 25) = W at *
      go_quiet (fail)
      go_wp2
      go_ret
      refine ⟨ret_bool (by simp), below_drewN hb _⟩
    · have h2' : (e == ep) = false := beq_eq_false_iff_ne.2 h2
      go_enter Try.func68, Try.ntmps68
      go_wp2
      generalize w.alloc (.cells #[.int .i64 1, .int .u32 e, .int .u32 s, .slice B n c] 25) = W at *
      go_quiet (fail)
      go_wp2
      go_ret
      refine ⟨ret_bool (by simp [h2']), below_drewN hb _⟩
  · have h1' : (k == 1) = false := beq_eq_false_iff_ne.2 h1
    go_enter Try.func68, Try.ntmps68
    go_wp2
    generalize w.alloc (.cells #[.int .i64 k, .int .u32 e, .int .u32 s, .slice B n c] 25) = W at *
    go_quiet (fail)
    go_wp2
    go_ret
    refine ⟨ret_bool (by simp [h1']), below_drewN hb _⟩
end Go.Proofs.Ytfceileohkngnaa
