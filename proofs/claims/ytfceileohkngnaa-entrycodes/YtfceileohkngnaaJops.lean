/- Contracts of Open, All, Append. -/
import Derived.Test.YtfceileohkngnaaJput
import Derived.Deep.RegionHeld3
namespace Go.Proofs.Ytfceileohkngnaa
open Go.RowKit
set_option linter.unusedVariables false
set_option maxRecDepth 4000

/-- The entries that stand in a part of the sectors, and how many sectors they have. -/
def jrnL (ep : Int) (S : List Sct) (fr n : Nat) : List (List Int) := (scanS ep (n + 1) ((S.drop fr).take n) 0).1
def jrnN (ep : Int) (S : List Sct) (fr n : Nat) : Nat := (scanS ep (n + 1) ((S.drop fr).take n) 0).2
theorem jrn_lim (ep : Int) (S : List Sct) (fr n : Nat) : jrnN ep S fr n ≤ n ∧ (jrnL ep S fr n).length ≤ jrnN ep S fr n ∧ ∀ b ∈ jrnL ep S fr n, Byt b ∧ b.length ≤ 4000 := by
  obtain ⟨h1, h2, h3⟩ := scan_lim ep (n + 1) ((S.drop fr).take n) 0
  rw [List.length_take] at h1
  exact ⟨by unfold jrnN; omega, h2, h3⟩

theorem entries_at {base g gs : Nat} {S : List Sct} (w : World) (h : Dsk 102 120 w base g gs S []) {j fr tt : Nat} {ep : Int} {en : Nat} {ct : Int} (hj : Jr w j g fr tt ep en ct) (n : Nat) (hn : fr + n ≤ S.length) (hn1 : n ≤ 900) (X : Int) (hX : X = ((fr + n : Nat) : Int)) :
    Calls Try.prog 46 #[.pointer (some ⟨j, 0, none⟩), .int .i64 X] w fun e w' => ∃ A c, e = .returned (.tuple #[.slice A (jrnL ep S fr n).length c, .int .i64 ((fr + jrnN ep S fr n : Nat) : Int)]) ∧ PartsA w' A (jrnL ep S fr n) ∧ Below w.heap.size w w' := by
  subst hX
  exact entries_any w h hj n _ rfl hn hn1

theorem all_any {base g gs : Nat} {S : List Sct} (w : World) (h : Dsk 102 120 w base g gs S []) {j fr tt : Nat} {ep : Int} {en : Nat} {ct : Int} (hj : Jr w j g fr tt ep en ct) (hfe : fr ≤ en) (hn : en ≤ S.length) (hn1 : en ≤ 900) :
    Calls Try.prog 29 #[.pointer (some ⟨j, 0, none⟩)] w fun e w' => ∃ A c, e = .returned (.slice A (jrnL ep S fr (en - fr)).length c) ∧ PartsA w' A (jrnL ep S fr (en - fr)) ∧ Below w.heap.size w w' := by
  have HE := hide (entries_at w h hj (en - fr) (by omega) (by omega) (en : Int) (by omega))
  obtain ⟨c0, c1, c2, c3, c4, c5⟩ := hj.cells
  generalize jrnL ep S fr (en - fr) = L at *
  generalize jrnN ep S fr (en - fr) = M at *
  clear h hj
  go_enter Try.func29, Try.ntmps29
  go_wp2_with (go_at_call 46; (with_reducible refine (unhide HE).mono ?_); rintro e w2 ⟨A, c, rfl, hp, hb⟩)
  go_ret
  exact ⟨_, _, rfl, hp, hb⟩

set_option maxHeartbeats 1000000 in
theorem open_yes {base g gs : Nat} {S : List Sct} (w : World) (h : Dsk 102 120 w base g gs S []) (fr tt : Nat) (ep : Int) (hft : fr < tt) (hts : tt ≤ S.length) (ht9 : tt ≤ 900) :
    Calls Try.prog 19 #[.pointer (some ⟨g, 0, none⟩), .int .i64 fr, .int .i64 tt, .int .u32 ep] w fun e w' => ∃ j, e = .returned (.tuple #[.pointer (some ⟨j, 0, none⟩), .int .i64 0]) ∧ Jr w' j g fr tt ep (fr + jrnN ep S fr (tt - fr)) ((jrnL ep S fr (tt - fr)).length : Int) ∧ w.heap.size ≤ j ∧ Below w.heap.size w w' := by
  have H := hide (len_any w h)
  have hS : S.length ≤ 4096 := by obtain ⟨_, _, _, _, _, _, _, h'⟩ := h; exact h'
  have hb0 : Below w.heap.size w (w.alloc (.cells #[.pointer (some ⟨g, 0, none⟩), .int .i64 fr, .int .i64 tt, .int .u32 ep, .int .i64 0, .int .u32 0] 106)) := below_alloc (Below.refl _ _) _
  have hj0 : Jr (w.alloc (.cells #[.pointer (some ⟨g, 0, none⟩), .int .i64 fr, .int .i64 tt, .int .u32 ep, .int .i64 0, .int .u32 0] 106)) w.heap.size g fr tt ep 0 0 := heap_alloc_last _ _
  have HE := hide (entries_at _ (h.below hb0) hj0 (tt - fr) (by omega) (by omega) (tt : Int) (by omega))
  obtain ⟨l1, l2, _⟩ := jrn_lim ep S fr (tt - fr)
  have hz0 : (w.alloc (.cells #[.pointer (some ⟨g, 0, none⟩), .int .i64 fr, .int .i64 tt, .int .u32 ep, .int .i64 0, .int .u32 0] 106)).heap.size = w.heap.size + 1 := by simp
  have HB0 := hide hb0
  have HJ0 := hide hj0
  generalize jrnL ep S fr (tt - fr) = L at *
  generalize jrnN ep S fr (tt - fr) = M at *
  have f1 : ¬ (fr : Int) < 0 := by omega
  have f2 : ¬ (tt : Int) ≤ (fr : Int) := by omega
  have f3 : ¬ (S.length : Int) < (tt : Int) := by omega
  have hwr : IntKind.u32.wrap (L.length : Int) = (L.length : Int) := by rw [IntKind.wrap_u32]; omega
  generalize S.length = n at *
  clear h hj0 hb0
  go_enter Try.func19, Try.ntmps19
  go_wp2_with (first
    | (go_at_call 45; (with_reducible refine (unhide H).mono ?_); rintro e w' ⟨rfl, rfl⟩)
    | (go_at_call 46; (with_reducible refine (unhide HE).mono ?_); rintro e w2 ⟨A, c, rfl, hp, hb⟩; have hj2 := (unhide HJ0).below hb; have HJ2 := hide hj2; have HB2 := hide (below_then (unhide HB0) hb); have c4 := (heap_cell hj2 4).1; have c5 := (heap_cell hj2 5).1; have k4 := (heap_cell hj2 4).2; have k5 := (heap_cell hj2 5).2; clear hj2 hb hp))
  go_ret2
  refine ⟨_, rfl, ?_, Nat.le_refl _, ?_⟩
  · unfold Jr
    have h1 := heap_set (unhide HJ2) 5 (.int .u32 (L.length : Int))
    have h2 := heap_set h1 4 (.int .i64 ((fr + M : Nat) : Int))
    exact h2
  · exact below_set (below_set (unhide HB2) _ _ _ (Nat.le_refl _)) _ _ _ (Nat.le_refl _)
end Go.Proofs.Ytfceileohkngnaa
