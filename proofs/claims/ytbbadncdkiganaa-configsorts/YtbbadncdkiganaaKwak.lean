/- What the laws of config ask of two edits of their own. -/
import Derived.Test.YtbbadncdkiganaaKedit4
import Derived.Test.YtbbadncdkiganaaKeq
namespace Go.Proofs.Ytbbadncdkiganaa
open Go.RowKit
set_option linter.unusedVariables false
set_option maxRecDepth 4000

def wl1 : List Ed := [⟨7, 0, 0, 10, 3, 2, 0⟩, ⟨6, 0, 10, 0, 0, 0, 0⟩, ⟨9, 1, 0, 10, 0, 0, 5⟩]
def wl2 : List Ed := [⟨6, 0, 10, 0, 0, 0, 0⟩]
def wD : Cfg := ⟨32768, 20, 15, [(true, 20000, 10), (true, 20000, 1), (true, 20000, 1)], [(1, 7, 0), (10, 3, 2)], [(5, 10, 1)]⟩
theorem we1 : editE (firstC 3) wl1 = 0 := by decide +kernel
theorem wc1 : editC (firstC 3) wl1 = wD := by kernel_rfl
theorem we2 : editE (firstC 3) wl2 = 14 := by decide +kernel
theorem wg : goodB wD = true := by decide +kernel
theorem ws1 : sameB (firstC 3) wD = false := by decide +kernel
theorem ws2 : sameB wD wD = true := by decide +kernel
theorem rowE_of {W : World} {N : Nat} {c : Array Value} {l : List Ed} (hN : W.heap[N]? = some (.cells c 44 (0, 0))) (hc : c.toList = flE l) : RowA W (some ⟨N, 0, none⟩) (flE l) := fun _ => ⟨N, 0, rfl, fun j u hj => by rw [Nat.zero_add, (heap_cell hN j).1]; rw [← hc] at hj; simpa using hj⟩
theorem first_mems (n : Nat) (h : n ≤ 8) : Mems (firstC n) := fun v hv => by
  have : v = (1, everyI n, 0) := by simpa [firstC] using hv
  subst this
  exact every_lim n h
theorem first_lens (n : Nat) (h : n ≤ 8) : Lens (firstC n) := ⟨maxLen_ge _ (by simp [firstC]; omega), maxLen_ge _ (by simp [firstC]), maxLen_ge _ (by simp [firstC])⟩
theorem wk1 (W : World) (Ap Av : Option Addr) (cp cv N : Nat) (hA : CfgA W (firstC 3) Ap Av none) (hN : W.heap[N]? = some (.cells #[.int .i64 7, .int .i64 0, .int .i64 0, .int .i64 10, .int .u8 3, .int .u8 2, .int .u64 0, .int .i64 6, .int .i64 0, .int .i64 10, .int .i64 0, .int .u8 0, .int .u8 0, .int .u64 0, .int .i64 9, .int .i64 1, .int .i64 0, .int .i64 10, .int .u8 0, .int .u8 0, .int .u64 5] 44 (0, 0))) :
    Calls Try.prog 19 #[.agg #[.int .i64 32768, .int .i64 20, .int .i64 15, .slice Ap 3 cp, .slice Av 1 cv, .slice none 0 0], .slice (some ⟨N, 0, none⟩) 3 3] W fun e w' => Below W.heap.size W w' ∧ ∃ Ap' cp' Av' cv' As' cs', e = .returned (.tuple #[.agg #[.int .i64 32768, .int .i64 20, .int .i64 15, .slice Ap' 3 cp', .slice Av' 2 cv', .slice As' 1 cs'], .int .i64 0]) ∧ CfgA w' wD Ap' Av' As' := by
  refine (edit_any (firstC 3) wl1 Ap Av none (some ⟨N, 0, none⟩) cp cv 0 3 (first_lens 3 (by omega)) (first_mems 3 (by omega)) W hA (rowE_of hN rfl) (maxLen_ge _ (by decide)) (by intro e he; simp [wl1] at he; rcases he with rfl | rfl | rfl <;> simp)).mono ?_
  rintro e w' ⟨hb, h⟩
  rcases h with ⟨h, _⟩ | ⟨_, vp, vv, vs, h1, h2⟩
  · exact absurd we1 h
  · rw [wc1] at h1 h2
    obtain ⟨Ap', Av', As', cp', cv', cs', rfl, rfl, rfl, h3⟩ := h2.open
    exact ⟨hb, Ap', cp', Av', cv', As', cs', h1, h3⟩
theorem wk2 (W : World) (Ap Av : Option Addr) (cp cv N : Nat) (hA : CfgA W (firstC 3) Ap Av none) (hN : W.heap[N]? = some (.cells #[.int .i64 6, .int .i64 0, .int .i64 10, .int .i64 0, .int .u8 0, .int .u8 0, .int .u64 0] 44 (0, 0))) :
    Calls Try.prog 19 #[.agg #[.int .i64 32768, .int .i64 20, .int .i64 15, .slice Ap 3 cp, .slice Av 1 cv, .slice none 0 0], .slice (some ⟨N, 0, none⟩) 1 1] W fun e w' => Below W.heap.size W w' ∧ e = .returned (.tuple #[.agg #[.int .i64 0, .int .i64 0, .int .i64 0, .slice none 0 0, .slice none 0 0, .slice none 0 0], .int .i64 14]) := by
  refine (edit_any (firstC 3) wl2 Ap Av none (some ⟨N, 0, none⟩) cp cv 0 1 (first_lens 3 (by omega)) (first_mems 3 (by omega)) W hA (rowE_of hN rfl) (maxLen_ge _ (by decide)) (by intro e he; simp [wl2] at he; subst he; simp)).mono ?_
  rintro e w' ⟨hb, h⟩
  rcases h with ⟨_, h⟩ | ⟨h, _⟩
  · rw [we2] at h
    exact ⟨hb, h⟩
  · rw [we2] at h
    cases h
theorem wk0 (W : World) : Calls Try.prog 11 #[.int .i64 3] W fun e w' => ∃ Ap cp Av cv, e = .returned (.tuple #[.agg #[.int .i64 32768, .int .i64 20, .int .i64 15, .slice Ap 3 cp, .slice Av 1 cv, .slice none 0 0], .int .i64 0]) ∧ CfgA w' (firstC 3) Ap Av none ∧ Below W.heap.size W w' := by
  refine (first_yes 3 (by omega) (by omega) W).mono ?_
  rintro e w' ⟨Ap, cp, Av, cv, h1, h2, h3⟩
  refine ⟨Ap, cp, Av, cv, h1, ?_, h3⟩
  obtain ⟨Ap', Av', As', cp', cv', cs', e1, e2, e3, h⟩ := h2.open
  cases e1; cases e2; cases e3
  exact h
theorem wD_lens : Lens wD := ⟨maxLen_ge _ (by decide), maxLen_ge _ (by decide), maxLen_ge _ (by decide)⟩
theorem wD_mems : Mems wD := fun v hv => by
  simp [wD] at hv
  rcases hv with rfl | rfl <;> simp
theorem wk3 (W : World) (Ap Av As : Option Addr) (cp cv cs : Nat) (hA : CfgA W wD Ap Av As) : Calls Try.prog 14 #[.agg #[.int .i64 32768, .int .i64 20, .int .i64 15, .slice Ap 3 cp, .slice Av 2 cv, .slice As 1 cs]] W fun e w' => e = .returned (.bool true) ∧ Below W.heap.size W w' := good_t (cp := cp) (cv := cv) (cs := cs) wg wD_lens wD_mems W hA
theorem wk4 (W : World) (Bp Bv : Option Addr) (dp dv : Nat) (Ap Av As : Option Addr) (cp cv cs : Nat) (hB : CfgA W (firstC 3) Bp Bv none) (hA : CfgA W wD Ap Av As) : Calls Try.prog 16 #[.agg #[.int .i64 32768, .int .i64 20, .int .i64 15, .slice Bp 3 dp, .slice Bv 1 dv, .slice none 0 0], .agg #[.int .i64 32768, .int .i64 20, .int .i64 15, .slice Ap 3 cp, .slice Av 2 cv, .slice As 1 cs]] W fun e w' => e = .returned (.bool false) ∧ Below W.heap.size W w' := bool_to (same_any (firstC 3) wD Bp Bv none Ap Av As dp dv 0 cp cv cs (first_lens 3 (by omega)) wD_lens W hB hA) ws1
theorem wk5 (W : World) (Bp Bv Bs : Option Addr) (dp dv ds : Nat) (Ap Av As : Option Addr) (cp cv cs : Nat) (hB : CfgA W wD Bp Bv Bs) (hA : CfgA W wD Ap Av As) : Calls Try.prog 16 #[.agg #[.int .i64 32768, .int .i64 20, .int .i64 15, .slice Bp 3 dp, .slice Bv 2 dv, .slice Bs 1 ds], .agg #[.int .i64 32768, .int .i64 20, .int .i64 15, .slice Ap 3 cp, .slice Av 2 cv, .slice As 1 cs]] W fun e w' => e = .returned (.bool true) ∧ Below W.heap.size W w' := bool_to (same_any wD wD Bp Bv Bs Ap Av As dp dv ds cp cv cs wD_lens wD_lens W hB hA) ws2
theorem wk6 (W : World) (Ap Av As : Option Addr) (cp cv cs : Nat) (hA : CfgA W wD Ap Av As) : Calls Try.prog 13 #[.agg #[.int .i64 32768, .int .i64 20, .int .i64 15, .slice Ap 3 cp, .slice Av 2 cv, .slice As 1 cs]] W fun e w' => ∃ Ap' cp' Av' cv' As' cs', e = .returned (.agg #[.int .i64 32768, .int .i64 20, .int .i64 15, .slice Ap' 3 cp', .slice Av' 2 cv', .slice As' 1 cs']) ∧ CfgA w' wD Ap' Av' As' ∧ Below W.heap.size W w' := by
  refine (copy_any wD Ap Av As cp cv cs (by decide) (by decide) (by decide) W hA).mono ?_
  rintro e w' ⟨vp, vv, vs, h1, h2, h3⟩
  obtain ⟨Ap', Av', As', cp', cv', cs', rfl, rfl, rfl, h⟩ := h2.open
  exact ⟨Ap', cp', Av', cv', As', cs', h1, h, h3⟩
end Go.Proofs.Ytbbadncdkiganaa
