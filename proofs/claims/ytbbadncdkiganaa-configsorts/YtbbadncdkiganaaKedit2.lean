/- config.Edit. -/
import Derived.Test.YtbbadncdkiganaaKedit
import Derived.Test.YtbbadncdkiganaaKfst
namespace Go.Proofs.Ytbbadncdkiganaa
open Go.RowKit
set_option linter.unusedVariables false
set_option maxRecDepth 4000

def encE (e : Ed) : List Value := [.int .i64 e.kind, .int .i64 e.port, .int .i64 e.n, .int .i64 e.vlan, .int .u8 e.member, .int .u8 e.tagged, .int .u64 e.mac]
def flE (l : List Ed) : List Value := l.flatMap encE
theorem flE_len : ∀ l : List Ed, (flE l).length = l.length * 7
  | [] => rfl
  | x :: t => by
    have := flE_len t
    unfold flE at this ⊢
    rw [List.flatMap_cons, List.length_append, this, List.length_cons]
    show 7 + _ = _
    omega
theorem flE_get : ∀ (l : List Ed) (i j : Nat) (x : Ed), l[i]? = some x → j < 7 → (flE l)[i * 7 + j]? = (encE x)[j]?
  | [], i, j, x, hx, _ => by simp at hx
  | y :: t, 0, j, x, hx, hj => by
    simp at hx
    subst hx
    unfold flE
    rw [List.flatMap_cons, Nat.zero_mul, Nat.zero_add, List.getElem?_append_left (by show j < 7; exact hj)]
  | y :: t, i + 1, j, x, hx, hj => by
    have := flE_get t i j x (by simpa using hx) hj
    unfold flE at this ⊢
    rw [List.flatMap_cons, List.getElem?_append_right (by show 7 ≤ _; omega), show (i + 1) * 7 + j - (encE y).length = i * 7 + j from by show (i + 1) * 7 + j - 7 = _; omega, this]
theorem rowE_at {w : World} {A : Option Addr} {l : List Ed} (hA : RowA w A (flE l)) (hl : 0 < l.length) :
    ∃ b off, A = some ⟨b, off, none⟩ ∧ ∀ (W : World), Below w.heap.size w W → ∀ i x, l[i]? = some x → W.cell? ⟨b, off + i * 7, none⟩ = some (.int .i64 x.kind) ∧ W.cell? ⟨b, off + i * 7 + 1, none⟩ = some (.int .i64 x.port) ∧ W.cell? ⟨b, off + i * 7 + 2, none⟩ = some (.int .i64 x.n) ∧ W.cell? ⟨b, off + i * 7 + 3, none⟩ = some (.int .i64 x.vlan) ∧ W.cell? ⟨b, off + i * 7 + 4, none⟩ = some (.int .u8 x.member) ∧ W.cell? ⟨b, off + i * 7 + 5, none⟩ = some (.int .u8 x.tagged) ∧ W.cell? ⟨b, off + i * 7 + 6, none⟩ = some (.int .u64 x.mac) := by
  obtain ⟨b, off, ha, hc⟩ := hA (fun e => by have := flE_len l; rw [e] at this; simp at this; omega)
  have h : ∀ (W : World), Below w.heap.size w W → ∀ i x, l[i]? = some x → ∀ j u, j < 7 → (encE x)[j]? = some u → W.cell? ⟨b, off + i * 7 + j, none⟩ = some u := fun W hW i x hi j u hj hu => by
    have := hc (i * 7 + j) u (by rw [flE_get l i j x hi hj]; exact hu)
    rw [Nat.add_assoc]
    exact keep_cell this hW
  exact ⟨b, off, ha, fun W hW i x hi => ⟨h W hW i x hi 0 _ (by omega) rfl, h W hW i x hi 1 _ (by omega) rfl, h W hW i x hi 2 _ (by omega) rfl, h W hW i x hi 3 _ (by omega) rfl, h W hW i x hi 4 _ (by omega) rfl, h W hW i x hi 5 _ (by omega) rfl, h W hW i x hi 6 _ (by omega) rfl⟩⟩
theorem all_snoc (c : Cfg) : ∀ (l : List Ed) (e : Ed), (applyAll c l).1 = 0 → applyAll c (l ++ [e]) = if (applyE (applyAll c l).2 e).1 = 0 then (0, (applyE (applyAll c l).2 e).2) else ((applyE (applyAll c l).2 e).1, (applyAll c l).2) := by
  intro l
  induction l generalizing c with
  | nil => intro e _; rfl
  | cons x t ih =>
    intro e h
    by_cases h2 : (applyE c x).1 = 0
    · have hx : ∀ r, applyAll c (x :: r) = applyAll (applyE c x).2 r := fun r => by simp [applyAll, h2]
      rw [hx] at h
      rw [List.cons_append, hx, hx]
      exact ih _ e h
    · have hx : applyAll c (x :: t) = ((applyE c x).1, c) := by simp [applyAll, h2]
      rw [hx] at h
      exact absurd h h2
/-- An edit that fails ends it. -/
theorem all_stop (c : Cfg) : ∀ (l r : List Ed), (applyAll c l).1 ≠ 0 → (applyAll c (l ++ r)).1 = (applyAll c l).1 := by
  intro l
  induction l generalizing c with
  | nil => intro r h; exact absurd rfl h
  | cons x t ih =>
    intro r h
    simp only [List.cons_append, applyAll] at h ⊢
    split at h
    · rename_i h2
      rw [if_pos h2, if_pos h2]
      exact ih _ r h
    · rename_i h2
      rw [if_neg h2, if_neg h2]
theorem way_good {c : Cfg} (hM : Mems c) (h : goodB c = true) : Way c 0 := by
  simp only [goodB, Bool.and_eq_true] at h
  obtain ⟨⟨⟨⟨h1, h2⟩, h3⟩, h4⟩, h5⟩ := h
  have := sizes_lim h1
  simp only [vlansB, Bool.and_eq_true] at h3
  simp only [statsB, Bool.and_eq_true] at h5
  exact ⟨h3.2, h5.2, by omega, by omega, by omega, hM⟩
end Go.Proofs.Ytbbadncdkiganaa
