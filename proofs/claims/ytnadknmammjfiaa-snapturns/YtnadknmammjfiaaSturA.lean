/- SnapTurns. -/
import Derived.Test.YtnadknmammjfiaaSeldW
namespace Go.Proofs.Ytnadknmammjfiaa
open Go.RowKit
set_option linter.unusedVariables false
set_option maxRecDepth 4000
attribute [local go_sem ↓] ldS_of
attribute [local go_sem] eql36 eqGuard36 sv_is

/-- Behind k Saves of rising epochs. -/
def Tn (k : Nat) (x y : Option (Int × List Int)) : Prop := (∀ a, x = some a → a.1 ≤ (k : Int)) ∧ (∀ b, y = some b → b.1 ≤ (k : Int)) ∧ spX x y = 16 * (k % 2)
theorem tn_zero : Tn 0 none none := ⟨fun a h => (by cases h), fun b h => (by cases h), rfl⟩
theorem tn_even {k : Nat} {x y : Option (Int × List Int)} (h : Tn k x y) (hk : k % 2 = 0) (b : List Int) : newX (some ((k : Int) + 1, b)) y = some (0, (k : Int) + 1, b) ∧ Tn (k + 1) (some ((k : Int) + 1, b)) y := by
  obtain ⟨h1, h2, h3⟩ := h
  have e : newX (some ((k : Int) + 1, b)) y = some (0, (k : Int) + 1, b) := by
    cases y with
    | none => rfl
    | some c =>
      have := h2 c rfl
      show (if (k : Int) + 1 < c.1 then _ else _) = _
      rw [if_neg (by omega)]
  refine ⟨e, fun a h => (by cases h; show (k : Int) + 1 ≤ _; omega), fun c h => (by have := h2 c h; omega), ?_⟩
  unfold spX
  rw [e]
  show (if (0 : Nat) = 0 then 16 else 0) = _
  rw [if_pos rfl]
  omega
theorem tn_odd {k : Nat} {x y : Option (Int × List Int)} (h : Tn k x y) (hk : k % 2 = 1) (b : List Int) : newX x (some ((k : Int) + 1, b)) = some (16, (k : Int) + 1, b) ∧ Tn (k + 1) x (some ((k : Int) + 1, b)) := by
  obtain ⟨h1, h2, h3⟩ := h
  have e : newX x (some ((k : Int) + 1, b)) = some (16, (k : Int) + 1, b) := by
    cases x with
    | none => rfl
    | some c =>
      have := h1 c rfl
      show (if c.1 < (k : Int) + 1 then _ else _) = _
      rw [if_pos (by omega)]
  refine ⟨e, fun a h => (by have := h1 a h; omega), fun c h => (by cases h; show (k : Int) + 1 ≤ _; omega), ?_⟩
  unfold spX
  rw [e]
  show (if (16 : Nat) = 0 then 16 else 0) = _
  rw [if_neg (by decide)]
  omega
theorem Snp.read {w : World} {base g gs : Nat} {S : List Sct} {x y : Option (Int × List Int)} (h : Snp w base g gs S x y) (i : Nat) (hi : i < 32) :
    Calls Try.prog 22 #[.pointer (some ⟨g, 0, none⟩), .int .i64 i] w fun e w' => e = .returned (.tuple #[sv (S.getD i zeroS), .int .i64 0]) ∧ Below w.heap.size w w' := by
  have hl := h.len
  have := read_yes w h.dsk i (by omega) (by simp)
  rw [readS_nil] at this
  exact this
theorem over_far (S : List Sct) (p q : Nat) (ep : Int) (b : List Int) (hp : p + 16 ≤ S.length) (hq : q < S.length) (hpq : q < p ∨ p + 16 ≤ q) (hl : b.length ≤ 930) : (overS S p (snS ep b)).getD q zeroS = S.getD q zeroS := by
  have hs := snS_len ep b
  have e := over_get S p (snS ep b) (by omega) q hq
  rw [if_neg (by omega)] at e
  rw [List.getD_eq_getElem?_getD, e]; rfl
theorem secs_turned {w w' : World} {base g gs a : Nat} {S : List Sct} (hd : Dsk 71 82 w base g gs S []) (t : Turned 82 base g gs w w') {T : List Sct} (h : SecsAt w 44 a T) (h1 : a ≠ g) (h2 : a ≠ gs) : SecsAt w' 44 a T := by
  obtain ⟨⟨cur, hc, hx⟩, hy⟩ := id h
  exact h.of_block (t.block a (lt_of_get hc) h1 h2 (.inr (fun c' f' e => by rw [hc] at e; cases e)))
theorem part_at {w : World} {a : Option Addr} {l : List (List Int)} (h : PartsA w a l) {k : Nat} (hk : k < l.length) : ∃ b off a' c', a = some ⟨b, off, none⟩ ∧ w.cell? ⟨b, off + k, none⟩ = some (.slice a' (l.getD k []).length c') ∧ BysA w a' (l.getD k []) := by
  obtain ⟨b, off, e, hc⟩ := h (by rintro rfl; simp at hk)
  obtain ⟨a', c', h1, h2⟩ := hc k hk
  exact ⟨b, off, a', c', e, h1, h2⟩
/-- One more Save, with all that is told of it. -/
theorem sturn_save {wr : World} {g gs : Nat} {S : List Sct} {x y : Option (Int × List Int)} {w : World} (h : Snp wr w.heap.size g gs S x y) (hb : Below w.heap.size w wr) {k : Nat} (ht : Tn k x y) (hk : k ≤ 12) {b : List Int} (hB : Byt b) (hl : b.length ≤ 700) {A : Option Addr} (c : Nat) (hA : BysA w A b) (W : World) (hW : Below wr.heap.size wr W) :
    Calls Try.prog 12 #[.pointer (some ⟨g, 0, none⟩), .int .u32 ((k : Int) + 1), .slice A b.length c] W fun e w' => e = .returned (.int .i64 0) ∧ ∃ x' y', Snp w' w.heap.size g gs (overS S (16 * (k % 2)) (snS ((k : Int) + 1) b)) x' y' ∧ Tn (k + 1) x' y' ∧ newX x' y' = some (16 * (k % 2), (k : Int) + 1, b) ∧ Turned 82 w.heap.size g gs W w' ∧ Below w.heap.size w w' := by
  have hWb := below_then hb hW
  have hs := (h.below hW).save ((k : Int) + 1) (by omega) A b c (bysA_below hA hWb) hB (by omega)
  rw [ht.2.2] at hs
  refine hs.mono ?_
  rintro e w' ⟨rfl, hs', ht'⟩
  have hlt := h.dsk.lt
  have hbb := hWb.trans (ht'.below hWb.size hlt.2.2.1 hlt.2.2.2)
  rcases Nat.mod_two_eq_zero_or_one k with hp | hp
  · rw [hp] at hs' ⊢
    rw [if_pos rfl, if_pos rfl] at hs'
    obtain ⟨e1, e2⟩ := tn_even ht hp b
    exact ⟨rfl, _, _, hs', e2, e1, ht', hbb⟩
  · rw [hp] at hs' ⊢
    rw [if_neg (by decide), if_neg (by decide)] at hs'
    obtain ⟨e1, e2⟩ := tn_odd ht hp b
    exact ⟨rfl, _, _, hs', e2, e1, ht', hbb⟩
theorem sturn_no (a : Option Addr) (n c : Nat) (h : 12 < n) (hn : n ≤ maxLen) (w : World) :
    Calls Try.prog 6 #[.slice a n c] w fun e w' => e = .returned (.bool true) ∧ Below w.heap.size w w' := by
  have hml : maxLen = 9223372036854775807 := rfl
  rw [hml] at hn
  have h' : (12 : Int) < (n : Int) := by omega
  go_enter Try.func6, Try.ntmps6
  go_wp2_with (go_at_call 9; refine (wakesS _).mono ?_; rintro e w3 ⟨rfl, hb⟩)
  go_ret
  exact ⟨rfl, hb⟩
end Go.Proofs.Ytnadknmammjfiaa
