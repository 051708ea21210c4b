/- Parse: what it is; marked. -/
import Derived.Test.YthonngnmdciheaaTag
namespace Go.Proofs.Ythonngnmdciheaa
open Go.RowKit
set_option linter.unusedVariables false
def at2 (bs : List Nat) (j : Nat) : Nat := bs.getD j 0 * 256 + bs.getD (j + 1) 0
def mkB (bs : List Nat) : Bool := decide (at2 bs 12 = 33024)
def endN (bs : List Nat) : Nat := leastN (mkB bs)
def parF (bs : List Nat) : Fr := ⟨fo (bs.take 6), fo ((bs.drop 6).take 6), mkB bs, if mkB bs then ((at2 bs 14 / 8192 : Nat) : Int) else 0, if mkB bs then ((at2 bs 14 % 8192 : Nat) : Int) else 0, ((at2 bs (endN bs - 2) : Nat) : Int), bs.drop (endN bs)⟩
theorem getD_lt (bs : List Nat) (h : ∀ x ∈ bs, x < 256) (j : Nat) : bs.getD j 0 < 256 := by
  rw [List.getD_eq_getElem?_getD]
  cases hj : bs[j]? with
  | none => simp
  | some x => exact h x (List.mem_of_getElem? hj)
theorem at2_lt (bs : List Nat) (h : ∀ x ∈ bs, x < 256) (j : Nat) : at2 bs j < 65536 := by
  have := getD_lt bs h j; have := getD_lt bs h (j + 1); unfold at2; omega
theorem u8s_getD (bs : List Nat) (j : Nat) (h : j < bs.length) : (u8s bs)[j]? = some (.int .u8 (bs.getD j 0 : Nat)) := by
  rw [u8s_get bs j h, List.getD_eq_getElem?_getD, List.getElem?_eq_getElem h]; rfl
/-- A row's cells, by place. -/
theorem row_at {w : World} {A : Option Addr} {bs : List Nat} (hA : RowA w A (u8s bs)) (hl : 0 < bs.length) : ∃ b off, A = some ⟨b, off, none⟩ ∧ ∀ W, Below w.heap.size w W → ∀ j, j < bs.length → W.cell? ⟨b, off + j, none⟩ = some (.int .u8 (bs.getD j 0 : Nat)) := by
  obtain ⟨b, off, ha, hc⟩ := hA (by intro h; have := congrArg List.length h; rw [u8s_len] at this; simp only [List.length_nil] at this; omega)
  refine ⟨b, off, ha, fun W hW j hj => ?_⟩
  have := hc j _ (u8s_getD bs j hj)
  rw [hW.cell (World.block_lt_of_cell? _ _ this)]
  exact this
theorem row_drop {w : World} {b off : Nat} {bs : List Nat} (h : ∀ j, j < bs.length → w.cell? ⟨b, off + j, none⟩ = some (.int .u8 (bs.getD j 0 : Nat))) (k m : Nat) : RowA w (some ⟨b, off + k, none⟩) (u8s ((bs.drop k).take m)) := by
  intro _
  refine ⟨_, _, rfl, fun j u hj => ?_⟩
  have hjl : j < ((bs.drop k).take m).length := by
    rcases Nat.lt_or_ge j ((bs.drop k).take m).length with h1 | h1
    · exact h1
    · rw [List.getElem?_eq_none (by simpa [u8s] using h1)] at hj; cases hj
  rw [u8s_getD _ _ hjl] at hj
  simp at hjl
  have := h (k + j) (by omega)
  rw [← Nat.add_assoc] at this
  rw [this, ← hj]
  have hjm : j < m := by omega
  simp [List.getD_eq_getElem?_getD, hjm]
theorem marked_any (b off c : Nat) (bs : List Nat) (w : World) (hx : ∀ x ∈ bs, x < 256) (hl : 14 ≤ bs.length) (hl2 : bs.length ≤ 9223372036854775807) (hc2 : bs.length ≤ c) (hc3 : c ≤ 9223372036854775807) (hc : ∀ j, j < bs.length → w.cell? ⟨b, off + j, none⟩ = some (.int .u8 (bs.getD j 0 : Nat))) :
    Calls Try.prog 28 #[.slice (some ⟨b, off, none⟩) bs.length c] w fun e w' => e = .returned (.bool (mkB bs)) ∧ ∃ n, w' = w.drewN n := by
  have KN := hide (number_any b (off + 12) (bs.length - 12) (c - 12) (bs.getD 12 0) (bs.getD 13 0) w (by omega) (by omega) (getD_lt bs hx 12) (getD_lt bs hx 13) (hc 12 (by omega)) (by have := hc 13 (by omega); rw [Nat.add_assoc]; exact this))
  have h1 : ((bs.length - 12 : Nat) : Int) = (bs.length : Int) - 12 := by omega
  have e1 : Hid (decide (((bs.getD 12 0 * 256 + bs.getD 13 0 : Nat) : Int) = 33024) = mkB bs) := by
    show _ = _
    have h2 : at2 bs 12 = bs.getD 12 0 * 256 + bs.getD 13 0 := rfl
    unfold mkB; rw [h2, decide_eq_decide]; omega
  have hcap : ¬ c = 12 := by omega
  clear hc hx
  generalize bs.length = n at *
  generalize bs.getD 12 0 = x at *
  generalize bs.getD 13 0 = y at *
  go_enter Try.func28, Try.ntmps28
  go_wp2_with (go_at_call 30; go_loud ((with_reducible refine (unhide KN).mono ?_); rintro e w1 ⟨rfl, k, rfl⟩))
  go_ret
  exact ⟨ret_bool (by rw [← unhide e1]; rfl), k, rfl⟩
end Go.Proofs.Ythonngnmdciheaa
