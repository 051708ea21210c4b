/- Parse of any bytes, the program's and the reference's. -/
import Derived.Test.YthonngnmdciheaaPa2
import Derived.Test.YthonngnmdciheaaPa3
import Derived.Test.YthonngnmdciheaaPa4
import Derived.Test.YthonngnmdciheaaRp1
import Derived.Test.YthonngnmdciheaaRp2
import Derived.Test.YthonngnmdciheaaRp3
import Derived.Test.YthonngnmdciheaaRp4
import Derived.Test.YthonngnmdciheaaRp5
import Derived.Test.YthonngnmdciheaaRp6
namespace Go.Proofs.Ythonngnmdciheaa
open Go.RowKit
set_option linter.unusedVariables false
attribute [local go_sem] drewN_alloc drewN_set
def parsN (bs : List Nat) : Fr × Int := if bs.length < 14 ∨ (mkB bs = true ∧ bs.length < 18) then (fr0, 11) else if goodF (parF bs) = true then (parF bs, 0) else (fr0, 11)
theorem parO_to {e : Ending} {bs : List Nat} {W w' : World} (h : ParO e (parF bs) W w') (h1 : ¬ (bs.length < 14 ∨ (mkB bs = true ∧ bs.length < 18))) : FrO2 e (parsN bs).1 (parsN bs).2 W w' := by
  unfold parsN
  rw [if_neg h1]
  cases hg : goodF (parF bs) with
  | true => simpa using h.1 hg
  | false => simpa using h.2 hg
theorem rparse_short (A : Option Addr) (n c : Nat) (hn : n < 14) (w : World) : Calls Try.prog 12 #[.slice A n c] w fun e w' => FrO2 e fr0 11 w w' := by
  have hn' : (n : Int) < 14 := by omega
  go_enter Try.func12, Try.ntmps12
  go_wp2
  exact ret_cell2 (x := .int .i64 11) (g := w.heap.size) (c := zeroC) (t := 25) rfl rfl rfl rfl (heap_alloc_new _ _) Try.underlying25 rfl Try.size25 (frO2_zero (below_alloc (Below.refl _ _) _))
set_option maxHeartbeats 4000000 in
theorem rparse_cut (b off c : Nat) (bs : List Nat) (w : World) (hx : ∀ x ∈ bs, x < 256) (hc : ∀ W, Below w.heap.size w W → ∀ j, j < bs.length → W.cell? ⟨b, off + j, none⟩ = some (.int .u8 (bs.getD j 0 : Nat))) (hl : 14 ≤ bs.length) (hl2 : bs.length ≤ 100000) (hc2 : bs.length ≤ c) (hc3 : c ≤ 9223372036854775807) (hm : mkB bs = true) (h18 : bs.length < 18) : Calls Try.prog 12 #[.slice (some ⟨b, off, none⟩) bs.length c] w fun e w' => FrO2 e fr0 11 w w' := by
  have KD := hide (fun W (hW : Below w.heap.size w W) c' => rof_any W (some ⟨b, off, none⟩) c' (bs.take 6) (fun x h => hx x (List.mem_of_mem_take h)) (by have := row_drop (hc W hW) 0 6; simpa using this))
  have KS := hide (fun W (hW : Below w.heap.size w W) c' => rof_any W (some ⟨b, off + 6, none⟩) c' ((bs.drop 6).take 6) (fun x h => hx x (List.mem_of_mem_drop (List.mem_of_mem_take h))) (row_drop (hc W hW) 6 6))
  rw [ofN_six _ (by simp; omega), show (bs.take 6).length = 6 by simp; omega] at KD
  rw [ofN_six _ (by simp; omega), show ((bs.drop 6).take 6).length = 6 by simp; omega] at KS
  simp only at KD KS
  have hn : ¬ (bs.length : Int) < 14 := by omega
  have hn8 : (bs.length : Int) < 18 := by omega
  have hblk : b < w.heap.size := World.block_lt_of_cell? _ _ (hc w (Below.refl _ _) 12 (by omega))
  have hb1 : ¬ b = w.heap.size := by omega
  have hb2 : ¬ b = w.heap.size + 1 := by omega
  have hq1 : ¬ c = 6 := by omega
  have p12 := hc w (Below.refl _ _) 12 (by omega)
  have p13 := hc w (Below.refl _ _) 13 (by omega)
  have hy12 := getD_lt bs hx 12
  have hy13 := getD_lt bs hx 13
  have h2 : at2 bs 12 = bs.getD 12 0 * 256 + bs.getD 13 0 := rfl
  have hmm : bs.getD 12 0 = 129 ∧ bs.getD 13 0 = 0 := by have := hm; unfold mkB at this; simp at this; omega
  clear hc hx hm h2
  generalize bs.getD 12 0 = z12 at *
  generalize bs.getD 13 0 = z13 at *
  generalize fo (bs.take 6) = ds at *
  generalize fo ((bs.drop 6).take 6) = sr at *
  generalize bs.length = n at *
  have HT := hide (two_blocks w zeroC #[.int .u64 (ds : Int), .int .u64 (sr : Int), .bool false, .int .i64 0, .int .i64 0, .int .i64 0, .slice none 0 0])
  go_enter Try.func12, Try.ntmps12
  go_wp2_with (first
    | (go_at_call 31; (with_reducible refine (unhide KD _ (by (repeat (first | (with_reducible assumption) | (with_reducible exact Below.refl _ _) | (with_reducible refine Below.drew ?_) | (with_reducible refine below_drewN ?_ _) | (with_reducible refine below_alloc ?_ _) | (with_reducible refine below_set ?_ _ _ _ (by omega))))) _).mono ?_); rintro e w1 ⟨rfl, rfl⟩)
    | (go_at_call 31; (with_reducible refine (unhide KS _ (by (repeat (first | (with_reducible assumption) | (with_reducible exact Below.refl _ _) | (with_reducible refine Below.drew ?_) | (with_reducible refine below_drewN ?_ _) | (with_reducible refine below_alloc ?_ _) | (with_reducible refine below_set ?_ _ _ _ (by omega))))) _).mono ?_); rintro e w1 ⟨rfl, rfl⟩))
  exact ret_cell2 (x := .int .i64 11) (g := w.heap.size) (c := zeroC) (t := 25) rfl rfl rfl rfl (unhide HT).2.1 Try.underlying25 rfl Try.size25 (frO2_zero (unhide HT).1)
theorem parse_any (A : Option Addr) (c : Nat) (bs : List Nat) (w : World) (hx : ∀ x ∈ bs, x < 256) (hA : RowA w A (u8s bs)) (hl2 : bs.length ≤ 100000) (hc2 : bs.length ≤ c) (hc3 : c ≤ 9223372036854775807) : Calls Try.prog 11 #[.slice A bs.length c] w fun e w' => FrO2 e (parsN bs).1 (parsN bs).2 w w' := by
  by_cases h1 : bs.length < 14
  · have : parsN bs = (fr0, 11) := if_pos (.inl h1)
    rw [this]; exact parse_short A _ c h1 w
  · obtain ⟨b, off, rfl, hc⟩ := row_at hA (by omega)
    cases hm : mkB bs with
    | true =>
      by_cases h8 : bs.length < 18
      · have : parsN bs = (fr0, 11) := if_pos (.inr ⟨hm, h8⟩)
        rw [this]; exact parse_cut _ c bs w hx hA (by omega) (by omega) hc2 hc3 hm h8
      · by_cases he : c = 18
        · exact (parse_Pa2 b off c bs w hx hc hl2 hc2 hc3 hm (by omega) he).mono fun e w' h => parO_to h (by omega)
        · exact (parse_t1 b off c bs w hx hc hl2 hc2 hc3 hm (by omega) he).mono fun e w' h => parO_to h (by omega)
    | false =>
      by_cases he : c = 14
      · exact (parse_Pa4 b off c bs w hx hc hl2 hc2 hc3 hm (by omega) he).mono fun e w' h => parO_to h (by simp [hm]; omega)
      · exact (parse_Pa3 b off c bs w hx hc hl2 hc2 hc3 hm (by omega) he).mono fun e w' h => parO_to h (by simp [hm]; omega)
theorem rparse_any (A : Option Addr) (c : Nat) (bs : List Nat) (w : World) (hx : ∀ x ∈ bs, x < 256) (hA : RowA w A (u8s bs)) (hl2 : bs.length ≤ 100000) (hc2 : bs.length ≤ c) (hc3 : c ≤ 9223372036854775807) : Calls Try.prog 12 #[.slice A bs.length c] w fun e w' => FrO2 e (parsN bs).1 (parsN bs).2 w w' := by
  by_cases h1 : bs.length < 14
  · have : parsN bs = (fr0, 11) := if_pos (.inl h1)
    rw [this]; exact rparse_short A _ c h1 w
  · obtain ⟨b, off, rfl, hc⟩ := row_at hA (by omega)
    cases hm : mkB bs with
    | true =>
      by_cases h8 : bs.length < 18
      · have : parsN bs = (fr0, 11) := if_pos (.inr ⟨hm, h8⟩)
        rw [this]; exact rparse_cut b off c bs w hx hc (by omega) hl2 hc2 hc3 hm h8
      · by_cases he : c = 18
        · exact (rparse_t2 b off c bs w hx hc hl2 hc2 hc3 hm (by omega) he).mono fun e w' h => parO_to h (by omega)
        · exact (rparse_t1 b off c bs w hx hc hl2 hc2 hc3 hm (by omega) he).mono fun e w' h => parO_to h (by omega)
    | false =>
      by_cases hz : bs.getD 12 0 = 129
      · by_cases he : c = 14
        · exact (rparse_Rp6 b off c bs w hx hc hl2 hc2 hc3 hm hz (by omega) he).mono fun e w' h => parO_to h (by simp [hm]; omega)
        · exact (rparse_Rp5 b off c bs w hx hc hl2 hc2 hc3 hm hz (by omega) he).mono fun e w' h => parO_to h (by simp [hm]; omega)
      · by_cases he : c = 14
        · exact (rparse_Rp4 b off c bs w hx hc hl2 hc2 hc3 hm hz (by omega) he).mono fun e w' h => parO_to h (by simp [hm]; omega)
        · exact (rparse_Rp3 b off c bs w hx hc hl2 hc2 hc3 hm hz (by omega) he).mono fun e w' h => parO_to h (by simp [hm]; omega)
end Go.Proofs.Ythonngnmdciheaa
