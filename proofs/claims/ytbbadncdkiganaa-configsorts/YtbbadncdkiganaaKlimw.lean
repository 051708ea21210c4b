/- The walk of ConfigLimits. -/
import Derived.Test.YtbbadncdkiganaaKlim
import Derived.Test.YtbbadncdkiganaaKwakes
namespace Go.Proofs.Ytbbadncdkiganaa
open Go.RowKit
set_option linter.unusedVariables false
set_option maxRecDepth 4000

theorem Try.info44 : (Try.prog.info? 44).map (fun i => (i.zero, i.size, i.bytes)) = some (some (.agg #[.int .i64 0, .int .i64 0, .int .i64 0, .int .i64 0, .int .u8 0, .int .u8 0, .int .u64 0]), 7, 48) := by kernel_rfl
/-- A row of edits that the call owns. -/
theorem own_rowE {w : World} {base : Nat} {v : Value} {n : Nat} {xs : List Value} (h : w.ownsRow base 44 7 v n xs) : ∃ A cap, v = .slice A n cap ∧ RowA w A xs := by
  rcases h.2 with ⟨rfl, rfl⟩ | ⟨g, cap, cur, rfl, hb, hg, hnc, hcm, hcs, htk⟩
  · obtain rfl : xs = [] := List.length_eq_zero_iff.1 (by have := h.1; omega)
    exact ⟨none, 0, rfl, rowA_nil _ _⟩
  · exact ⟨_, cap, rfl, Blk.row (e := 44) (cap := cap * 7) ⟨cur, hg, hcs, by rw [h.1]; exact htk⟩⟩
theorem flE_app (l m : List Ed) : flE (l ++ m) = flE l ++ flE m := by unfold flE; rw [List.flatMap_append]
theorem flE_one (l : List Ed) : ∀ u ∈ flE l, u.oneCell' = true := by
  intro u hu
  unfold flE at hu
  obtain ⟨x, _, hx⟩ := List.mem_flatMap.1 hu
  simp [encE] at hx
  rcases hx with h | h | h | h | h | h | h <;> (rw [h]; rfl)
/-- An edit that the first configuration refuses. -/
theorem err_one (n : Nat) (h8 : n ≤ 8) (e : Ed) (hm : 0 ≤ e.member ∧ e.member ≤ 255) (en : Int) (he : editE (firstC n) [e] = en) (hne : en ≠ 0) (W : World) (Ap Av : Option Addr) (cp cv N : Nat) (hA : CfgA W (firstC n) Ap Av none) (hN : W.heap[N]? = some (.cells #[.int .i64 e.kind, .int .i64 e.port, .int .i64 e.n, .int .i64 e.vlan, .int .u8 e.member, .int .u8 e.tagged, .int .u64 e.mac] 44 (0, 0))) :
    Calls Try.prog 19 #[.agg #[.int .i64 32768, .int .i64 20, .int .i64 15, .slice Ap n cp, .slice Av 1 cv, .slice none 0 0], .slice (some ⟨N, 0, none⟩) 1 1] W fun x w' => x = .returned (.tuple #[.agg #[.int .i64 0, .int .i64 0, .int .i64 0, .slice none 0 0, .slice none 0 0, .slice none 0 0], .int .i64 en]) ∧ Below W.heap.size W w' := by
  have hp : (firstC n).ports.length = n := by simp [firstC]
  have h := edit_any (firstC n) [e] Ap Av none (some ⟨N, 0, none⟩) cp cv 0 1 (first_lens n h8) (first_mems n h8) W hA (rowE_of hN rfl) (maxLen_ge _ (by simp)) (by intro x hx; simp at hx; subst hx; exact hm)
  rw [hp] at h
  refine h.mono ?_
  rintro x w' ⟨hb, h⟩
  rcases h with ⟨_, h⟩ | ⟨h, _⟩
  · rw [he] at h
    exact ⟨h, hb⟩
  · rw [he] at h
    exact absurd h hne
theorem lims_mem (i : Nat) : ∀ e ∈ lims i, 0 ≤ e.member ∧ e.member ≤ 255 := by
  intro e he
  simp [lims] at he
  obtain ⟨j, _, rfl⟩ := he
  exact ⟨by simp, by simp⟩
/-- What so many VLANs come to. -/
theorem lim_call (q m : Nat) (hq : q < 8) (hm : m < 40) (W : World) (Ap Av A : Option Addr) (cp cv ce : Nat) (hA : CfgA W (firstC (q + 1)) Ap Av none) (hE : RowA W A (flE (lims m))) (en : Int) (hen : editE (firstC (q + 1)) (lims m) = en) :
    Calls Try.prog 19 #[.agg #[.int .i64 32768, .int .i64 20, .int .i64 15, .slice Ap (q + 1) cp, .slice Av 1 cv, .slice none 0 0], .slice A m ce] W fun x w' => Below W.heap.size W w' ∧ ∃ (a b c : Int) (P : Option Addr) (n1 k1 : Nat) (V : Option Addr) (n2 k2 : Nat) (S : Option Addr) (n3 k3 : Nat), x = .returned (.tuple #[.agg #[.int .i64 a, .int .i64 b, .int .i64 c, .slice P n1 k1, .slice V n2 k2, .slice S n3 k3], .int .i64 en]) ∧ (en = 0 → n2 = m + 1) := by
  have hp : (firstC (q + 1)).ports.length = q + 1 := by simp [firstC]
  have h := edit_any (firstC (q + 1)) (lims m) Ap Av none A cp cv 0 ce (first_lens _ (by omega)) (first_mems _ (by omega)) W hA hE (maxLen_ge _ (by rw [lims_len]; omega)) (lims_mem m)
  rw [hp, lims_len] at h
  refine h.mono ?_
  rintro x w' ⟨hb, h⟩
  refine ⟨hb, ?_⟩
  rcases h with ⟨h0, h⟩ | ⟨h0, vp, vv, vs, h1, h2⟩
  · rw [hen] at h h0
    exact ⟨_, _, _, _, _, _, _, _, _, _, _, _, h, fun e => absurd e h0⟩
  · obtain ⟨Ap', Av', As', cp', cv', cs', rfl, rfl, rfl, h3⟩ := h2.open
    rw [hen] at h0
    subst h0
    refine ⟨_, _, _, _, _, _, _, _, _, _, _, _, h1, fun _ => ?_⟩
    rcases Nat.lt_or_ge m 16 with h | h
    · exact (lim_a ⟨q, hq⟩ ⟨m, h⟩).2
    · rcases Nat.lt_or_ge m 33 with h5 | h5
      · have := lim_b ⟨q, hq⟩ ⟨m - 16, by omega⟩
        simp only [show m - 16 + 16 = m from by omega] at this
        rw [hen] at this
        cases this
      · have := lim_c ⟨q, hq⟩ ⟨m - 33, by omega⟩
        simp only [show m - 33 + 33 = m from by omega] at this
        rw [hen] at this
        cases this
end Go.Proofs.Ytbbadncdkiganaa
