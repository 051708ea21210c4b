/- Plain mathematics: what a crash leaves of an append that was cut off. -/
import Derived.Test.YtfceileohkngnaaJlaw
namespace Go.Proofs.Ytfceileohkngnaa
open Go.RowKit
set_option linter.unusedVariables false
set_option maxRecDepth 4000

/-- Writes behind X, of sectors that claim no entry of that epoch, leave X, and behind it none. -/
theorem flush_old {ep : Int} (X : List Sct) : ∀ (Q : List (Nat × Sct)) (R : List Sct), (∀ p ∈ Q, X.length ≤ p.1 ∧ Old ep [p.2]) → Old ep R → ∃ R', flushS (X ++ R) Q = X ++ R' ∧ Old ep R' ∧ R'.length = R.length
  | [], R, _, hR => ⟨R, rfl, hR, rfl⟩
  | p :: Q, R, hQ, hR => by
    obtain ⟨h1, h2⟩ := hQ p (List.mem_cons_self)
    have e : (X ++ R).set p.1 p.2 = X ++ R.set (p.1 - X.length) p.2 := List.set_append_right _ _ h1
    obtain ⟨R', r1, r2, r3⟩ := flush_old X Q (R.set (p.1 - X.length) p.2) (fun q hq => hQ q (List.mem_cons_of_mem _ hq)) (fun s hs => by
      rcases List.mem_or_eq_of_mem_set hs with h | h
      · exact hR s h
      · subst h; exact h2 _ (List.mem_singleton.2 rfl))
    refine ⟨R', ?_, r2, by rw [r3, List.length_set]⟩
    show flushS ((X ++ R).set p.1 p.2) Q = _
    rw [e, r1]
/-- All sectors of an entry but its first one claim nothing. -/
theorem later_old (ep ep' : Int) (c : Nat) (b : List Int) : Old ep ((entS ep' c b).drop 1) := by
  intro s hs h87
  obtain ⟨i, hi⟩ := List.getElem?_of_mem hs
  rw [List.getElem?_drop] at hi
  have hM := marks_cut (entL 1 ep' c b) (1 + i) s hi
  rw [h87] at hM
  unfold markI at hM
  rw [if_neg (by omega)] at hM
  omega
theorem wr_mem {at_ : Nat} {T : List Sct} {k : Nat} (hk : k ≤ T.length) {p : Nat × Sct} (h : p ∈ wrP at_ T k) : at_ ≤ p.1 ∧ p.2 ∈ T := by
  unfold wrP at h
  obtain ⟨i, hi, rfl⟩ := List.mem_map.1 h
  have hi := List.mem_range.1 hi
  refine ⟨by simp only []; omega, ?_⟩
  simp only []
  rw [List.getD_eq_getElem?_getD, List.getElem?_eq_getElem (by omega)]
  exact List.getElem_mem _
/-- Cut off ahead of its head: whatever is kept of the other sectors, nothing more stands there. -/
theorem torn_tail {ep : Int} {S X R : List Sct} (hS : S = X ++ R) (hO : Old ep R) (c : Nat) (b : List Int) (K : List Bool) :
    ∃ R', flushS S (keptP (wrP (X.length + 1) ((entS ep c b).drop 1) ((entS ep c b).drop 1).length) K) = X ++ R' ∧ Old ep R' ∧ R'.length = R.length := by
  subst hS
  refine flush_old X _ R (fun p hp => ?_) hO
  obtain ⟨h1, h2⟩ := wr_mem (Nat.le_refl _) (kept_mem _ _ _ hp)
  refine ⟨by omega, fun s hs => ?_⟩
  rw [List.mem_singleton] at hs
  subst hs
  exact later_old ep ep c b _ h2
theorem torn_all {ep : Int} {S X R : List Sct} (hS : S = X ++ R) (hO : Old ep R) (c : Nat) (b : List Int) :
    ∃ R', flushS S (wrP (X.length + 1) ((entS ep c b).drop 1) ((entS ep c b).drop 1).length) = X ++ R' ∧ Old ep R' ∧ R'.length = R.length := by
  subst hS
  refine flush_old X _ R (fun p hp => ?_) hO
  obtain ⟨h1, h2⟩ := wr_mem (Nat.le_refl _) hp
  refine ⟨by omega, fun s hs => ?_⟩
  rw [List.mem_singleton] at hs
  subst hs
  exact later_old ep ep c b _ h2
/-- Its head was kept: the entry stands as a whole. -/
theorem torn_head {ep : Int} {S X : List Sct} (c : Nat) (b : List Int) (hl : X.length + (entS ep c b).length ≤ S.length) :
    flushS (flushS S (wrP (X.length + 1) ((entS ep c b).drop 1) ((entS ep c b).drop 1).length)) [(X.length, (entS ep c b).getD 0 zeroS)] = overS S X.length (entS ep c b) := by
  have h0 : 0 < (entS ep c b).length := by rw [entS_len]; omega
  rw [← lay_over S X.length (entS ep c b) h0 hl]
  unfold layS
  congr 1
  have htl : ((entS ep c b).take 1).length = 1 := by rw [List.length_take]; omega
  rw [htl]
  unfold wrP
  simp only [List.range_one, List.map_cons, List.map_nil, Nat.add_zero]
  congr 2
  rw [List.getD_eq_getElem?_getD, List.getD_eq_getElem?_getD, List.getElem?_take, if_pos (by omega)]
theorem kept_head (p : Nat × Sct) : ∀ (K : List Bool), keptP [p] K = if K.getD 0 false = true then [p] else []
  | [] => rfl
  | b :: K => by
    show (if b then p :: keptP [] K else keptP [] K) = _
    have : keptP [] K = [] := by cases K <;> rfl
    rw [this, List.getD_cons_zero]
end Go.Proofs.Ytfceileohkngnaa
