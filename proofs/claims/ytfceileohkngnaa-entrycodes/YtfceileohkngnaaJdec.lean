/- Decode of any sectors. -/
import Derived.Test.YtfceileohkngnaaMF
import Derived.Test.YtfceileohkngnaaME
import Derived.Test.YtfceileohkngnaaMG
namespace Go.Proofs.Ytfceileohkngnaa
open Go.RowKit
set_option linter.unusedVariables false
set_option maxRecDepth 4000

/-- What an entry says: its kind, epoch, sequence, bytes, and how many sectors it has. -/
structure Ent where
  k : Int
  e : Int
  s : Int
  b : List Int
  n : Nat

/-- The length that the first of some sectors tells. -/
def lenN (S : List Sct) : Nat := (lenL (joinL S)).toNat
def marksB (S : List Sct) : Bool := (List.range S.length).all fun i => (S.getD i zeroS).1.getD 0 0 == markI i
theorem marksB_iff (S : List Sct) : marksB S = true ↔ Marks S := by
  unfold marksB Marks
  rw [List.all_eq_true]
  refine ⟨fun h i s hs => ?_, fun h i hi => ?_⟩
  · have hi : i < S.length := (List.getElem?_eq_some_iff.1 hs).1
    have := h i (List.mem_range.2 hi)
    have e : S.getD i zeroS = s := by rw [List.getD_eq_getElem?_getD, hs]; rfl
    rw [e] at this
    exact of_decide_eq_true this
  · have hi := List.mem_range.1 hi
    have := h i (S.getD i zeroS) (by rw [List.getD_eq_getElem?_getD, List.getElem?_eq_getElem hi]; rfl)
    rw [this]
    exact beq_self_eq_true _
def wholeB (bs : List Int) (e : Nat) : Bool := num4 (bs.drop e) == more 1 (bs.take e) && (bs.drop (e + 4)).all (· == 0)
theorem wholeB_iff (bs : List Int) (e : Nat) : wholeB bs e = true ↔ Whole bs e := by
  unfold wholeB Whole
  rw [Bool.and_eq_true, beq_iff_eq]
/-- The entry that some sectors begin with. -/
def decS (S : List Sct) : Option Ent :=
  if extN S = 0 then none
  else if marksB (S.take (extN S)) = true ∧ wholeB (joinL (S.take (extN S))) (11 + lenN (S.take (extN S))) = true then
    some ⟨(joinL (S.take (extN S))).getD 0 0, num4 ((joinL (S.take (extN S))).drop 1), num4 ((joinL (S.take (extN S))).drop 5), ((joinL (S.take (extN S))).drop 11).take (lenN (S.take (extN S))), extN S⟩
  else none

theorem extN_le (S : List Sct) : extN S ≤ S.length ∧ extN S ≤ 64 := by
  cases S with
  | nil => exact ⟨Nat.le_refl _, Nat.zero_le _⟩
  | cons s r =>
    have := needN_le s
    show (if r.length + 1 < needN s then 0 else needN s) ≤ _ ∧ (if r.length + 1 < needN s then 0 else needN s) ≤ _
    split
    · exact ⟨Nat.zero_le _, Nat.zero_le _⟩
    · simp only [List.length_cons]; exact ⟨by omega, this⟩

theorem ext_lenN (S : List Sct) (h : extN S ≠ 0) : 15 + lenN (S.take (extN S)) ≤ 63 * extN S ∧ lenN (S.take (extN S)) ≤ 4000 ∧ lenL (joinL (S.take (extN S))) = (lenN (S.take (extN S)) : Int) := by
  cases S with
  | nil => exact absurd rfl h
  | cons s r =>
    have hn : extN (s :: r) = needN s := by
      show (if r.length + 1 < needN s then 0 else needN s) = _
      by_cases hc : r.length + 1 < needN s
      · have h' : extN (s :: r) = 0 := by show (if r.length + 1 < needN s then 0 else needN s) = _; rw [if_pos hc]
        exact absurd h' h
      · rw [if_neg hc]
    obtain ⟨m, hm⟩ : ∃ m, extN (s :: r) = m + 1 := ⟨extN (s :: r) - 1, by omega⟩
    have hj : lenL (joinL ((s :: r).take (extN (s :: r)))) = lenS s := by
      rw [hm, List.take_succ_cons]
      have e9 := joinL_getD (s :: r.take m) 0 9 (by simp) (by omega)
      have e10 := joinL_getD (s :: r.take m) 0 10 (by simp) (by omega)
      simp only [Nat.mul_zero, Nat.zero_add, List.getD_cons_zero] at e9 e10
      unfold lenL lenS
      rw [e9, e10]
    have hl := lenS_lim s
    have hN : (lenN ((s :: r).take (extN (s :: r))) : Int) = lenS s := by unfold lenN; rw [hj]; omega
    have hi := needN_is s
    rw [← hn] at hi
    unfold needI at hi
    split at hi
    · omega
    · exact ⟨by omega, by omega, by rw [hj, hN]⟩

/-- What an entry that was read says lies in its bounds. -/
theorem decS_some {S : List Sct} {x : Ent} (h : decS S = some x) : 0 < x.n ∧ x.n ≤ S.length ∧ x.n ≤ 64 ∧ (0 ≤ x.k ∧ x.k ≤ 255) ∧ (0 ≤ x.e ∧ x.e ≤ 4294967295) ∧ (0 ≤ x.s ∧ x.s ≤ 4294967295) ∧ Byt x.b ∧ x.b.length ≤ 4000 := by
  unfold decS at h
  split at h
  · cases h
  · rename_i h0
    split at h
    · cases h
      have he := extN_le S
      have hl := ext_lenN S h0
      have hB := joinL_byt (S.take (extN S))
      refine ⟨Nat.pos_of_ne_zero h0, he.1, he.2, hB 0, num4_lim (byt_drop hB _), num4_lim (byt_drop hB _), byt_take (byt_drop hB _) _, ?_⟩
      rw [List.length_take]; omega
    · cases h

theorem decode_none (A : Option Addr) (S : List Sct) (cap N : Nat) (w : World) (hN : N = S.length) (hA : ScsA w A S) (hl : S.length ≤ 1000) (hcap : S.length ≤ cap) (h : decS S = none) :
    Calls Try.prog 9 #[.slice A N cap] w fun x w' => x = .returned (.tuple #[.agg #[.int .i64 0, .int .u32 0, .int .u32 0, .slice none 0 0], .int .i64 0, .int .i64 11]) ∧ Below w.heap.size w w' := by
  subst hN
  unfold decS at h
  split at h
  · rename_i h0
    exact decode_ext A S cap w hA hl h0
  · rename_i h0
    have he := extN_le S
    have hL := ext_lenN S h0
    have htl : (S.take (extN S)).length = extN S := by rw [List.length_take]; omega
    split at h
    · cases h
    · rename_i hno
      by_cases hM : Marks (S.take (extN S))
      · exact decode_sum A S cap (extN S) (lenN (S.take (extN S))) _ w hA hl hcap rfl (by omega) he.1 he.2 hM rfl (by rw [joinL_len, htl]; omega) hL.2.2.symm (fun hW => hno ⟨(marksB_iff _).2 hM, (wholeB_iff _ _).2 hW⟩)
      · exact decode_marks A S cap (extN S) w hA hl hcap rfl (by omega) he.1 hM

theorem decode_some (A : Option Addr) (S : List Sct) (cap N : Nat) (w : World) (hN : N = S.length) (hA : ScsA w A S) (hl : S.length ≤ 1000) (hcap : S.length ≤ cap) (x : Ent) (h : decS S = some x) :
    Calls Try.prog 9 #[.slice A N cap] w fun y w' => ∃ B c, y = .returned (.tuple #[.agg #[.int .i64 x.k, .int .u32 x.e, .int .u32 x.s, .slice B x.b.length c], .int .i64 x.n, .int .i64 0]) ∧ w'.ownsRow w.heap.size 5 1 (.slice B x.b.length c) x.b.length (x.b.map (Value.int .u8)) ∧ Below w.heap.size w w' := by
  subst hN
  unfold decS at h
  split at h
  · cases h
  · rename_i h0
    have he := extN_le S
    have hL := ext_lenN S h0
    have htl : (S.take (extN S)).length = extN S := by rw [List.length_take]; omega
    split at h
    · rename_i hyes
      cases h
      have hbl : (((joinL (S.take (extN S))).drop 11).take (lenN (S.take (extN S)))).length = lenN (S.take (extN S)) := by
        rw [List.length_take, List.length_drop, joinL_len, htl]; omega
      have := decode_yes A S cap (extN S) (lenN (S.take (extN S))) _ w hA hl hcap rfl (by omega) he.1 he.2 ((marksB_iff _).1 hyes.1) rfl (by rw [joinL_len, htl]; omega) hL.2.2.symm ((wholeB_iff _ _).1 hyes.2)
      rw [hbl]
      exact this
    · cases h

/-- The entry of an entry's sectors. -/
theorem decS_ent (k e s : Int) (hk : 0 ≤ k ∧ k ≤ 255) (he : 0 ≤ e ∧ e ≤ 4294967295) (hs : 0 ≤ s ∧ s ≤ 4294967295) (b : List Int) (hl : b.length ≤ 4000) (hB : Byt b) (rest : List Sct) :
    decS (cutS (entL k e s b) ++ rest) = some ⟨k, e, s, b, (cutS (entL k e s b)).length⟩ := by
  have hE : Byt (entL k e s b) := entL_byt hk hB
  have hp := pieces_ent k e s b
  have hcl := cutS_len (entL k e s b)
  have hx : extN (cutS (entL k e s b) ++ rest) = (cutS (entL k e s b)).length := by rw [ext_cut k e s b hk hB hl, hcl]
  have ht : (cutS (entL k e s b) ++ rest).take (cutS (entL k e s b)).length = cutS (entL k e s b) := List.take_left' rfl
  have hj := join_cut (entL k e s b) hE
  have hL : lenN (cutS (entL k e s b)) = b.length := by
    unfold lenN
    rw [hj]
    unfold padL
    rw [ent_lenL]; omega
  unfold decS
  rw [hx, if_neg (by omega), ht, hL, hj, if_pos ⟨(marksB_iff _).2 (marks_cut _), (wholeB_iff _ _).2 (ent_whole _)⟩]
  unfold padL
  rw [ent_0, ent_1 he, ent_5 hs, ent_body]
end Go.Proofs.Ytfceileohkngnaa
