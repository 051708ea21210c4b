/- Plain mathematics: an entry that was read is the one that was written. -/
import Derived.Test.YtfceileohkngnaaJdec
namespace Go.Proofs.Ytfceileohkngnaa
open Go.RowKit
set_option linter.unusedVariables false
set_option maxRecDepth 4000

theorem four_num4 {l : List Int} (h : Byt l) (hl : 4 ≤ l.length) : four (num4 l) = l.take 4 := by
  match l, hl with
  | a :: b :: c :: d :: r, _ =>
    have h0 := h 0
    have h1 := h 1
    have h2 := h 2
    have h3 := h 3
    simp only [List.getD_cons_zero, List.getD_cons_succ] at h0 h1 h2 h3
    unfold num4 four
    simp only [List.getD_cons_zero, List.getD_cons_succ, List.take_succ_cons, List.take_zero, List.cons.injEq, and_true]
    omega
theorem head_bytes {bs : List Int} (hB : Byt bs) (L : Nat) (hl : 11 + L ≤ bs.length) (he : (L : Int) = lenL bs) : headL (bs.getD 0 0) (num4 (bs.drop 1)) (num4 (bs.drop 5)) ((bs.drop 11).take L) = bs.take (11 + L) := by
  have h9 := hB 9
  have h10 := hB 10
  have hd1 : four (num4 (bs.drop 1)) = (bs.drop 1).take 4 := four_num4 (byt_drop hB 1) (by rw [List.length_drop]; omega)
  have hd5 : four (num4 (bs.drop 5)) = (bs.drop 5).take 4 := four_num4 (byt_drop hB 5) (by rw [List.length_drop]; omega)
  have hbl : ((bs.drop 11).take L).length = L := by rw [List.length_take, List.length_drop]; omega
  unfold headL leadL
  rw [hd1, hd5, hbl]
  unfold lenL at he
  refine getD_ext (by simp only [List.length_append, List.length_cons, List.length_nil, List.length_take, List.length_drop]; omega) (fun j hj => ?_)
  have hl' : 11 ≤ bs.length := by omega
  clear hl hd1 hd5 hbl hj hB
  match bs, hl' with
  | b0 :: b1 :: b2 :: b3 :: b4 :: b5 :: b6 :: b7 :: b8 :: b9 :: b10 :: r, _ =>
    simp only [List.getD_cons_zero, List.getD_cons_succ] at he h9 h10
    have e1 : (L : Int) / 256 % 256 = b9 := by omega
    have e2 : (L : Int) % 256 = b10 := by omega
    simp only [List.getD_cons_zero, List.drop_succ_cons, List.drop_zero, List.take_succ_cons, List.take_zero, e1, e2, List.cons_append, List.nil_append, Nat.add_comm 11 L]
theorem getD_some' (S : List Sct) (i : Nat) (h : i < S.length) : S[i]? = some (S.getD i zeroS) := by rw [List.getD_eq_getElem?_getD, List.getElem?_eq_getElem h]; rfl
theorem zeros_all {l : List Int} (h : l.all (· == 0) = true) : l = List.replicate l.length 0 := by
  refine List.eq_replicate_iff.2 ⟨rfl, fun x hx => ?_⟩
  have := List.all_eq_true.1 h x hx
  exact of_decide_eq_true this
/-- What was read is what is written of it. -/
theorem dec_cut {S : List Sct} {x : Ent} (h : decS S = some x) : S.take x.n = cutS (entL x.k x.e x.s x.b) := by
  unfold decS at h
  split at h
  · cases h
  · rename_i h0
    have he := extN_le S
    have hL := ext_lenN S h0
    split at h
    · rename_i hy
      have hM := (marksB_iff _).1 hy.1
      have hW := (wholeB_iff _ _).1 hy.2
      cases h
      have htl : (S.take (extN S)).length = extN S := by rw [List.length_take]; omega
      have hB := joinL_byt (S.take (extN S))
      have hjl : (joinL (S.take (extN S))).length = 63 * extN S := by rw [joinL_len, htl]
      generalize hbs : joinL (S.take (extN S)) = bs at *
      generalize hLL : lenN (S.take (extN S)) = L at *
      have hh := head_bytes hB L (by omega) hL.2.2.symm
      obtain ⟨w1, w2⟩ := hW
      have hb1 : ((bs.drop 11).take L).length = L := by rw [List.length_take, List.length_drop]; omega
      have hsum : four (more 1 (headL (bs.getD 0 0) (num4 (bs.drop 1)) (num4 (bs.drop 5)) ((bs.drop 11).take L))) = (bs.drop (11 + L)).take 4 := by
        rw [hh, ← w1]
        exact four_num4 (byt_drop hB _) (by rw [List.length_drop]; omega)
      have hent : entL (bs.getD 0 0) (num4 (bs.drop 1)) (num4 (bs.drop 5)) ((bs.drop 11).take L) = bs.take (15 + L) := by
        unfold entL
        rw [hsum, hh, show 15 + L = (11 + L) + 4 by omega]
        exact (List.take_add).symm
      have hel := entL_len (bs.getD 0 0) (num4 (bs.drop 1)) (num4 (bs.drop 5)) ((bs.drop 11).take L)
      have hpc := pieces_ent (bs.getD 0 0) (num4 (bs.drop 1)) (num4 (bs.drop 5)) ((bs.drop 11).take L)
      rw [hb1] at hel hpc
      have hkb := hB 0
      have hn : extN S = (L + 77) / 63 := by
        cases S with
        | nil => exact absurd rfl h0
        | cons s r =>
          have hx : extN (s :: r) = needN s := by
            by_cases hc : r.length + 1 < needN s
            · have h' : extN (s :: r) = 0 := by show (if r.length + 1 < needN s then 0 else needN s) = _; rw [if_pos hc]
              exact absurd h' h0
            · show (if r.length + 1 < needN s then 0 else needN s) = _
              rw [if_neg hc]
          obtain ⟨m, hm⟩ : ∃ m, extN (s :: r) = m + 1 := ⟨extN (s :: r) - 1, by omega⟩
          have hls : lenS s = (L : Int) := by
            have hj9 := joinL_getD (s :: r.take m) 0 9 (by simp) (by omega)
            have hj10 := joinL_getD (s :: r.take m) 0 10 (by simp) (by omega)
            simp only [Nat.mul_zero, Nat.zero_add, List.getD_cons_zero] at hj9 hj10
            rw [hm, List.take_succ_cons] at hbs
            rw [hbs] at hj9 hj10
            have h2 := hL.2.2
            unfold lenL at h2
            unfold lenS
            rw [← hj9, ← hj10]
            exact h2
          have hi := needN_is s
          rw [hls] at hi
          unfold needI at hi
          rw [if_neg (by omega)] at hi
          rw [hx]
          omega
      have hpad : padL (bs.take (15 + L)) = bs := by
        have hz := zeros_all w2
        have hlen : (bs.drop (11 + L + 4)).length = bs.length - (15 + L) := by rw [List.length_drop]; omega
        unfold padL
        have htk : (bs.take (15 + L)).length = 15 + L := by rw [List.length_take]; omega
        have hpcs : pieces (bs.take (15 + L)).length = extN S := by rw [htk]; unfold pieces; omega
        rw [hpcs, htk]
        conv => rhs; rw [← List.take_append_drop (15 + L) bs]
        rw [show 11 + L + 4 = 15 + L by omega] at hz hlen
        rw [hz, hlen, hjl]
      have hEB : Byt (bs.take (15 + L)) := byt_take hB _
      have hj2 := join_cut (bs.take (15 + L)) hEB
      rw [hpad] at hj2
      have hcl := cutS_len (bs.take (15 + L))
      have hpp : pieces (bs.take (15 + L)).length = extN S := by rw [List.length_take, Nat.min_eq_left (by omega)]; unfold pieces; omega
      rw [hpp] at hcl
      show S.take (extN S) = cutS (entL (bs.getD 0 0) (num4 (bs.drop 1)) (num4 (bs.drop 5)) ((bs.drop 11).take L))
      rw [hent]
      refine List.ext_getElem? (fun i => ?_)
      by_cases hi : i < extN S
      · have m1 := hM i _ (getD_some' (S.take (extN S)) i (by omega))
        have m2 := marks_cut (bs.take (15 + L)) i _ (getD_some' (cutS (bs.take (15 + L))) i (by omega))
        rw [getD_some' (S.take (extN S)) i (by omega), getD_some' (cutS (bs.take (15 + L))) i (by omega)]
        congr 1
        refine sct_ext (fun j hj => ?_)
        cases j with
        | zero => rw [m1, m2]
        | succ j =>
          have a1 := joinL_getD (S.take (extN S)) i j (by omega) (by omega)
          have a2 := joinL_getD (cutS (bs.take (15 + L))) i j (by omega) (by omega)
          rw [← a1, ← a2, hbs, hj2]
      · rw [List.getElem?_eq_none (by omega), List.getElem?_eq_none (by omega)]
    · cases h
end Go.Proofs.Ytfceileohkngnaa
