/- JournalTorn: the cut one's writes. -/
import Derived.Test.YtfceileohkngnaaTstp
namespace Go.Proofs.Ytfceileohkngnaa
open Go.RowKit
set_option linter.unusedVariables false
set_option maxRecDepth 4000

/-- The cut one's sectors, the program's disk with its pending writes, the reference's journal, whose end is read. -/
structure CutAt (w : World) (B g gs : Nat) (S : List Sct) (P : List (Nat × Sct)) (p q en a : Nat) (T : List Sct) : Prop where
  dsk : Dsk 102 120 w B g gs S P
  rj : ∃ Al n cl, Rj w p q 0 140 2 Al n cl en
  scs : ScsA w (some ⟨a, 0, none⟩) T
  blk : ∃ cur, w.heap[a]? = some (.cells cur 75 (0, 0))
  ne : a ≠ gs
theorem CutAt.turned {w w' : World} {B g gs : Nat} {S S' : List Sct} {P P' : List (Nat × Sct)} {p q en a : Nat} {T : List Sct} (h : CutAt w B g gs S P p q en a T) (hd : Dsk 102 120 w' B g gs S' P') (t : Turned 120 B g gs w w') : CutAt w' B g gs S' P' p q en a T := by
  obtain ⟨Al, n, cl, hj⟩ := h.rj
  obtain ⟨cur, hc⟩ := h.blk
  obtain ⟨h1, h2⟩ := scs_beside h.dsk hc h.ne h.scs t
  exact ⟨hd, ⟨Al, n, cl, hj.beside h.dsk t⟩, h1, ⟨cur, h2⟩, h.ne⟩
theorem CutAt.below {w w' : World} {B g gs : Nat} {S : List Sct} {P : List (Nat × Sct)} {p q en a : Nat} {T : List Sct} (h : CutAt w B g gs S P p q en a T) (hb : Below w.heap.size w w') : CutAt w' B g gs S P p q en a T := h.turned (h.dsk.below hb) (.of_below hb)
theorem sec_step {W : World} {b2 q qs p : Nat} {L : List (List Int)} {B g gs : Nat} {S : List Sct} (h : RefAt W b2 q qs p 2 L B g gs S) (hL : L.length ≤ 18) (hLb : ∀ b ∈ L, b.length ≤ 400) {A : Option Addr} {b : List Int} (c : Nat) (hA : BysA W A b) (hB : Byt b) (hl : b.length ≤ 400) {w1 : World} (hb : Below w1.heap.size w1 W) :
    Calls Try.prog 34 #[.pointer (some ⟨p, 0, none⟩), .slice A b.length c] W fun e w' => ∃ a c T, e = .returned (.tuple #[.slice (some ⟨a, 0, none⟩) T.length c, .int .i64 0]) ∧ T = entS 2 L.length b ∧ CutAt w' B g gs S [] p q (entsS 2 0 L).length a T ∧ Below w1.heap.size w1 w' := by
  obtain ⟨S2, Al, cl, hs, h1, h2, h3, h4, h5⟩ := h
  have hfew := ents_few 2 L 0 hLb
  refine (rsectors_ok h3 (by omega) (by omega) (by omega) (by omega) A b c hA hB (by omega) (by omega)).mono ?_
  rintro e w' ⟨a, c', rfl, ho, hbb⟩
  obtain ⟨hq1, cur, hq2⟩ := own_block ho (g := a) rfl
  obtain ⟨A', c2, e', hsc, hcc⟩ := own_scs ho
  cases e'
  have hlt := h5.lt
  exact ⟨a, c', _, rfl, rfl, ⟨h5.below hbb, ⟨Al, L.length, cl, h3.below hbb⟩, hsc, ⟨cur, hq2⟩, by omega⟩, below_then hb hbb⟩
theorem CutAt.load {w : World} {B g gs : Nat} {S : List Sct} {P : List (Nat × Sct)} {p q en a : Nat} {T : List Sct} (h : CutAt w B g gs S P p q en a T) {k : Nat} (hk : k < T.length) : w.rangeAt a (k * 64) (bytes (T.getD k zeroS)) := by
  obtain ⟨b', off', e', hr⟩ := h.scs.range (k := k) hk
  cases e'
  have := hr k _ (getD_some' T k hk)
  rwa [Nat.zero_add] at this
theorem wr_step {wr : World} {B g gs : Nat} {S : List Sct} {p q en a : Nat} {T : List Sct} {k : Nat} (h : CutAt wr B g gs S (wrP (en + 1) (T.drop 1) (k - 1)) p q en a T) (h1 : 1 ≤ k) (hk : k < T.length) (hen : en + T.length ≤ S.length) (hT : T.length ≤ 100) {w1 : World} (hbw : Below w1.heap.size w1 wr) (hBw : w1.heap.size = B) (W : World) (hW : Below wr.heap.size wr W) :
    Calls Try.prog 35 #[.pointer (some ⟨g, 0, none⟩), .int .i64 ((en : Int) + (k : Int)), .agg (bytes (T.getD k zeroS)).toArray] W fun e w' => e = .returned (.int .i64 0) ∧ CutAt w' B g gs S (wrP (en + 1) (T.drop 1) k) p q en a T ∧ Below w1.heap.size w1 w' := by
  subst hBw
  have hx := write_yes W (h.below hW).dsk (en + k) (by omega) (T.getD k zeroS) (by rw [wrP_len]; omega)
  rw [show ((en + k : Nat) : Int) = (en : Int) + (k : Int) by omega] at hx
  refine hx.mono ?_
  rintro e w' ⟨rfl, hd, ht⟩
  have hs := wrP_succ (en + 1) (T.drop 1) (k - 1)
  rw [show k - 1 + 1 = k by omega, show en + 1 + (k - 1) = en + k by omega, show (T.drop 1).getD (k - 1) zeroS = T.getD k zeroS by rw [List.getD_eq_getElem?_getD, List.getElem?_drop, show 1 + (k - 1) = k by omega, List.getD_eq_getElem?_getD]] at hs
  rw [← hs] at hd
  have hlt := hd.lt
  refine ⟨rfl, (h.below hW).turned hd ht, (below_then hbw hW).trans (ht.below ?_ hlt.2.2.1 hlt.2.2.2)⟩
  exact Nat.le_trans hbw.size hW.size
theorem flush_step {wr : World} {B g gs : Nat} {S : List Sct} {P : List (Nat × Sct)} {p q en a : Nat} {T : List Sct} (h : CutAt wr B g gs S P p q en a T) (hP : P.length ≤ 100) {w1 : World} (hbw : Below w1.heap.size w1 wr) (hBw : w1.heap.size = B) :
    Calls Try.prog 36 #[.pointer (some ⟨g, 0, none⟩)] wr fun e w' => e = .returned (.int .i64 0) ∧ CutAt w' B g gs (flushS S P) [] p q en a T ∧ Below w1.heap.size w1 w' := by
  subst hBw
  refine (flush_any wr h.dsk (by omega)).mono ?_
  rintro e w' ⟨rfl, hd, ht⟩
  have hlt := hd.lt
  exact ⟨rfl, h.turned hd ht, hbw.trans (ht.below hbw.size hlt.2.2.1 hlt.2.2.2)⟩
theorem head_step {wr : World} {B g gs : Nat} {S : List Sct} {p q en a : Nat} {T : List Sct} (h : CutAt wr B g gs S [] p q en a T) (hen : en < S.length) {w1 : World} (hbw : Below w1.heap.size w1 wr) (hBw : w1.heap.size = B) (W : World) (hW : Below wr.heap.size wr W) :
    Calls Try.prog 35 #[.pointer (some ⟨g, 0, none⟩), .int .i64 en, .agg (bytes (T.getD 0 zeroS)).toArray] W fun e w' => e = .returned (.int .i64 0) ∧ Dsk 102 120 w' B g gs S [(en, T.getD 0 zeroS)] ∧ Below w1.heap.size w1 w' := by
  subst hBw
  refine (write_yes W (h.below hW).dsk en hen (T.getD 0 zeroS) (by simp)).mono ?_
  rintro e w' ⟨rfl, hd, ht⟩
  have hlt := hd.lt
  exact ⟨rfl, hd, (below_then hbw hW).trans (ht.below (Nat.le_trans hbw.size hW.size) hlt.2.2.1 hlt.2.2.2)⟩
/-- What the crash leaves. -/
def Fell (S' : List Sct) (P : List (Nat × Sct)) (keep : List Bool) (N : List (List Int)) : Prop := ∃ R3, (flushS S' (keptP P keep)).drop 0 = entsS 2 0 N ++ R3 ∧ Old 2 R3 ∧ (flushS S' (keptP P keep)).length = 140
theorem fell_tail {S R : List Sct} {L : List (List Int)} (h : S.drop 0 = entsS 2 0 L ++ R) (hS : S.length = 140) (hO : Old 2 R) (b : List Int) (keep : List Bool) :
    Fell S (wrP ((entsS 2 0 L).length + 1) ((entS 2 L.length b).drop 1) ((entS 2 L.length b).length - 1)) keep L := by
  rw [List.drop_zero] at h
  obtain ⟨R', e, ho, hl⟩ := torn_tail h hO L.length b keep
  rw [List.length_drop] at e
  refine ⟨R', e, ho, ?_⟩
  rw [e, List.length_append, hl, ← List.length_append, ← h, hS]
theorem fell_head {S R : List Sct} {L : List (List Int)} (h : S.drop 0 = entsS 2 0 L ++ R) (hS : S.length = 140) (hO : Old 2 R) (b : List Int) (keep : List Bool) (hfit : (entsS 2 0 L).length + (entS 2 L.length b).length ≤ 140) :
    Fell (flushS S (wrP ((entsS 2 0 L).length + 1) ((entS 2 L.length b).drop 1) ((entS 2 L.length b).length - 1))) [((entsS 2 0 L).length, (entS 2 L.length b).getD 0 zeroS)] keep (if keep.getD 0 false = true then L ++ [b] else L) := by
  unfold Fell
  rw [kept_head]
  have h' := h
  rw [List.drop_zero] at h'
  by_cases hk : keep.getD 0 false = true
  · rw [if_pos hk, if_pos hk]
    have e := torn_head (ep := 2) (S := S) (X := entsS 2 0 L) L.length b (by rw [hS]; exact hfit)
    rw [List.length_drop] at e
    rw [e]
    refine ⟨_, hold_append h b (Nat.zero_add _).symm (by rw [hS]; exact hfit), hO.drop _, ?_⟩
    rw [over_len _ _ _ (by rw [hS]; exact hfit), hS]
  · rw [if_neg hk, if_neg hk]
    obtain ⟨R', e, ho, hl⟩ := torn_all h' hO L.length b
    rw [List.length_drop] at e
    show ∃ R3, (flushS S _).drop 0 = _ ∧ _ ∧ (flushS S _).length = 140
    refine ⟨R', e, ho, ?_⟩
    rw [e, List.length_append, hl, ← List.length_append, ← h', hS]
end Go.Proofs.Ytfceileohkngnaa
