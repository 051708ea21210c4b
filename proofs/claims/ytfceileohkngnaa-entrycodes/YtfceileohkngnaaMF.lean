/- Own texts in one: NoA, NoB, No. -/
import Derived.Test.YtfceileohkngnaaME
/- Contracts: a record that is none. -/
namespace Go.Proofs.Ytfceileohkngnaa
open Go.RowKit
set_option linter.unusedVariables false
set_option maxRecDepth 4000

set_option maxHeartbeats 6000000 in
theorem readRecord_sum (b off cap L : Nat) (bs : List Int) (w : World) (hb : BysA w (some ⟨b, off, none⟩) bs) (hB : Byt bs) (hl : bs.length ≤ 10000) (h15 : 11 + L + 4 ≤ bs.length) (hcap : bs.length ≤ cap) (he : (L : Int) = lenL bs) (hW : ¬ num4 (bs.drop (11 + L)) = more 1 (bs.take (11 + L))) :
    Calls Try.prog 42 #[.slice (some ⟨b, off, none⟩) bs.length cap] w fun x w' => x = .returned (.tuple #[.agg #[.int .u8 0, .int .u32 0, .int .u32 0, .slice none 0 0], .bool false]) ∧ Below w.heap.size w w' := by
  obtain ⟨P, HP⟩ : ∃ P : Int, Hid (P = num4 (bs.drop (11 + L))) := ⟨_, rfl⟩
  obtain ⟨P2, HP2⟩ : ∃ P2 : Int, Hid (P2 = more 1 (bs.take (11 + L))) := ⟨_, rfl⟩
  have hne : ¬ P = P2 := by rw [unhide HP, unhide HP2]; exact hW
  have hne2 : (P == P2) = false := by simpa using hne
  have hne3 : (P != P2) = true := by simpa using hne
  have hbin : (binOp .neq 22 (.int .u32 P) (.int .u32 P2)) = pure (.bool true) := by rw [binOp_neq, hne3]
  have HN : Hid (∀ (W : World) (hW : Below w.heap.size w W) (n c : Nat) (hn : n = bs.length - (11 + L)), Calls Try.prog 63 #[.slice (some ⟨b, off + (11 + L), none⟩) n c] W fun x w' => x = .returned (.int .u32 P) ∧ ∃ n, w' = W.drewN n) := fun W hW n c hn => by
    rw [unhide HP]; exact number_drop (bysA_below hb hW) hB (by omega) (11 + L) h15 n c hn
  have HS : Hid (∀ (W : World) (hW : Below w.heap.size w W) (n c N : Nat) (hn : n = 11 + L) (hc : W.cell? ⟨N, 0, none⟩ = some (.slice (some ⟨b, off, none⟩) n c)), Calls Try.prog 59 #[.slice (some ⟨N, 0, none⟩) 1 1] W fun x w' => x = .returned (.int .u32 P2) ∧ w' = W) := fun W hW n c N hn hc => by
    rw [unhide HP2]
    exact sum_at (bys_take (bysA_below hb hW) (11 + L)) (byt_take hB (11 + L)) (by rw [List.length_take]; omega) n c N (by rw [List.length_take]; omega) hc
  have HS1 : Hid (∀ (X : World) (hX : Below w.heap.size w X) (N : Nat) (hN : N = X.heap.size), Calls Try.prog 59 #[.slice (some ⟨N, 0, none⟩) 1 1] (X.alloc (.cells #[.slice (some ⟨b, off, none⟩) (11 + L) cap] 23)) fun x w' => x = .returned (.int .u32 P2) ∧ w' = X.alloc (.cells #[.slice (some ⟨b, off, none⟩) (11 + L) cap] 23)) := fun X hX N hN => unhide HS _ (below_alloc hX _) _ cap _ rfl (cell_lit hN rfl)
  have HS2 : Hid (∀ (X : World) (hX : Below w.heap.size w X) (N k : Nat) (hN : N = X.heap.size), Calls Try.prog 59 #[.slice (some ⟨N, 0, none⟩) 1 1] ((X.alloc (.cells #[.slice (some ⟨b, off, none⟩) (11 + L) cap] 23)).drewN k) fun x w' => x = .returned (.int .u32 P2) ∧ w' = (X.alloc (.cells #[.slice (some ⟨b, off, none⟩) (11 + L) cap] 23)).drewN k) := fun X hX N k hN => unhide HS _ (below_drewN (below_alloc hX _) k) _ cap _ rfl (cell_litD hN rfl)
  have HL : Hid (Calls Try.prog 62 #[.slice (some ⟨b, off, none⟩) bs.length cap] (w.alloc (.cells #[.int .u8 0, .int .u32 0, .int .u32 0, .slice none 0 0] 89)) fun x w' => x = .returned (.int .i64 (L : Int)) ∧ ∃ n, w' = (w.alloc (.cells #[.int .u8 0, .int .u32 0, .int .u32 0, .slice none 0 0] 89)).drewN n) := by
    have := length_any b off cap bs _ (bysA_alloc hb (.cells #[.int .u8 0, .int .u32 0, .int .u32 0, .slice none 0 0] 89)) hB (by omega) (by omega)
    rw [he]
    exact this
  generalize bs.length = n at *
  clear hb hB hW he HP HP2
  have i0 : (0 : Int) ≤ 11 + (L : Int) := by omega
  have i1 : 11 + (L : Int) ≤ (n : Int) := by omega
  have i2 : (n : Int) ≤ (cap : Int) := by omega
  have i3 : 11 + (L : Int) + 4 ≤ (n : Int) := by omega
  have i4 : 11 + (L : Int) ≤ (cap : Int) := by omega
  have i5 : (0 : Int) ≤ 11 + (L : Int) + 4 := by omega
  have i6 : (11 : Int) ≤ 11 + (L : Int) := by omega
  have i7 : (L : Int) ≤ 10000 := by omega
  have q1 : ¬ cap = 11 + L := by omega
  have q3 : ¬ cap = 11 := by omega
  have t1 : (11 + (L : Int)).toNat = 11 + L := by omega
  have t2 : (11 + (L : Int) + 4).toNat = 11 + L + 4 := by omega
  have u1 : IntKind.i64.wrap (11 + (L : Int) + 4) = 11 + (L : Int) + 4 := by rw [IntKind.wrap_i64]; omega
  have HQ := hide (And.intro h15 hcap)
  clear h15 hcap hl
  have q2 : (cap = 11 + L + 4) = True ∨ (cap = 11 + L + 4) = False := by by_cases h : cap = 11 + L + 4 <;> simp [h]
  have HQ2 : Hid ((cap = 11 + L + 4) = True → n ≤ 11 + L + 4) := fun h => by have := of_eq_true h; have := (unhide HQ).2; omega
  go_enter Try.func42, Try.ntmps42
  clear q2 HQ2
  all_goals
    go_wp2_with (go_at_call 62; refine (unhide HL).mono ?_; rintro x w2 ⟨rfl, nd, rfl⟩)
    have hbel : Below w.heap.size w ((w.alloc (.cells #[.int .u8 0, .int .u32 0, .int .u32 0, .slice none 0 0] 89)).drewN nd) := below_drewN (below_alloc (Below.refl _ _) _) nd
    have hnew : ((w.alloc (.cells #[.int .u8 0, .int .u32 0, .int .u32 0, .slice none 0 0] 89)).drewN nd).heap[w.heap.size]? = some (.cells #[.int .u8 0, .int .u32 0, .int .u32 0, .slice none 0 0] 89 (0, 0)) := heap_alloc_last _ _
    generalize (w.alloc (.cells #[.int .u8 0, .int .u32 0, .int .u32 0, .slice none 0 0] 89)).drewN nd = w1 at *
    have HNEW := hide hnew
    clear hnew
    first
      | (go_region_with
      (first
        | (go_at_call 63; refine (unhide HN _ ?_ _ _ ?_).mono ?_; (focus (repeat (first | assumption | (with_reducible refine Below.drew ?_) | (with_reducible refine below_drewN ?_ _) | (with_reducible refine below_alloc ?_ _)))); (focus (have := (unhide HQ).1; omega)); rintro x w2 ⟨rfl, nn, rfl⟩)
        | (go_at_call 59; (with_reducible refine (unhide HS1 _ ?_ _ ?_).mono ?_); (focus (repeat (first | assumption | (with_reducible refine Below.drew ?_) | (with_reducible refine below_drewN ?_ _) | (with_reducible refine below_alloc ?_ _)))); (focus rfl); rintro x w2 ⟨rfl, rfl⟩)
        | (go_at_call 59; (with_reducible refine (unhide HS2 _ ?_ _ _ ?_).mono ?_); (focus (repeat (first | assumption | (with_reducible refine Below.drew ?_) | (with_reducible refine below_drewN ?_ _) | (with_reducible refine below_alloc ?_ _)))); (focus rfl); rintro x w2 ⟨rfl, rfl⟩)
        | (go_at_call 59; trace_state; fail)
  ))
      | fail
    all_goals
      obtain ⟨w3, hw3⟩ : ∃ w3, (w1.drewN (1 + nn)).alloc (.cells #[.slice (some ⟨b, off, none⟩) (11 + L) cap] 23) = w3 := ⟨_, rfl⟩
      obtain ⟨w3', hw3'⟩ : ∃ w3', (w1.alloc (.cells #[.slice (some ⟨b, off, none⟩) (11 + L) cap] 23)).drewN (1 + nn) = w3' := ⟨_, rfl⟩
      have hb13 : Below w1.heap.size w1 w3 := by rw [← hw3]; exact below_alloc (below_drewN (Below.refl _ _) _) _
      have hb13' : Below w1.heap.size w1 w3' := by rw [← hw3']; exact below_drewN (below_alloc (Below.refl _ _) _) _
      first | (rw [hw3]; clear hw3 hw3' hb13' w3') | (rw [hw3']; clear hw3 hw3' hb13 w3; obtain ⟨w3, hq3⟩ : ∃ w3, w3 = w3' := ⟨_, rfl⟩; subst hq3; have hb13 := hb13'; clear hb13')
      have hn3 := (hb13.block _ (lt_of_get (unhide HNEW))).trans (unhide HNEW)
      have n0 := (heap_cell hn3 0).1
      have n1 := (heap_cell hn3 1).1
      have n2 := (heap_cell hn3 2).1
      have n3 := (heap_cell hn3 3).1
      have f0 := (heap_cell hn3 0).2
      have f1 := (heap_cell hn3 1).2
      have f2 := (heap_cell hn3 2).2
      have f3 := (heap_cell hn3 3).2
      have HFI := hide (heap_set4 hn3 (.int .u8 0) (.int .u32 0) (.int .u32 0) (.slice none 0 0))
      have HBF := hide (below_set4 (below_then hbel hb13) w.heap.size (Nat.le_refl _) (.int .u8 0) (.int .u32 0) (.int .u32 0) (.slice none 0 0))
      clear hn3
      go_wp2
      exact ret_cell2 rfl rfl rfl rfl (unhide HFI) Try.underlying89 rfl Try.size89 ⟨rfl, unhide HBF⟩
end Go.Proofs.Ytfceileohkngnaa

/- Contracts: a record that is none. -/
namespace Go.Proofs.Ytfceileohkngnaa
open Go.RowKit
set_option linter.unusedVariables false
set_option maxRecDepth 4000

set_option maxHeartbeats 1000000 in
theorem readRecord_tail (b off cap L : Nat) (bs : List Int) (w : World) (hb : BysA w (some ⟨b, off, none⟩) bs) (hB : Byt bs) (hl : bs.length ≤ 10000) (h15 : 11 + L + 4 ≤ bs.length) (hcap : bs.length ≤ cap) (he : (L : Int) = lenL bs) (hW1 : num4 (bs.drop (11 + L)) = more 1 (bs.take (11 + L))) (hW2 : (bs.drop (11 + L + 4)).all (· == 0) = false) :
    Calls Try.prog 42 #[.slice (some ⟨b, off, none⟩) bs.length cap] w fun x w' => x = .returned (.tuple #[.agg #[.int .u8 0, .int .u32 0, .int .u32 0, .slice none 0 0], .bool false]) ∧ Below w.heap.size w w' := by
  obtain ⟨P, HP⟩ : ∃ P : Int, Hid (P = num4 (bs.drop (11 + L))) := ⟨_, rfl⟩
  have HN : Hid (∀ (W : World) (hW : Below w.heap.size w W) (n c : Nat) (hn : n = bs.length - (11 + L)), Calls Try.prog 63 #[.slice (some ⟨b, off + (11 + L), none⟩) n c] W fun x w' => x = .returned (.int .u32 P) ∧ ∃ n, w' = W.drewN n) := fun W hW n c hn => by
    rw [unhide HP]; exact number_drop (bysA_below hb hW) hB (by omega) (11 + L) h15 n c hn
  have HS : Hid (∀ (W : World) (hW : Below w.heap.size w W) (n c N : Nat) (hn : n = 11 + L) (hc : W.cell? ⟨N, 0, none⟩ = some (.slice (some ⟨b, off, none⟩) n c)), Calls Try.prog 59 #[.slice (some ⟨N, 0, none⟩) 1 1] W fun x w' => x = .returned (.int .u32 P) ∧ w' = W) := fun W hW n c N hn hc => by
    rw [unhide HP, hW1]
    exact sum_at (bys_take (bysA_below hb hW) (11 + L)) (byt_take hB (11 + L)) (by rw [List.length_take]; omega) n c N (by rw [List.length_take]; omega) hc
  have HS1 : Hid (∀ (X : World) (hX : Below w.heap.size w X) (N : Nat) (hN : N = X.heap.size), Calls Try.prog 59 #[.slice (some ⟨N, 0, none⟩) 1 1] (X.alloc (.cells #[.slice (some ⟨b, off, none⟩) (11 + L) cap] 23)) fun x w' => x = .returned (.int .u32 P) ∧ w' = X.alloc (.cells #[.slice (some ⟨b, off, none⟩) (11 + L) cap] 23)) := fun X hX N hN => unhide HS _ (below_alloc hX _) _ cap _ rfl (cell_lit hN rfl)
  have HS2 : Hid (∀ (X : World) (hX : Below w.heap.size w X) (N k : Nat) (hN : N = X.heap.size), Calls Try.prog 59 #[.slice (some ⟨N, 0, none⟩) 1 1] ((X.alloc (.cells #[.slice (some ⟨b, off, none⟩) (11 + L) cap] 23)).drewN k) fun x w' => x = .returned (.int .u32 P) ∧ w' = (X.alloc (.cells #[.slice (some ⟨b, off, none⟩) (11 + L) cap] 23)).drewN k) := fun X hX N k hN => unhide HS _ (below_drewN (below_alloc hX _) k) _ cap _ rfl (cell_litD hN rfl)
  have HBL : Hid (∀ (W : World) (hW : Below w.heap.size w W) (A : Option Addr) (n c : Nat) (hn : n = bs.length - (11 + L + 4)) (hA : A = some ⟨b, off + (11 + L + 4), none⟩ ∨ bs.length ≤ 11 + L + 4), Calls Try.prog 64 #[.slice A n c] W fun x w' => x = .returned (.bool false) ∧ w' = W) := fun W hW A n c hn hA => by
    have hby : BysA W A (bs.drop (11 + L + 4)) := by
      rcases hA with rfl | hA
      · exact bys_drop (bysA_below hb hW) (11 + L + 4)
      · rw [List.drop_of_length_le hA]; exact bysA_nil _ _
    have := blank_at A n c (bs.drop (11 + L + 4)) W (by rw [List.length_drop]; exact hn) hby (byt_drop hB _) (by omega)
    rw [hW2] at this
    exact this
  have HL : Hid (Calls Try.prog 62 #[.slice (some ⟨b, off, none⟩) bs.length cap] (w.alloc (.cells #[.int .u8 0, .int .u32 0, .int .u32 0, .slice none 0 0] 89)) fun x w' => x = .returned (.int .i64 (L : Int)) ∧ ∃ n, w' = (w.alloc (.cells #[.int .u8 0, .int .u32 0, .int .u32 0, .slice none 0 0] 89)).drewN n) := by
    have := length_any b off cap bs _ (bysA_alloc hb (.cells #[.int .u8 0, .int .u32 0, .int .u32 0, .slice none 0 0] 89)) hB (by omega) (by omega)
    rw [he]
    exact this
  generalize bs.length = n at *
  clear hb hB hW1 hW2 he HP
  have i0 : (0 : Int) ≤ 11 + (L : Int) := by omega
  have i1 : 11 + (L : Int) ≤ (n : Int) := by omega
  have i2 : (n : Int) ≤ (cap : Int) := by omega
  have i3 : 11 + (L : Int) + 4 ≤ (n : Int) := by omega
  have i4 : 11 + (L : Int) ≤ (cap : Int) := by omega
  have i5 : (0 : Int) ≤ 11 + (L : Int) + 4 := by omega
  have i6 : (11 : Int) ≤ 11 + (L : Int) := by omega
  have i7 : (L : Int) ≤ 10000 := by omega
  have q1 : ¬ cap = 11 + L := by omega
  have q3 : ¬ cap = 11 := by omega
  have t1 : (11 + (L : Int)).toNat = 11 + L := by omega
  have t2 : (11 + (L : Int) + 4).toNat = 11 + L + 4 := by omega
  have u1 : IntKind.i64.wrap (11 + (L : Int) + 4) = 11 + (L : Int) + 4 := by rw [IntKind.wrap_i64]; omega
  have HQ := hide (And.intro h15 hcap)
  clear h15 hcap hl
  have q2 : (cap = 11 + L + 4) = True ∨ (cap = 11 + L + 4) = False := by by_cases h : cap = 11 + L + 4 <;> simp [h]
  have HQ2 : Hid ((cap = 11 + L + 4) = True → n ≤ 11 + L + 4) := fun h => by have := of_eq_true h; have := (unhide HQ).2; omega
  go_enter Try.func42, Try.ntmps42
  rcases q2 with q2 | q2
  all_goals
    go_wp2_with (go_at_call 62; refine (unhide HL).mono ?_; rintro x w2 ⟨rfl, nd, rfl⟩)
    have hbel : Below w.heap.size w ((w.alloc (.cells #[.int .u8 0, .int .u32 0, .int .u32 0, .slice none 0 0] 89)).drewN nd) := below_drewN (below_alloc (Below.refl _ _) _) nd
    have hnew : ((w.alloc (.cells #[.int .u8 0, .int .u32 0, .int .u32 0, .slice none 0 0] 89)).drewN nd).heap[w.heap.size]? = some (.cells #[.int .u8 0, .int .u32 0, .int .u32 0, .slice none 0 0] 89 (0, 0)) := heap_alloc_last _ _
    generalize (w.alloc (.cells #[.int .u8 0, .int .u32 0, .int .u32 0, .slice none 0 0] 89)).drewN nd = w1 at *
    have HNEW := hide hnew
    clear hnew
    go_region_held3 (fun W => Below w.heap.size w W) ((repeat (first | assumption | (with_reducible refine Below.drew ?_) | (with_reducible refine below_drewN ?_ _) | (with_reducible refine below_alloc ?_ _))))
      (first
        | (go_at_call 63; refine (unhide HN _ ?_ _ _ ?_).mono ?_; (focus (repeat (first | assumption | (with_reducible refine Below.drew ?_) | (with_reducible refine below_drewN ?_ _) | (with_reducible refine below_alloc ?_ _)))); (focus (have := (unhide HQ).1; omega)); rintro x w2 ⟨rfl, nn, rfl⟩)
        | (go_at_call 59; (with_reducible refine (unhide HS1 _ ?_ _ ?_).mono ?_); (focus (repeat (first | assumption | (with_reducible refine Below.drew ?_) | (with_reducible refine below_drewN ?_ _) | (with_reducible refine below_alloc ?_ _)))); (focus rfl); rintro x w2 ⟨rfl, rfl⟩)
        | (go_at_call 59; (with_reducible refine (unhide HS2 _ ?_ _ _ ?_).mono ?_); (focus (repeat (first | assumption | (with_reducible refine Below.drew ?_) | (with_reducible refine below_drewN ?_ _) | (with_reducible refine below_alloc ?_ _)))); (focus rfl); rintro x w2 ⟨rfl, rfl⟩)
        | (go_at_call 59; trace_state; fail)
        | (go_at_call 64; refine (unhide HBL _ ?_ _ _ _ ?_ ?_).mono ?_; (focus (repeat (first | assumption | (with_reducible refine Below.drew ?_) | (with_reducible refine below_drewN ?_ _) | (with_reducible refine below_alloc ?_ _)))); (focus (have := (unhide HQ).1; omega)); (focus (first | exact .inl rfl | exact .inr (unhide HQ2 q2))); rintro x w2 ⟨rfl, rfl⟩))
    all_goals
      obtain ⟨w3, hw3⟩ : ∃ w3, (w1.drewN (1 + nn)).alloc (.cells #[.slice (some ⟨b, off, none⟩) (11 + L) cap] 23) = w3 := ⟨_, rfl⟩
      obtain ⟨w3', hw3'⟩ : ∃ w3', (w1.alloc (.cells #[.slice (some ⟨b, off, none⟩) (11 + L) cap] 23)).drewN (1 + nn) = w3' := ⟨_, rfl⟩
      have hb13 : Below w1.heap.size w1 w3 := by rw [← hw3]; exact below_alloc (below_drewN (Below.refl _ _) _) _
      have hb13' : Below w1.heap.size w1 w3' := by rw [← hw3']; exact below_drewN (below_alloc (Below.refl _ _) _) _
      first | (rw [hw3]; clear hw3 hw3' hb13' w3') | (rw [hw3']; clear hw3 hw3' hb13 w3; obtain ⟨w3, hq3⟩ : ∃ w3, w3 = w3' := ⟨_, rfl⟩; subst hq3; have hb13 := hb13'; clear hb13')
      have hn3 := (hb13.block _ (lt_of_get (unhide HNEW))).trans (unhide HNEW)
      have n0 := (heap_cell hn3 0).1
      have n1 := (heap_cell hn3 1).1
      have n2 := (heap_cell hn3 2).1
      have n3 := (heap_cell hn3 3).1
      have f0 := (heap_cell hn3 0).2
      have f1 := (heap_cell hn3 1).2
      have f2 := (heap_cell hn3 2).2
      have f3 := (heap_cell hn3 3).2
      have HFI := hide (heap_set4 hn3 (.int .u8 0) (.int .u32 0) (.int .u32 0) (.slice none 0 0))
      have HBF := hide (below_set4 (below_then hbel hb13) w.heap.size (Nat.le_refl _) (.int .u8 0) (.int .u32 0) (.int .u32 0) (.slice none 0 0))
      clear hn3
      go_wp2
      exact ret_cell2 rfl rfl rfl rfl (unhide HFI) Try.underlying89 rfl Try.size89 ⟨rfl, unhide HBF⟩
end Go.Proofs.Ytfceileohkngnaa

/- Contract: Decode, where there is no entry. -/
namespace Go.Proofs.Ytfceileohkngnaa
open Go.RowKit
set_option linter.unusedVariables false
set_option maxRecDepth 4000

set_option maxHeartbeats 1000000 in
theorem decode_ext (A : Option Addr) (S : List Sct) (cap : Nat) (w : World) (hA : ScsA w A S) (hl : S.length ≤ 1000) (hn : extN S = 0) :
    Calls Try.prog 9 #[.slice A S.length cap] w fun x w' => x = .returned (.tuple #[.agg #[.int .i64 0, .int .u32 0, .int .u32 0, .slice none 0 0], .int .i64 0, .int .i64 11]) ∧ Below w.heap.size w w' := by
  have HEX : Hid (∀ W : World, Below w.heap.size w W → Calls Try.prog 40 #[.slice A S.length cap] W fun x w' => x = .returned (.int .i64 0) ∧ ∃ k, w' = W.drewN k) := fun W hW' => by
    have := extent_any A S cap W (hA.below hW') (by omega)
    rw [hn] at this
    exact this
  generalize S.length = N at *
  clear hA hn
  have HB1 : Hid (Below w.heap.size w (w.alloc (.cells #[.int .i64 0, .int .u32 0, .int .u32 0, .slice none 0 0] 25))) := below_alloc (Below.refl _ _) _
  have HNW : Hid ((w.alloc (.cells #[.int .i64 0, .int .u32 0, .int .u32 0, .slice none 0 0] 25)).heap[w.heap.size]? = some (.cells #[.int .i64 0, .int .u32 0, .int .u32 0, .slice none 0 0] 25 (0, 0))) := heap_alloc_last _ _
  go_enter Try.func9, Try.ntmps9
  go_wp2_with (go_at_call 40; refine (unhide HEX _ (unhide HB1)).mono ?_; rintro x w2 ⟨rfl, kd, hw2⟩; have HB2 := hide (show Below w.heap.size w w2 by rw [hw2]; exact below_drewN (unhide HB1) kd); have HN2 := hide (show w2.heap[w.heap.size]? = some (.cells #[.int .i64 0, .int .u32 0, .int .u32 0, .slice none 0 0] 25 (0, 0)) by rw [hw2]; exact unhide HNW); clear hw2; have hq := unhide HN2; have n0 := (heap_cell hq 0).1; have n1 := (heap_cell hq 1).1; have n2 := (heap_cell hq 2).1; have n3 := (heap_cell hq 3).1; have f0 := (heap_cell hq 0).2; have f1 := (heap_cell hq 1).2; have f2 := (heap_cell hq 2).2; have f3 := (heap_cell hq 3).2; have HNQ := hide hq; clear hq; have HBQ := hide (unhide HB2))
  have HFI := hide (heap_set4 (unhide HNQ) (.int .i64 0) (.int .u32 0) (.int .u32 0) (.slice none 0 0))
  have HBF := hide (below_set4 (unhide HBQ) w.heap.size (Nat.le_refl _) (.int .i64 0) (.int .u32 0) (.int .u32 0) (.slice none 0 0))
  exact ret_cell3 rfl rfl rfl rfl rfl (unhide HFI) Try.underlying25 rfl Try.size25 ⟨rfl, unhide HBF⟩

theorem join_no (A : Option Addr) (S : List Sct) (n cap : Nat) (w : World) (hn : n = S.length) (hA : ScsA w A S) (h1 : 0 < S.length) (hl : S.length ≤ 1000) (hM : ¬ Marks S) :
    Calls Try.prog 41 #[.slice A n cap] w fun x w' => x = .returned (.tuple #[.slice none 0 0, .bool false]) ∧ Below w.heap.size w w' := by
  subst hn
  refine (join_any A S cap w hA h1 hl).mono ?_
  rintro x w' ⟨hb, ⟨hm, _⟩ | ⟨_, rfl⟩⟩
  · exact absurd hm hM
  · exact ⟨rfl, hb⟩
set_option maxHeartbeats 1000000 in
theorem decode_marks (A : Option Addr) (S : List Sct) (cap n : Nat) (w : World) (hA : ScsA w A S) (hl : S.length ≤ 1000) (hcap : S.length ≤ cap) (hn : extN S = n) (h0 : 0 < n) (hnS : n ≤ S.length) (hM : ¬ Marks (S.take n)) :
    Calls Try.prog 9 #[.slice A S.length cap] w fun x w' => x = .returned (.tuple #[.agg #[.int .i64 0, .int .u32 0, .int .u32 0, .slice none 0 0], .int .i64 0, .int .i64 11]) ∧ Below w.heap.size w w' := by
  have htl : (S.take n).length = n := by rw [List.length_take]; omega
  have HEX : Hid (∀ W : World, Below w.heap.size w W → Calls Try.prog 40 #[.slice A S.length cap] W fun x w' => x = .returned (.int .i64 (n : Int)) ∧ ∃ k, w' = W.drewN k) := fun W hW' => by
    have := extent_any A S cap W (hA.below hW') (by omega)
    rw [hn] at this
    exact this
  have HJ : Hid (∀ W : World, Below w.heap.size w W → Calls Try.prog 41 #[.slice A n cap] W fun x w' => x = .returned (.tuple #[.slice none 0 0, .bool false]) ∧ Below W.heap.size W w') := fun W hW' =>
    join_no A (S.take n) n cap W htl.symm ((scsA_take hA n).below hW') (by omega) (by omega) hM
  have hns : (n : Int) ≤ (S.length : Int) := by omega
  have hnc : (n : Int) ≤ (cap : Int) := by omega
  have hne : ¬ (n : Int) = 0 := by omega
  obtain ⟨b, off, rfl, _⟩ := hA.range (k := 0) (by omega)
  generalize S.length = N at *
  clear hA hM hn htl
  have HB1 : Hid (Below w.heap.size w (w.alloc (.cells #[.int .i64 0, .int .u32 0, .int .u32 0, .slice none 0 0] 25))) := below_alloc (Below.refl _ _) _
  have HNW : Hid ((w.alloc (.cells #[.int .i64 0, .int .u32 0, .int .u32 0, .slice none 0 0] 25)).heap[w.heap.size]? = some (.cells #[.int .i64 0, .int .u32 0, .int .u32 0, .slice none 0 0] 25 (0, 0))) := heap_alloc_last _ _
  go_enter Try.func9, Try.ntmps9
  go_wp2_with (first
    | (go_at_call 40; refine (unhide HEX _ (unhide HB1)).mono ?_; rintro x w2 ⟨rfl, kd, hw2⟩; have HB2 := hide (show Below w.heap.size w w2 by rw [hw2]; exact below_drewN (unhide HB1) kd); have HN2 := hide (show w2.heap[w.heap.size]? = some (.cells #[.int .i64 0, .int .u32 0, .int .u32 0, .slice none 0 0] 25 (0, 0)) by rw [hw2]; exact unhide HNW); clear hw2)
    | (go_at_call 41; refine (unhide HJ _ (unhide HB2)).mono ?_; rintro x w3 ⟨rfl, hb3⟩; have hq := (hb3.block _ (lt_of_get (unhide HN2))).trans (unhide HN2); have n0 := (heap_cell hq 0).1; have n1 := (heap_cell hq 1).1; have n2 := (heap_cell hq 2).1; have n3 := (heap_cell hq 3).1; have f0 := (heap_cell hq 0).2; have f1 := (heap_cell hq 1).2; have f2 := (heap_cell hq 2).2; have f3 := (heap_cell hq 3).2; have HNQ := hide hq; clear hq; have HBQ := hide (below_then (unhide HB2) hb3); clear hb3))
  have HFI := hide (heap_set4 (unhide HNQ) (.int .i64 0) (.int .u32 0) (.int .u32 0) (.slice none 0 0))
  have HBF := hide (below_set4 (unhide HBQ) w.heap.size (Nat.le_refl _) (.int .i64 0) (.int .u32 0) (.int .u32 0) (.slice none 0 0))
  exact ret_cell3 rfl rfl rfl rfl rfl (unhide HFI) Try.underlying25 rfl Try.size25 ⟨rfl, unhide HBF⟩

theorem readRecord_none (b cap L n : Nat) (bs : List Int) (w : World) (hn : n = bs.length) (hb : BysA w (some ⟨b, 0, none⟩) bs) (hB : Byt bs) (hl : bs.length ≤ 10000) (h15 : 11 + L + 4 ≤ bs.length) (hcap : bs.length ≤ cap) (he : (L : Int) = lenL bs) (hW : ¬ Whole bs (11 + L)) :
    Calls Try.prog 42 #[.slice (some ⟨b, 0, none⟩) n cap] w fun x w' => x = .returned (.tuple #[.agg #[.int .u8 0, .int .u32 0, .int .u32 0, .slice none 0 0], .bool false]) ∧ Below w.heap.size w w' := by
  subst hn
  by_cases h1 : num4 (bs.drop (11 + L)) = more 1 (bs.take (11 + L))
  · exact readRecord_tail b 0 cap L bs w hb hB hl h15 hcap he h1 (by
      cases h2 : (bs.drop (11 + L + 4)).all (· == 0) with
      | true => exact absurd ⟨h1, h2⟩ hW
      | false => rfl)
  · exact readRecord_sum b 0 cap L bs w hb hB hl h15 hcap he h1
set_option maxHeartbeats 1000000 in
theorem decode_sum (A : Option Addr) (S : List Sct) (cap n L : Nat) (bs : List Int) (w : World) (hA : ScsA w A S) (hl : S.length ≤ 1000) (hcap : S.length ≤ cap) (hn : extN S = n) (h0 : 0 < n) (hnS : n ≤ S.length) (hn64 : n ≤ 64) (hM : Marks (S.take n)) (hbs : joinL (S.take n) = bs)
    (h15 : 11 + L + 4 ≤ bs.length) (he : (L : Int) = lenL bs) (hW : ¬ Whole bs (11 + L)) :
    Calls Try.prog 9 #[.slice A S.length cap] w fun x w' => x = .returned (.tuple #[.agg #[.int .i64 0, .int .u32 0, .int .u32 0, .slice none 0 0], .int .i64 0, .int .i64 11]) ∧ Below w.heap.size w w' := by
  have htl : (S.take n).length = n := by rw [List.length_take]; omega
  have hbl : bs.length = 63 * n := by rw [← hbs, joinL_len, htl]
  have hBy : Byt bs := by rw [← hbs]; exact joinL_byt _
  have HEX : Hid (∀ W : World, Below w.heap.size w W → Calls Try.prog 40 #[.slice A S.length cap] W fun x w' => x = .returned (.int .i64 (n : Int)) ∧ ∃ k, w' = W.drewN k) := fun W hW' => by
    have := extent_any A S cap W (hA.below hW') (by omega)
    rw [hn] at this
    exact this
  have HJ : Hid (∀ W : World, Below w.heap.size w W → Calls Try.prog 41 #[.slice A n cap] W fun x w' => ∃ g c, x = .returned (.tuple #[.slice (some ⟨g, 0, none⟩) bs.length c, .bool true]) ∧ BysA w' (some ⟨g, 0, none⟩) bs ∧ bs.length ≤ c ∧ Below W.heap.size W w') := fun W hW' => by
    have := join_yes A (S.take n) n cap W htl.symm ((scsA_take hA n).below hW') (by omega) (by omega) hM bs.length (by rw [hbs])
    rw [hbs] at this
    exact this
  have HR : Hid (∀ (W : World) (g c : Nat), BysA W (some ⟨g, 0, none⟩) bs → bs.length ≤ c → Calls Try.prog 42 #[.slice (some ⟨g, 0, none⟩) bs.length c] W fun x w' => x = .returned (.tuple #[.agg #[.int .u8 0, .int .u32 0, .int .u32 0, .slice none 0 0], .bool false]) ∧ Below W.heap.size W w') := fun W g c hy hc =>
    readRecord_none g c L bs.length bs W rfl hy hBy (by omega) h15 hc he hW
  have hns : (n : Int) ≤ (S.length : Int) := by omega
  have hnc : (n : Int) ≤ (cap : Int) := by omega
  have hne : ¬ (n : Int) = 0 := by omega
  obtain ⟨b, off, rfl, _⟩ := hA.range (k := 0) (by omega)
  generalize bs.length = J at *
  generalize S.length = N at *
  clear hA hM hbs he hW hn htl hBy hbl h15
  have HB1 : Hid (Below w.heap.size w (w.alloc (.cells #[.int .i64 0, .int .u32 0, .int .u32 0, .slice none 0 0] 25))) := below_alloc (Below.refl _ _) _
  have HNW : Hid ((w.alloc (.cells #[.int .i64 0, .int .u32 0, .int .u32 0, .slice none 0 0] 25)).heap[w.heap.size]? = some (.cells #[.int .i64 0, .int .u32 0, .int .u32 0, .slice none 0 0] 25 (0, 0))) := heap_alloc_last _ _
  go_enter Try.func9, Try.ntmps9
  go_wp2_with (first
    | (go_at_call 40; refine (unhide HEX _ (unhide HB1)).mono ?_; rintro x w2 ⟨rfl, kd, hw2⟩; have HB2 := hide (show Below w.heap.size w w2 by rw [hw2]; exact below_drewN (unhide HB1) kd); have HN2 := hide (show w2.heap[w.heap.size]? = some (.cells #[.int .i64 0, .int .u32 0, .int .u32 0, .slice none 0 0] 25 (0, 0)) by rw [hw2]; exact unhide HNW); clear hw2)
    | (go_at_call 41; refine (unhide HJ _ (unhide HB2)).mono ?_; rintro x w3 ⟨g, c, rfl, hy, hc, hb3⟩; have HY := hide hy; have HB3 := hide hb3; clear hy hb3)
    | (go_at_call 42; refine (unhide HR _ g c (unhide HY) hc).mono ?_; rintro x w4 ⟨rfl, hb4⟩; have hb24 := below_then (below_then (unhide HB3) hb4) (below_alloc (Below.refl _ _) (.cells #[.int .u8 0, .int .u32 0, .int .u32 0, .slice none 0 0] 89)); have hq := (hb24.block _ (lt_of_get (unhide HN2))).trans (unhide HN2); have n0 := (heap_cell hq 0).1; have n1 := (heap_cell hq 1).1; have n2 := (heap_cell hq 2).1; have n3 := (heap_cell hq 3).1; have f0 := (heap_cell hq 0).2; have f1 := (heap_cell hq 1).2; have f2 := (heap_cell hq 2).2; have f3 := (heap_cell hq 3).2; have HNQ := hide hq; clear hq; have HBQ := hide (below_then (unhide HB2) hb24); clear hb4 hb24))
  have HFI := hide (heap_set4 (unhide HNQ) (.int .i64 0) (.int .u32 0) (.int .u32 0) (.slice none 0 0))
  have HBF := hide (below_set4 (unhide HBQ) w.heap.size (Nat.le_refl _) (.int .i64 0) (.int .u32 0) (.int .u32 0) (.slice none 0 0))
  exact ret_cell3 rfl rfl rfl rfl rfl (unhide HFI) Try.underlying25 rfl Try.size25 ⟨rfl, unhide HBF⟩
end Go.Proofs.Ytfceileohkngnaa
