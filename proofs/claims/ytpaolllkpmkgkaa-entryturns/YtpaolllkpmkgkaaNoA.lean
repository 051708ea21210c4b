/- Contracts: a record that is none. -/
import Derived.Test.YtpaolllkpmkgkaaDec6
namespace Go.Proofs.Ytpaolllkpmkgkaa
open Go.RowKit
set_option linter.unusedVariables false
set_option maxRecDepth 4000

set_option maxHeartbeats 6000000 in
theorem readRecord_sum (b off cap L : Nat) (bs : List Int) (w : World) (hb : BysA w (some ⟨b, off, none⟩) bs) (hB : Byt bs) (hl : bs.length ≤ 10000) (h15 : 11 + L + 4 ≤ bs.length) (hcap : bs.length ≤ cap) (he : (L : Int) = lenL bs) (hW : ¬ num4 (bs.drop (11 + L)) = more 1 (bs.take (11 + L))) :
    Calls Try.prog 46 #[.slice (some ⟨b, off, none⟩) bs.length cap] w fun x w' => x = .returned (.tuple #[.agg #[.int .u8 0, .int .u32 0, .int .u32 0, .slice none 0 0], .bool false]) ∧ Below w.heap.size w w' := by
  obtain ⟨P, HP⟩ : ∃ P : Int, Hid (P = num4 (bs.drop (11 + L))) := ⟨_, rfl⟩
  obtain ⟨P2, HP2⟩ : ∃ P2 : Int, Hid (P2 = more 1 (bs.take (11 + L))) := ⟨_, rfl⟩
  have hne : ¬ P = P2 := by rw [unhide HP, unhide HP2]; exact hW
  have hne2 : (P == P2) = false := by simpa using hne
  have hne3 : (P != P2) = true := by simpa using hne
  have hbin : (binOp .neq 22 (.int .u32 P) (.int .u32 P2)) = pure (.bool true) := by rw [binOp_neq, hne3]
  have HN : Hid (∀ (W : World) (hW : Below w.heap.size w W) (n c : Nat) (hn : n = bs.length - (11 + L)), Calls Try.prog 67 #[.slice (some ⟨b, off + (11 + L), none⟩) n c] W fun x w' => x = .returned (.int .u32 P) ∧ ∃ n, w' = W.drewN n) := fun W hW n c hn => by
    rw [unhide HP]; exact number_drop (bysA_below hb hW) hB (by omega) (11 + L) h15 n c hn
  have HS : Hid (∀ (W : World) (hW : Below w.heap.size w W) (n c N : Nat) (hn : n = 11 + L) (hc : W.cell? ⟨N, 0, none⟩ = some (.slice (some ⟨b, off, none⟩) n c)), Calls Try.prog 63 #[.slice (some ⟨N, 0, none⟩) 1 1] W fun x w' => x = .returned (.int .u32 P2) ∧ w' = W) := fun W hW n c N hn hc => by
    rw [unhide HP2]
    exact sum_at (bys_take (bysA_below hb hW) (11 + L)) (byt_take hB (11 + L)) (by rw [List.length_take]; omega) n c N (by rw [List.length_take]; omega) hc
  have HS1 : Hid (∀ (X : World) (hX : Below w.heap.size w X) (N : Nat) (hN : N = X.heap.size), Calls Try.prog 63 #[.slice (some ⟨N, 0, none⟩) 1 1] (X.alloc (.cells #[.slice (some ⟨b, off, none⟩) (11 + L) cap] 23)) fun x w' => x = .returned (.int .u32 P2) ∧ w' = X.alloc (.cells #[.slice (some ⟨b, off, none⟩) (11 + L) cap] 23)) := fun X hX N hN => unhide HS _ (below_alloc hX _) _ cap _ rfl (cell_lit hN rfl)
  have HS2 : Hid (∀ (X : World) (hX : Below w.heap.size w X) (N k : Nat) (hN : N = X.heap.size), Calls Try.prog 63 #[.slice (some ⟨N, 0, none⟩) 1 1] ((X.alloc (.cells #[.slice (some ⟨b, off, none⟩) (11 + L) cap] 23)).drewN k) fun x w' => x = .returned (.int .u32 P2) ∧ w' = (X.alloc (.cells #[.slice (some ⟨b, off, none⟩) (11 + L) cap] 23)).drewN k) := fun X hX N k hN => unhide HS _ (below_drewN (below_alloc hX _) k) _ cap _ rfl (cell_litD hN rfl)
  have HL : Hid (Calls Try.prog 66 #[.slice (some ⟨b, off, none⟩) bs.length cap] (w.alloc (.cells #[.int .u8 0, .int .u32 0, .int .u32 0, .slice none 0 0] 93)) fun x w' => x = .returned (.int .i64 (L : Int)) ∧ ∃ n, w' = (w.alloc (.cells #[.int .u8 0, .int .u32 0, .int .u32 0, .slice none 0 0] 93)).drewN n) := by
    have := length_any b off cap bs _ (bysA_alloc hb (.cells #[.int .u8 0, .int .u32 0, .int .u32 0, .slice none 0 0] 93)) hB (by omega) (by omega)
    rw [he]
    exact this
  generalize bs.length = n at *
  clear hb hB hW he HP HP2
  have i0 : (0 : Int) ≤ 11 + (L : Int) := by omega
  have i1 : 11 + (L : Int) ≤ (n : Int) := by omega
  have i2 : (n : Int) ≤ (cap : Int) := by omega
  have i3 : 11 + (L : Int) + 4 ≤ (n : Int) := by omega
  have i4 : 11 + (L : Int) ≤ (cap : Int) := by omega
  have i5 : (0 : Int) ≤ 11 + (L : Int) + 4 := by omega
  have i6 : (11 : Int) ≤ 11 + (L : Int) := by omega
  have i7 : (L : Int) ≤ 10000 := by omega
  have q1 : ¬ cap = 11 + L := by omega
  have q3 : ¬ cap = 11 := by omega
  have t1 : (11 + (L : Int)).toNat = 11 + L := by omega
  have t2 : (11 + (L : Int) + 4).toNat = 11 + L + 4 := by omega
  have u1 : IntKind.i64.wrap (11 + (L : Int) + 4) = 11 + (L : Int) + 4 := by rw [IntKind.wrap_i64]; omega
  have HQ := hide (And.intro h15 hcap)
  clear h15 hcap hl
  have q2 : (cap = 11 + L + 4) = True ∨ (cap = 11 + L + 4) = False := by by_cases h : cap = 11 + L + 4 <;> simp [h]
  have HQ2 : Hid ((cap = 11 + L + 4) = True → n ≤ 11 + L + 4) := fun h => by have := of_eq_true h; have := (unhide HQ).2; omega
  go_enter Try.func46, Try.ntmps46
  clear q2 HQ2
  all_goals
    go_wp2_with (go_at_call 66; refine (unhide HL).mono ?_; rintro x w2 ⟨rfl, nd, rfl⟩)
    have hbel : Below w.heap.size w ((w.alloc (.cells #[.int .u8 0, .int .u32 0, .int .u32 0, .slice none 0 0] 93)).drewN nd) := below_drewN (below_alloc (Below.refl _ _) _) nd
    have hnew : ((w.alloc (.cells #[.int .u8 0, .int .u32 0, .int .u32 0, .slice none 0 0] 93)).drewN nd).heap[w.heap.size]? = some (.cells #[.int .u8 0, .int .u32 0, .int .u32 0, .slice none 0 0] 93 (0, 0)) := heap_alloc_last _ _
    generalize (w.alloc (.cells #[.int .u8 0, .int .u32 0, .int .u32 0, .slice none 0 0] 93)).drewN nd = w1 at *
    have HNEW := hide hnew
    clear hnew
    first
      | (go_region_with
      (first
        | (go_at_call 67; refine (unhide HN _ ?_ _ _ ?_).mono ?_; (focus (repeat (first | assumption | (with_reducible refine Below.drew ?_) | (with_reducible refine below_drewN ?_ _) | (with_reducible refine below_alloc ?_ _)))); (focus (have := (unhide HQ).1; omega)); rintro x w2 ⟨rfl, nn, rfl⟩)
        | (go_at_call 63; (with_reducible refine (unhide HS1 _ ?_ _ ?_).mono ?_); (focus (repeat (first | assumption | (with_reducible refine Below.drew ?_) | (with_reducible refine below_drewN ?_ _) | (with_reducible refine below_alloc ?_ _)))); (focus rfl); rintro x w2 ⟨rfl, rfl⟩)
        | (go_at_call 63; (with_reducible refine (unhide HS2 _ ?_ _ _ ?_).mono ?_); (focus (repeat (first | assumption | (with_reducible refine Below.drew ?_) | (with_reducible refine below_drewN ?_ _) | (with_reducible refine below_alloc ?_ _)))); (focus rfl); rintro x w2 ⟨rfl, rfl⟩)
        | (go_at_call 63; trace_state; fail)
  ))
      | fail
    all_goals
      obtain ⟨w3, hw3⟩ : ∃ w3, (w1.drewN (1 + nn)).alloc (.cells #[.slice (some ⟨b, off, none⟩) (11 + L) cap] 23) = w3 := ⟨_, rfl⟩
      obtain ⟨w3', hw3'⟩ : ∃ w3', (w1.alloc (.cells #[.slice (some ⟨b, off, none⟩) (11 + L) cap] 23)).drewN (1 + nn) = w3' := ⟨_, rfl⟩
      have hb13 : Below w1.heap.size w1 w3 := by rw [← hw3]; exact below_alloc (below_drewN (Below.refl _ _) _) _
      have hb13' : Below w1.heap.size w1 w3' := by rw [← hw3']; exact below_drewN (below_alloc (Below.refl _ _) _) _
      first | (rw [hw3]; clear hw3 hw3' hb13' w3') | (rw [hw3']; clear hw3 hw3' hb13 w3; obtain ⟨w3, hq3⟩ : ∃ w3, w3 = w3' := ⟨_, rfl⟩; subst hq3; have hb13 := hb13'; clear hb13')
      have hn3 := (hb13.block _ (lt_of_get (unhide HNEW))).trans (unhide HNEW)
      have n0 := (heap_cell hn3 0).1
      have n1 := (heap_cell hn3 1).1
      have n2 := (heap_cell hn3 2).1
      have n3 := (heap_cell hn3 3).1
      have f0 := (heap_cell hn3 0).2
      have f1 := (heap_cell hn3 1).2
      have f2 := (heap_cell hn3 2).2
      have f3 := (heap_cell hn3 3).2
      have HFI := hide (heap_set4 hn3 (.int .u8 0) (.int .u32 0) (.int .u32 0) (.slice none 0 0))
      have HBF := hide (below_set4 (below_then hbel hb13) w.heap.size (Nat.le_refl _) (.int .u8 0) (.int .u32 0) (.int .u32 0) (.slice none 0 0))
      clear hn3
      go_wp2
      exact ret_cell2 rfl rfl rfl rfl (unhide HFI) Try.underlying93 rfl Try.size93 ⟨rfl, unhide HBF⟩
end Go.Proofs.Ytpaolllkpmkgkaa
