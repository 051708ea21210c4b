/- Contracts: a record out of its bytes. -/
import Derived.Test.YtpaolllkpmkgkaaDec3
namespace Go.Proofs.Ytpaolllkpmkgkaa
open Go.RowKit
set_option linter.unusedVariables false
set_option maxRecDepth 4000

def lenL (bs : List Int) : Int := bs.getD 9 0 * 256 + bs.getD 10 0
/-- The sum holds, and what stands behind it is 0. -/
def Whole (bs : List Int) (e : Nat) : Prop := num4 (bs.drop e) = more 1 (bs.take e) ∧ (bs.drop (e + 4)).all (· == 0) = true

theorem bys_take {W : World} {b off : Nat} {bs : List Int} (h : BysA W (some ⟨b, off, none⟩) bs) (k : Nat) : BysA W (some ⟨b, off, none⟩) (bs.take k) := bysA_take h k

theorem sum_at {W : World} {A : Option Addr} {bs : List Int} (hb : BysA W A bs) (hB : Byt bs) (hl : bs.length ≤ 20000) (n c N : Nat) (hn : n = bs.length) (hc : W.cell? ⟨N, 0, none⟩ = some (.slice A n c)) :
    Calls Try.prog 63 #[.slice (some ⟨N, 0, none⟩) 1 1] W fun e w' => e = .returned (.int .u32 (more 1 bs)) ∧ w' = W := by
  subst hn
  exact sum1 hB hl W N (one_part hc hb)

theorem cell_litD {X : World} {N i k : Nat} {c : Array Value} {t : TypeId} {r : Nat × Nat} {v : Value} (h : N = X.heap.size) (hc : c[i]? = some v) : ((X.alloc (.cells c t r)).drewN k).cell? ⟨N, i, none⟩ = some v := cell_lit h hc

set_option maxHeartbeats 1000000 in
theorem readRecord_yes (b off cap L : Nat) (bs : List Int) (w : World) (hb : BysA w (some ⟨b, off, none⟩) bs) (hB : Byt bs) (hl : bs.length ≤ 10000) (h15 : 11 + L + 4 ≤ bs.length) (hcap : bs.length ≤ cap) (he : (L : Int) = lenL bs) (hW : Whole bs (11 + L)) :
    Calls Try.prog 46 #[.slice (some ⟨b, off, none⟩) bs.length cap] w fun x w' => x = .returned (.tuple #[.agg #[.int .u8 (bs.getD 0 0), .int .u32 (num4 (bs.drop 1)), .int .u32 (num4 (bs.drop 5)), .slice (some ⟨b, off + 11, none⟩) L (cap - 11)], .bool true]) ∧ Below w.heap.size w w' := by
  obtain ⟨hW1, hW2⟩ := hW
  obtain ⟨P, HP⟩ : ∃ P : Int, Hid (P = num4 (bs.drop (11 + L))) := ⟨_, rfl⟩
  have HN : Hid (∀ (W : World) (hW : Below w.heap.size w W) (n c : Nat) (hn : n = bs.length - (11 + L)), Calls Try.prog 67 #[.slice (some ⟨b, off + (11 + L), none⟩) n c] W fun x w' => x = .returned (.int .u32 P) ∧ ∃ n, w' = W.drewN n) := fun W hW n c hn => by
    rw [unhide HP]; exact number_drop (bysA_below hb hW) hB (by omega) (11 + L) h15 n c hn
  have HS : Hid (∀ (W : World) (hW : Below w.heap.size w W) (n c N : Nat) (hn : n = 11 + L) (hc : W.cell? ⟨N, 0, none⟩ = some (.slice (some ⟨b, off, none⟩) n c)), Calls Try.prog 63 #[.slice (some ⟨N, 0, none⟩) 1 1] W fun x w' => x = .returned (.int .u32 P) ∧ w' = W) := fun W hW n c N hn hc => by
    rw [unhide HP, hW1]
    exact sum_at (bys_take (bysA_below hb hW) (11 + L)) (byt_take hB (11 + L)) (by rw [List.length_take]; omega) n c N (by rw [List.length_take]; omega) hc
  have HS1 : Hid (∀ (X : World) (hX : Below w.heap.size w X) (N : Nat) (hN : N = X.heap.size), Calls Try.prog 63 #[.slice (some ⟨N, 0, none⟩) 1 1] (X.alloc (.cells #[.slice (some ⟨b, off, none⟩) (11 + L) cap] 23)) fun x w' => x = .returned (.int .u32 P) ∧ w' = X.alloc (.cells #[.slice (some ⟨b, off, none⟩) (11 + L) cap] 23)) := fun X hX N hN => unhide HS _ (below_alloc hX _) _ cap _ rfl (cell_lit hN rfl)
  have HS2 : Hid (∀ (X : World) (hX : Below w.heap.size w X) (N k : Nat) (hN : N = X.heap.size), Calls Try.prog 63 #[.slice (some ⟨N, 0, none⟩) 1 1] ((X.alloc (.cells #[.slice (some ⟨b, off, none⟩) (11 + L) cap] 23)).drewN k) fun x w' => x = .returned (.int .u32 P) ∧ w' = (X.alloc (.cells #[.slice (some ⟨b, off, none⟩) (11 + L) cap] 23)).drewN k) := fun X hX N k hN => unhide HS _ (below_drewN (below_alloc hX _) k) _ cap _ rfl (cell_litD hN rfl)
  have HBL : Hid (∀ (W : World) (hW : Below w.heap.size w W) (A : Option Addr) (n c : Nat) (hn : n = bs.length - (11 + L + 4)) (hA : A = some ⟨b, off + (11 + L + 4), none⟩ ∨ bs.length ≤ 11 + L + 4), Calls Try.prog 68 #[.slice A n c] W fun x w' => x = .returned (.bool true) ∧ w' = W) := fun W hW A n c hn hA => by
    have hby : BysA W A (bs.drop (11 + L + 4)) := by
      rcases hA with rfl | hA
      · exact bys_drop (bysA_below hb hW) (11 + L + 4)
      · rw [List.drop_of_length_le hA]; exact bysA_nil _ _
    have := blank_at A n c (bs.drop (11 + L + 4)) W (by rw [List.length_drop]; exact hn) hby (byt_drop hB _) (by omega)
    rw [hW2] at this
    exact this
  have HL : Hid (Calls Try.prog 66 #[.slice (some ⟨b, off, none⟩) bs.length cap] (w.alloc (.cells #[.int .u8 0, .int .u32 0, .int .u32 0, .slice none 0 0] 93)) fun x w' => x = .returned (.int .i64 (L : Int)) ∧ ∃ n, w' = (w.alloc (.cells #[.int .u8 0, .int .u32 0, .int .u32 0, .slice none 0 0] 93)).drewN n) := by
    have := length_any b off cap bs _ (bysA_alloc hb (.cells #[.int .u8 0, .int .u32 0, .int .u32 0, .slice none 0 0] 93)) hB (by omega) (by omega)
    rw [he]
    exact this
  have HH : Hid (∀ (W : World) (hW : Below w.heap.size w W), Calls Try.prog 69 #[.slice (some ⟨b, off, none⟩) bs.length cap] W fun x w' => x = .returned (.agg #[.int .u8 (bs.getD 0 0), .int .u32 (num4 (bs.drop 1)), .int .u32 (num4 (bs.drop 5))]) ∧ Below W.heap.size W w') := fun W hW =>
    readHead_any b off cap bs W (bysA_below hb hW) hB hl (by omega) hcap
  generalize bs.getD 0 0 = x0 at *
  generalize num4 (bs.drop 1) = p1 at *
  generalize num4 (bs.drop 5) = p5 at *
  generalize bs.length = n at *
  clear hb hB hW1 hW2 he HP
  have i0 : (0 : Int) ≤ 11 + (L : Int) := by omega
  have i1 : 11 + (L : Int) ≤ (n : Int) := by omega
  have i2 : (n : Int) ≤ (cap : Int) := by omega
  have i3 : 11 + (L : Int) + 4 ≤ (n : Int) := by omega
  have i4 : 11 + (L : Int) ≤ (cap : Int) := by omega
  have i5 : (0 : Int) ≤ 11 + (L : Int) + 4 := by omega
  have i6 : (11 : Int) ≤ 11 + (L : Int) := by omega
  have i7 : (L : Int) ≤ 10000 := by omega
  have q1 : ¬ cap = 11 + L := by omega
  have q3 : ¬ cap = 11 := by omega
  have t1 : (11 + (L : Int)).toNat = 11 + L := by omega
  have t2 : (11 + (L : Int) + 4).toNat = 11 + L + 4 := by omega
  have u1 : IntKind.i64.wrap (11 + (L : Int) + 4) = 11 + (L : Int) + 4 := by rw [IntKind.wrap_i64]; omega
  have HQ := hide (And.intro h15 hcap)
  clear h15 hcap hl
  have q2 : (cap = 11 + L + 4) = True ∨ (cap = 11 + L + 4) = False := by by_cases h : cap = 11 + L + 4 <;> simp [h]
  have HQ2 : Hid ((cap = 11 + L + 4) = True → n ≤ 11 + L + 4) := fun h => by have := of_eq_true h; have := (unhide HQ).2; omega
  go_enter Try.func46, Try.ntmps46
  rcases q2 with q2 | q2
  all_goals
    go_wp2_with (go_at_call 66; refine (unhide HL).mono ?_; rintro x w2 ⟨rfl, nd, rfl⟩)
    have hbel : Below w.heap.size w ((w.alloc (.cells #[.int .u8 0, .int .u32 0, .int .u32 0, .slice none 0 0] 93)).drewN nd) := below_drewN (below_alloc (Below.refl _ _) _) nd
    have hnew : ((w.alloc (.cells #[.int .u8 0, .int .u32 0, .int .u32 0, .slice none 0 0] 93)).drewN nd).heap[w.heap.size]? = some (.cells #[.int .u8 0, .int .u32 0, .int .u32 0, .slice none 0 0] 93 (0, 0)) := heap_alloc_last _ _
    generalize (w.alloc (.cells #[.int .u8 0, .int .u32 0, .int .u32 0, .slice none 0 0] 93)).drewN nd = w1 at *
    have HNEW := hide hnew
    clear hnew
    go_region_held3 (fun W => Below w.heap.size w W) ((repeat (first | assumption | (with_reducible refine Below.drew ?_) | (with_reducible refine below_drewN ?_ _) | (with_reducible refine below_alloc ?_ _))))
      (first
        | (go_at_call 67; refine (unhide HN _ ?_ _ _ ?_).mono ?_; (focus (repeat (first | assumption | (with_reducible refine Below.drew ?_) | (with_reducible refine below_drewN ?_ _) | (with_reducible refine below_alloc ?_ _)))); (focus (have := (unhide HQ).1; omega)); rintro x w2 ⟨rfl, nn, rfl⟩)
        | (go_at_call 63; (with_reducible refine (unhide HS1 _ ?_ _ ?_).mono ?_); (focus (repeat (first | assumption | (with_reducible refine Below.drew ?_) | (with_reducible refine below_drewN ?_ _) | (with_reducible refine below_alloc ?_ _)))); (focus rfl); rintro x w2 ⟨rfl, rfl⟩)
        | (go_at_call 63; (with_reducible refine (unhide HS2 _ ?_ _ _ ?_).mono ?_); (focus (repeat (first | assumption | (with_reducible refine Below.drew ?_) | (with_reducible refine below_drewN ?_ _) | (with_reducible refine below_alloc ?_ _)))); (focus rfl); rintro x w2 ⟨rfl, rfl⟩)
        | (go_at_call 63; trace_state; fail)
        | (go_at_call 68; refine (unhide HBL _ ?_ _ _ _ ?_ ?_).mono ?_; (focus (repeat (first | assumption | (with_reducible refine Below.drew ?_) | (with_reducible refine below_drewN ?_ _) | (with_reducible refine below_alloc ?_ _)))); (focus (have := (unhide HQ).1; omega)); (focus (first | exact .inl rfl | exact .inr (unhide HQ2 q2))); rintro x w2 ⟨rfl, rfl⟩))
    all_goals
      have hfix : ∀ X : World, Below w1.heap.size w1 X → X.heap[w.heap.size]? = some (.cells #[.int .u8 0, .int .u32 0, .int .u32 0, .slice none 0 0] 93 (0, 0)) := fun X hX => (hX.block _ (lt_of_get (unhide HNEW))).trans (unhide HNEW)
      have HF := hide hfix
      clear hfix
      obtain ⟨w3, hw3⟩ : ∃ w3, (w1.drewN (1 + nn)).alloc (.cells #[.slice (some ⟨b, off, none⟩) (11 + L) cap] 23) = w3 := ⟨_, rfl⟩
      obtain ⟨w3', hw3'⟩ : ∃ w3', (w1.alloc (.cells #[.slice (some ⟨b, off, none⟩) (11 + L) cap] 23)).drewN (1 + nn) = w3' := ⟨_, rfl⟩
      have hb13 : Below w1.heap.size w1 w3 := by rw [← hw3]; exact below_alloc (below_drewN (Below.refl _ _) _) _
      have hb13' : Below w1.heap.size w1 w3' := by rw [← hw3']; exact below_drewN (below_alloc (Below.refl _ _) _) _
      first | (rw [hw3]; clear hw3 hw3' hb13' w3') | (rw [hw3']; clear hw3 hw3' hb13 w3; obtain ⟨w3, hq3⟩ : ∃ w3, w3 = w3' := ⟨_, rfl⟩; subst hq3; have hb13 := hb13'; clear hb13')
      have hb03 : Below w.heap.size w w3 := below_then hbel hb13
      go_wp2
      go_region_held3 (fun W => Below w.heap.size w W) ((repeat (first | assumption | (with_reducible refine Below.drew ?_) | (with_reducible refine below_drewN ?_ _) | (with_reducible refine below_alloc ?_ _) | (with_reducible refine below_set ?_ _ _ _ (Nat.le_refl _))))) (first
        | (go_at_call 69; refine (unhide HH _ ?_).mono ?_; (focus (repeat (first | assumption | (with_reducible refine Below.drew ?_) | (with_reducible refine below_drewN ?_ _) | (with_reducible refine below_alloc ?_ _) | (with_reducible refine below_set ?_ _ _ _ (Nat.le_refl _))))); rintro x w4 ⟨rfl, hb4⟩; have hb5 : Below w.heap.size w w4 := (below_then (by repeat (first | assumption | (with_reducible refine Below.drew ?_) | (with_reducible refine below_drewN ?_ _) | (with_reducible refine below_alloc ?_ _) | (with_reducible refine below_set ?_ _ _ _ (Nat.le_refl _)))) hb4); have hn4 := unhide HF w4 (below_then (by repeat (first | assumption | (with_reducible refine Below.drew ?_))) hb4); have n0 := (heap_cell hn4 0).1; have n1 := (heap_cell hn4 1).1; have n2 := (heap_cell hn4 2).1; have n3 := (heap_cell hn4 3).1; have f0 := (heap_cell hn4 0).2; have f1 := (heap_cell hn4 1).2; have f2 := (heap_cell hn4 2).2; have f3 := (heap_cell hn4 3).2; have HN4 := hide hn4; clear hn4))
      all_goals
        have hfin := heap_set (heap_set (heap_set (heap_set (unhide HN4) 0 (.int .u8 x0)) 1 (.int .u32 p1)) 2 (.int .u32 p5)) 3 (.slice (some ⟨b, off + 11, none⟩) L (cap - 11))
        have hbf := below_set (below_set (below_set (below_set hb5 w.heap.size 0 (.int .u8 x0) (Nat.le_refl _)) w.heap.size 1 (.int .u32 p1) (Nat.le_refl _)) w.heap.size 2 (.int .u32 p5) (Nat.le_refl _)) w.heap.size 3 (.slice (some ⟨b, off + 11, none⟩) L (cap - 11)) (Nat.le_refl _)
        have HFI := hide hfin
        have HBF := hide hbf
        clear n0 n1 n2 n3 f0 f1 f2 f3 hfin hbf
        go_wp2
        exact ret_cell2 rfl rfl rfl rfl (unhide HFI) Try.underlying93 rfl Try.size93 ⟨rfl, unhide HBF⟩
end Go.Proofs.Ytpaolllkpmkgkaa
