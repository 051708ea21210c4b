/- Contract: Decode, where there is no entry. -/
import Derived.Test.YtpaolllkpmkgkaaNoA
import Derived.Test.YtpaolllkpmkgkaaNoB
namespace Go.Proofs.Ytpaolllkpmkgkaa
open Go.RowKit
set_option linter.unusedVariables false
set_option maxRecDepth 4000

set_option maxHeartbeats 1000000 in
theorem decode_ext (A : Option Addr) (S : List Sct) (cap : Nat) (w : World) (hA : ScsA w A S) (hl : S.length ≤ 1000) (hn : extN S = 0) :
    Calls Try.prog 12 #[.slice A S.length cap] w fun x w' => x = .returned (.tuple #[.agg #[.int .i64 0, .int .u32 0, .int .u32 0, .slice none 0 0], .int .i64 0, .int .i64 11]) ∧ Below w.heap.size w w' := by
  have HEX : Hid (∀ W : World, Below w.heap.size w W → Calls Try.prog 44 #[.slice A S.length cap] W fun x w' => x = .returned (.int .i64 0) ∧ ∃ k, w' = W.drewN k) := fun W hW' => by
    have := extent_any A S cap W (hA.below hW') (by omega)
    rw [hn] at this
    exact this
  generalize S.length = N at *
  clear hA hn
  have HB1 : Hid (Below w.heap.size w (w.alloc (.cells #[.int .i64 0, .int .u32 0, .int .u32 0, .slice none 0 0] 25))) := below_alloc (Below.refl _ _) _
  have HNW : Hid ((w.alloc (.cells #[.int .i64 0, .int .u32 0, .int .u32 0, .slice none 0 0] 25)).heap[w.heap.size]? = some (.cells #[.int .i64 0, .int .u32 0, .int .u32 0, .slice none 0 0] 25 (0, 0))) := heap_alloc_last _ _
  go_enter Try.func12, Try.ntmps12
  go_wp2_with (go_at_call 44; refine (unhide HEX _ (unhide HB1)).mono ?_; rintro x w2 ⟨rfl, kd, hw2⟩; have HB2 := hide (show Below w.heap.size w w2 by rw [hw2]; exact below_drewN (unhide HB1) kd); have HN2 := hide (show w2.heap[w.heap.size]? = some (.cells #[.int .i64 0, .int .u32 0, .int .u32 0, .slice none 0 0] 25 (0, 0)) by rw [hw2]; exact unhide HNW); clear hw2; have hq := unhide HN2; have n0 := (heap_cell hq 0).1; have n1 := (heap_cell hq 1).1; have n2 := (heap_cell hq 2).1; have n3 := (heap_cell hq 3).1; have f0 := (heap_cell hq 0).2; have f1 := (heap_cell hq 1).2; have f2 := (heap_cell hq 2).2; have f3 := (heap_cell hq 3).2; have HNQ := hide hq; clear hq; have HBQ := hide (unhide HB2))
  have HFI := hide (heap_set4 (unhide HNQ) (.int .i64 0) (.int .u32 0) (.int .u32 0) (.slice none 0 0))
  have HBF := hide (below_set4 (unhide HBQ) w.heap.size (Nat.le_refl _) (.int .i64 0) (.int .u32 0) (.int .u32 0) (.slice none 0 0))
  exact ret_cell3 rfl rfl rfl rfl rfl (unhide HFI) Try.underlying25 rfl Try.size25 ⟨rfl, unhide HBF⟩

theorem join_no (A : Option Addr) (S : List Sct) (n cap : Nat) (w : World) (hn : n = S.length) (hA : ScsA w A S) (h1 : 0 < S.length) (hl : S.length ≤ 1000) (hM : ¬ Marks S) :
    Calls Try.prog 45 #[.slice A n cap] w fun x w' => x = .returned (.tuple #[.slice none 0 0, .bool false]) ∧ Below w.heap.size w w' := by
  subst hn
  refine (join_any A S cap w hA h1 hl).mono ?_
  rintro x w' ⟨hb, ⟨hm, _⟩ | ⟨_, rfl⟩⟩
  · exact absurd hm hM
  · exact ⟨rfl, hb⟩
set_option maxHeartbeats 1000000 in
theorem decode_marks (A : Option Addr) (S : List Sct) (cap n : Nat) (w : World) (hA : ScsA w A S) (hl : S.length ≤ 1000) (hcap : S.length ≤ cap) (hn : extN S = n) (h0 : 0 < n) (hnS : n ≤ S.length) (hM : ¬ Marks (S.take n)) :
    Calls Try.prog 12 #[.slice A S.length cap] w fun x w' => x = .returned (.tuple #[.agg #[.int .i64 0, .int .u32 0, .int .u32 0, .slice none 0 0], .int .i64 0, .int .i64 11]) ∧ Below w.heap.size w w' := by
  have htl : (S.take n).length = n := by rw [List.length_take]; omega
  have HEX : Hid (∀ W : World, Below w.heap.size w W → Calls Try.prog 44 #[.slice A S.length cap] W fun x w' => x = .returned (.int .i64 (n : Int)) ∧ ∃ k, w' = W.drewN k) := fun W hW' => by
    have := extent_any A S cap W (hA.below hW') (by omega)
    rw [hn] at this
    exact this
  have HJ : Hid (∀ W : World, Below w.heap.size w W → Calls Try.prog 45 #[.slice A n cap] W fun x w' => x = .returned (.tuple #[.slice none 0 0, .bool false]) ∧ Below W.heap.size W w') := fun W hW' =>
    join_no A (S.take n) n cap W htl.symm ((scsA_take hA n).below hW') (by omega) (by omega) hM
  have hns : (n : Int) ≤ (S.length : Int) := by omega
  have hnc : (n : Int) ≤ (cap : Int) := by omega
  have hne : ¬ (n : Int) = 0 := by omega
  obtain ⟨b, off, rfl, _⟩ := hA.range (k := 0) (by omega)
  generalize S.length = N at *
  clear hA hM hn htl
  have HB1 : Hid (Below w.heap.size w (w.alloc (.cells #[.int .i64 0, .int .u32 0, .int .u32 0, .slice none 0 0] 25))) := below_alloc (Below.refl _ _) _
  have HNW : Hid ((w.alloc (.cells #[.int .i64 0, .int .u32 0, .int .u32 0, .slice none 0 0] 25)).heap[w.heap.size]? = some (.cells #[.int .i64 0, .int .u32 0, .int .u32 0, .slice none 0 0] 25 (0, 0))) := heap_alloc_last _ _
  go_enter Try.func12, Try.ntmps12
  go_wp2_with (first
    | (go_at_call 44; refine (unhide HEX _ (unhide HB1)).mono ?_; rintro x w2 ⟨rfl, kd, hw2⟩; have HB2 := hide (show Below w.heap.size w w2 by rw [hw2]; exact below_drewN (unhide HB1) kd); have HN2 := hide (show w2.heap[w.heap.size]? = some (.cells #[.int .i64 0, .int .u32 0, .int .u32 0, .slice none 0 0] 25 (0, 0)) by rw [hw2]; exact unhide HNW); clear hw2)
    | (go_at_call 45; refine (unhide HJ _ (unhide HB2)).mono ?_; rintro x w3 ⟨rfl, hb3⟩; have hq := (hb3.block _ (lt_of_get (unhide HN2))).trans (unhide HN2); have n0 := (heap_cell hq 0).1; have n1 := (heap_cell hq 1).1; have n2 := (heap_cell hq 2).1; have n3 := (heap_cell hq 3).1; have f0 := (heap_cell hq 0).2; have f1 := (heap_cell hq 1).2; have f2 := (heap_cell hq 2).2; have f3 := (heap_cell hq 3).2; have HNQ := hide hq; clear hq; have HBQ := hide (below_then (unhide HB2) hb3); clear hb3))
  have HFI := hide (heap_set4 (unhide HNQ) (.int .i64 0) (.int .u32 0) (.int .u32 0) (.slice none 0 0))
  have HBF := hide (below_set4 (unhide HBQ) w.heap.size (Nat.le_refl _) (.int .i64 0) (.int .u32 0) (.int .u32 0) (.slice none 0 0))
  exact ret_cell3 rfl rfl rfl rfl rfl (unhide HFI) Try.underlying25 rfl Try.size25 ⟨rfl, unhide HBF⟩

theorem readRecord_none (b cap L n : Nat) (bs : List Int) (w : World) (hn : n = bs.length) (hb : BysA w (some ⟨b, 0, none⟩) bs) (hB : Byt bs) (hl : bs.length ≤ 10000) (h15 : 11 + L + 4 ≤ bs.length) (hcap : bs.length ≤ cap) (he : (L : Int) = lenL bs) (hW : ¬ Whole bs (11 + L)) :
    Calls Try.prog 46 #[.slice (some ⟨b, 0, none⟩) n cap] w fun x w' => x = .returned (.tuple #[.agg #[.int .u8 0, .int .u32 0, .int .u32 0, .slice none 0 0], .bool false]) ∧ Below w.heap.size w w' := by
  subst hn
  by_cases h1 : num4 (bs.drop (11 + L)) = more 1 (bs.take (11 + L))
  · exact readRecord_tail b 0 cap L bs w hb hB hl h15 hcap he h1 (by
      cases h2 : (bs.drop (11 + L + 4)).all (· == 0) with
      | true => exact absurd ⟨h1, h2⟩ hW
      | false => rfl)
  · exact readRecord_sum b 0 cap L bs w hb hB hl h15 hcap he h1
set_option maxHeartbeats 1000000 in
theorem decode_sum (A : Option Addr) (S : List Sct) (cap n L : Nat) (bs : List Int) (w : World) (hA : ScsA w A S) (hl : S.length ≤ 1000) (hcap : S.length ≤ cap) (hn : extN S = n) (h0 : 0 < n) (hnS : n ≤ S.length) (hn64 : n ≤ 64) (hM : Marks (S.take n)) (hbs : joinL (S.take n) = bs)
    (h15 : 11 + L + 4 ≤ bs.length) (he : (L : Int) = lenL bs) (hW : ¬ Whole bs (11 + L)) :
    Calls Try.prog 12 #[.slice A S.length cap] w fun x w' => x = .returned (.tuple #[.agg #[.int .i64 0, .int .u32 0, .int .u32 0, .slice none 0 0], .int .i64 0, .int .i64 11]) ∧ Below w.heap.size w w' := by
  have htl : (S.take n).length = n := by rw [List.length_take]; omega
  have hbl : bs.length = 63 * n := by rw [← hbs, joinL_len, htl]
  have hBy : Byt bs := by rw [← hbs]; exact joinL_byt _
  have HEX : Hid (∀ W : World, Below w.heap.size w W → Calls Try.prog 44 #[.slice A S.length cap] W fun x w' => x = .returned (.int .i64 (n : Int)) ∧ ∃ k, w' = W.drewN k) := fun W hW' => by
    have := extent_any A S cap W (hA.below hW') (by omega)
    rw [hn] at this
    exact this
  have HJ : Hid (∀ W : World, Below w.heap.size w W → Calls Try.prog 45 #[.slice A n cap] W fun x w' => ∃ g c, x = .returned (.tuple #[.slice (some ⟨g, 0, none⟩) bs.length c, .bool true]) ∧ BysA w' (some ⟨g, 0, none⟩) bs ∧ bs.length ≤ c ∧ Below W.heap.size W w') := fun W hW' => by
    have := join_yes A (S.take n) n cap W htl.symm ((scsA_take hA n).below hW') (by omega) (by omega) hM bs.length (by rw [hbs])
    rw [hbs] at this
    exact this
  have HR : Hid (∀ (W : World) (g c : Nat), BysA W (some ⟨g, 0, none⟩) bs → bs.length ≤ c → Calls Try.prog 46 #[.slice (some ⟨g, 0, none⟩) bs.length c] W fun x w' => x = .returned (.tuple #[.agg #[.int .u8 0, .int .u32 0, .int .u32 0, .slice none 0 0], .bool false]) ∧ Below W.heap.size W w') := fun W g c hy hc =>
    readRecord_none g c L bs.length bs W rfl hy hBy (by omega) h15 hc he hW
  have hns : (n : Int) ≤ (S.length : Int) := by omega
  have hnc : (n : Int) ≤ (cap : Int) := by omega
  have hne : ¬ (n : Int) = 0 := by omega
  obtain ⟨b, off, rfl, _⟩ := hA.range (k := 0) (by omega)
  generalize bs.length = J at *
  generalize S.length = N at *
  clear hA hM hbs he hW hn htl hBy hbl h15
  have HB1 : Hid (Below w.heap.size w (w.alloc (.cells #[.int .i64 0, .int .u32 0, .int .u32 0, .slice none 0 0] 25))) := below_alloc (Below.refl _ _) _
  have HNW : Hid ((w.alloc (.cells #[.int .i64 0, .int .u32 0, .int .u32 0, .slice none 0 0] 25)).heap[w.heap.size]? = some (.cells #[.int .i64 0, .int .u32 0, .int .u32 0, .slice none 0 0] 25 (0, 0))) := heap_alloc_last _ _
  go_enter Try.func12, Try.ntmps12
  go_wp2_with (first
    | (go_at_call 44; refine (unhide HEX _ (unhide HB1)).mono ?_; rintro x w2 ⟨rfl, kd, hw2⟩; have HB2 := hide (show Below w.heap.size w w2 by rw [hw2]; exact below_drewN (unhide HB1) kd); have HN2 := hide (show w2.heap[w.heap.size]? = some (.cells #[.int .i64 0, .int .u32 0, .int .u32 0, .slice none 0 0] 25 (0, 0)) by rw [hw2]; exact unhide HNW); clear hw2)
    | (go_at_call 45; refine (unhide HJ _ (unhide HB2)).mono ?_; rintro x w3 ⟨g, c, rfl, hy, hc, hb3⟩; have HY := hide hy; have HB3 := hide hb3; clear hy hb3)
    | (go_at_call 46; refine (unhide HR _ g c (unhide HY) hc).mono ?_; rintro x w4 ⟨rfl, hb4⟩; have hb24 := below_then (below_then (unhide HB3) hb4) (below_alloc (Below.refl _ _) (.cells #[.int .u8 0, .int .u32 0, .int .u32 0, .slice none 0 0] 93)); have hq := (hb24.block _ (lt_of_get (unhide HN2))).trans (unhide HN2); have n0 := (heap_cell hq 0).1; have n1 := (heap_cell hq 1).1; have n2 := (heap_cell hq 2).1; have n3 := (heap_cell hq 3).1; have f0 := (heap_cell hq 0).2; have f1 := (heap_cell hq 1).2; have f2 := (heap_cell hq 2).2; have f3 := (heap_cell hq 3).2; have HNQ := hide hq; clear hq; have HBQ := hide (below_then (unhide HB2) hb24); clear hb4 hb24))
  have HFI := hide (heap_set4 (unhide HNQ) (.int .i64 0) (.int .u32 0) (.int .u32 0) (.slice none 0 0))
  have HBF := hide (below_set4 (unhide HBQ) w.heap.size (Nat.le_refl _) (.int .i64 0) (.int .u32 0) (.int .u32 0) (.slice none 0 0))
  exact ret_cell3 rfl rfl rfl rfl rfl (unhide HFI) Try.underlying25 rfl Try.size25 ⟨rfl, unhide HBF⟩
end Go.Proofs.Ytpaolllkpmkgkaa
