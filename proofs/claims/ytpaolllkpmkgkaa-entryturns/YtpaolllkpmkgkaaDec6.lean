/- Contract: Decode, where there is an entry. -/
import Derived.Test.YtpaolllkpmkgkaaDec5
namespace Go.Proofs.Ytpaolllkpmkgkaa
open Go.RowKit
set_option linter.unusedVariables false
set_option maxRecDepth 4000

theorem scsA_take {w : World} {A : Option Addr} {S : List Sct} (h : ScsA w A S) (n : Nat) : ScsA w A (S.take n) := by
  intro hne
  have hl := flatS_len S
  have : S ≠ [] := by rintro rfl; simp [flatS] at hne
  obtain ⟨b, off, ha, hc⟩ := h (by intro e; rw [e] at hl; simp at hl; exact this (List.length_eq_zero_iff.1 (by omega)))
  refine ⟨b, off, ha, fun j u hj => hc j u ?_⟩
  have e : flatS S = flatS (S.take n) ++ flatS (S.drop n) := by rw [← flatS_app, List.take_append_drop]
  rw [e, List.getElem?_append_left ((List.getElem?_eq_some_iff.1 hj).1)]
  exact hj
theorem join_yes (A : Option Addr) (S : List Sct) (n cap : Nat) (w : World) (hn : n = S.length) (hA : ScsA w A S) (h1 : 0 < S.length) (hl : S.length ≤ 1000) (hM : Marks S) (J : Nat) (hJ : J = (joinL S).length) :
    Calls Try.prog 45 #[.slice A n cap] w fun x w' => ∃ g c, x = .returned (.tuple #[.slice (some ⟨g, 0, none⟩) J c, .bool true]) ∧ BysA w' (some ⟨g, 0, none⟩) (joinL S) ∧ J ≤ c ∧ Below w.heap.size w w' := by
  subst hn hJ
  refine (join_any A S cap w hA h1 hl).mono ?_
  rintro x w' ⟨hb, ⟨_, g, c, rfl, ho⟩ | ⟨hn, _⟩⟩
  · obtain ⟨A', c', e, hy, hc⟩ := own_bys ho
    cases e
    exact ⟨g, c, rfl, hy, hc, hb⟩
  · exact absurd hM hn
theorem readRecord_at (b cap L n : Nat) (bs : List Int) (w : World) (hn : n = bs.length) (hb : BysA w (some ⟨b, 0, none⟩) bs) (hB : Byt bs) (hl : bs.length ≤ 10000) (h15 : 11 + L + 4 ≤ bs.length) (hcap : bs.length ≤ cap) (he : (L : Int) = lenL bs) (hW : Whole bs (11 + L)) :
    Calls Try.prog 46 #[.slice (some ⟨b, 0, none⟩) n cap] w fun x w' => x = .returned (.tuple #[.agg #[.int .u8 (bs.getD 0 0), .int .u32 (num4 (bs.drop 1)), .int .u32 (num4 (bs.drop 5)), .slice (some ⟨b, 11, none⟩) L (cap - 11)], .bool true]) ∧ Below w.heap.size w w' := by
  subst hn
  have := readRecord_yes b 0 cap L bs w hb hB hl h15 hcap he hW
  simpa using this
theorem entry_at (k e s : Int) (hk : 0 ≤ k ∧ k ≤ 255) (b off n cap : Nat) (bs : List Int) (w : World) (hn : n = bs.length) (hb : BysA w (some ⟨b, off, none⟩) bs) (hl : bs.length ≤ 10000) :
    Calls Try.prog 47 #[.agg #[.int .u8 k, .int .u32 e, .int .u32 s, .slice (some ⟨b, off, none⟩) n cap]] w fun x w' => ∃ A c, x = .returned (.agg #[.int .i64 k, .int .u32 e, .int .u32 s, .slice A n c]) ∧ w'.ownsRow w.heap.size 5 1 (.slice A n c) n (bs.map (Value.int .u8)) ∧ Below w.heap.size w w' := by
  subst hn
  refine (entry_any k e s hk b off cap bs w hb hl).mono ?_
  rintro x w' ⟨v, rfl, ho, hb'⟩
  obtain ⟨A, c, rfl, _⟩ := own_bys ho
  exact ⟨A, c, rfl, ho, hb'⟩

set_option maxHeartbeats 1000000 in
theorem decode_yes (A : Option Addr) (S : List Sct) (cap n L : Nat) (bs : List Int) (w : World) (hA : ScsA w A S) (hl : S.length ≤ 1000) (hcap : S.length ≤ cap) (hn : extN S = n) (h0 : 0 < n) (hnS : n ≤ S.length) (hn64 : n ≤ 64) (hM : Marks (S.take n)) (hbs : joinL (S.take n) = bs)
    (h15 : 11 + L + 4 ≤ bs.length) (he : (L : Int) = lenL bs) (hW : Whole bs (11 + L)) :
    Calls Try.prog 12 #[.slice A S.length cap] w fun x w' => ∃ B c, x = .returned (.tuple #[.agg #[.int .i64 (bs.getD 0 0), .int .u32 (num4 (bs.drop 1)), .int .u32 (num4 (bs.drop 5)), .slice B L c], .int .i64 n, .int .i64 0]) ∧ w'.ownsRow w.heap.size 5 1 (.slice B L c) L (((bs.drop 11).take L).map (Value.int .u8)) ∧ Below w.heap.size w w' := by
  have htl : (S.take n).length = n := by rw [List.length_take]; omega
  have hbl : bs.length = 63 * n := by rw [← hbs, joinL_len, htl]
  have hBy : Byt bs := by rw [← hbs]; exact joinL_byt _
  have HEX : Hid (∀ W : World, Below w.heap.size w W → Calls Try.prog 44 #[.slice A S.length cap] W fun x w' => x = .returned (.int .i64 (n : Int)) ∧ ∃ k, w' = W.drewN k) := fun W hW' => by
    have := extent_any A S cap W (hA.below hW') (by omega)
    rw [hn] at this
    exact this
  have HJ : Hid (∀ W : World, Below w.heap.size w W → Calls Try.prog 45 #[.slice A n cap] W fun x w' => ∃ g c, x = .returned (.tuple #[.slice (some ⟨g, 0, none⟩) bs.length c, .bool true]) ∧ BysA w' (some ⟨g, 0, none⟩) bs ∧ bs.length ≤ c ∧ Below W.heap.size W w') := fun W hW' => by
    have := join_yes A (S.take n) n cap W htl.symm ((scsA_take hA n).below hW') (by omega) (by omega) hM bs.length (by rw [hbs])
    rw [hbs] at this
    exact this
  have HR : Hid (∀ (W : World) (g c : Nat), BysA W (some ⟨g, 0, none⟩) bs → bs.length ≤ c → Calls Try.prog 46 #[.slice (some ⟨g, 0, none⟩) bs.length c] W fun x w' => x = .returned (.tuple #[.agg #[.int .u8 (bs.getD 0 0), .int .u32 (num4 (bs.drop 1)), .int .u32 (num4 (bs.drop 5)), .slice (some ⟨g, 11, none⟩) L (c - 11)], .bool true]) ∧ Below W.heap.size W w') := fun W g c hy hc =>
    readRecord_at g c L bs.length bs W rfl hy hBy (by omega) h15 hc he hW
  have HE : Hid (∀ (W : World) (g c : Nat), BysA W (some ⟨g, 0, none⟩) bs → Calls Try.prog 47 #[.agg #[.int .u8 (bs.getD 0 0), .int .u32 (num4 (bs.drop 1)), .int .u32 (num4 (bs.drop 5)), .slice (some ⟨g, 11, none⟩) L c]] W fun x w' => ∃ B c, x = .returned (.agg #[.int .i64 (bs.getD 0 0), .int .u32 (num4 (bs.drop 1)), .int .u32 (num4 (bs.drop 5)), .slice B L c]) ∧ w'.ownsRow W.heap.size 5 1 (.slice B L c) L (((bs.drop 11).take L).map (Value.int .u8)) ∧ Below W.heap.size W w') := fun W g c hy => by
    have h11 := bys_take (bys_drop hy 11) L
    rw [Nat.zero_add] at h11
    exact entry_at _ _ _ (hBy 0) g 11 L c ((bs.drop 11).take L) W (by rw [List.length_take, List.length_drop]; omega) h11 (by rw [List.length_take, List.length_drop]; omega)
  have hns : (n : Int) ≤ (S.length : Int) := by omega
  have hnc : (n : Int) ≤ (cap : Int) := by omega
  have hne : ¬ (n : Int) = 0 := by omega
  obtain ⟨b, off, rfl, _⟩ := hA.range (k := 0) (by omega)
  generalize bs.getD 0 0 = x0 at *
  generalize num4 (bs.drop 1) = p1 at *
  generalize num4 (bs.drop 5) = p5 at *
  generalize ((bs.drop 11).take L).map (Value.int .u8) = xs at *
  generalize bs.length = J at *
  generalize S.length = N at *
  clear hA hM hbs he hW hn htl hBy hbl h15
  have HB1 : Hid (Below w.heap.size w (w.alloc (.cells #[.int .i64 0, .int .u32 0, .int .u32 0, .slice none 0 0] 25))) := below_alloc (Below.refl _ _) _
  have HNW : Hid ((w.alloc (.cells #[.int .i64 0, .int .u32 0, .int .u32 0, .slice none 0 0] 25)).heap[w.heap.size]? = some (.cells #[.int .i64 0, .int .u32 0, .int .u32 0, .slice none 0 0] 25 (0, 0))) := heap_alloc_last _ _
  go_enter Try.func12, Try.ntmps12
  go_wp2_with (first
    | (go_at_call 44; refine (unhide HEX _ (unhide HB1)).mono ?_; rintro x w2 ⟨rfl, kd, hw2⟩; have HB2 := hide (show Below w.heap.size w w2 by rw [hw2]; exact below_drewN (unhide HB1) kd); have HN2 := hide (show w2.heap[w.heap.size]? = some (.cells #[.int .i64 0, .int .u32 0, .int .u32 0, .slice none 0 0] 25 (0, 0)) by rw [hw2]; exact unhide HNW); clear hw2)
    | (go_at_call 45; refine (unhide HJ _ (unhide HB2)).mono ?_; rintro x w3 ⟨g, c, rfl, hy, hc, hb3⟩; have HY := hide hy; have HB3 := hide hb3; clear hy hb3)
    | (go_at_call 46; refine (unhide HR _ g c (unhide HY) hc).mono ?_; rintro x w4 ⟨rfl, hb4⟩; have HB4 := hide hb4; clear hb4)
    | (go_at_call 47; refine (unhide HE _ g (c - 11) (bysA_alloc (bysA_below (unhide HY) (unhide HB4)) _)).mono ?_; rintro x w5 ⟨B, c5, rfl, ho, hb5⟩; have hb25 : Below w2.heap.size w2 w5 := below_then (below_then (below_then (unhide HB3) (unhide HB4)) (below_alloc (Below.refl _ _) _)) hb5; have hn5 := (hb25.block _ (lt_of_get (unhide HN2))).trans (unhide HN2); have n0 := (heap_cell hn5 0).1; have n1 := (heap_cell hn5 1).1; have n2 := (heap_cell hn5 2).1; have n3 := (heap_cell hn5 3).1; have f0 := (heap_cell hn5 0).2; have f1 := (heap_cell hn5 1).2; have f2 := (heap_cell hn5 2).2; have f3 := (heap_cell hn5 3).2; have HN5 := hide hn5; have HB6 := hide (below_then (unhide HB2) hb25); have HO := hide (own_mono ho (base' := w.heap.size) (Nat.le_trans (below_then (unhide HB2) (below_then (unhide HB3) (unhide HB4))).size (by simp))); clear hn5 ho hb5 hb25))
  have HFI := hide (heap_set4 (unhide HN5) (.int .i64 x0) (.int .u32 p1) (.int .u32 p5) (.slice B L c5))
  have HBF := hide (below_set4 (unhide HB6) w.heap.size (Nat.le_refl _) (.int .i64 x0) (.int .u32 p1) (.int .u32 p5) (.slice B L c5))
  have HOF := hide (own_set4 (unhide HO) (unhide HN5) (.int .i64 x0) (.int .u32 p1) (.int .u32 p5) (.slice B L c5))
  exact ret_cell3 rfl rfl rfl rfl rfl (unhide HFI) Try.underlying25 rfl Try.size25 ⟨B, c5, rfl, unhide HOF, unhide HBF⟩
end Go.Proofs.Ytpaolllkpmkgkaa
