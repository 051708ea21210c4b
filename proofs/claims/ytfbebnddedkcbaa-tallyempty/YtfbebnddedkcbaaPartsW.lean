/- The walk of TallyParts. -/
import Derived.Test.YtfbebnddedkcbaaWakes
import Derived.Deep.RegionHeld3
import Derived.Deep.DrawnRows
import Derived.Laws.Slices
namespace Go.Proofs.Ytfbebnddedkcbaa
open Go.RowKit
set_option linter.unusedVariables false
attribute [local go_sem ↓] Go.wp_at_zero Go.wp_at_succ

set_option maxHeartbeats 1000000 in
theorem parts_big (a0 : Option Addr) (len0 cap0 : Nat) (a1 : Int) (w : World) (h : 20000 < len0) (hm : len0 ≤ maxLen) :
    Calls Try.prog 4 #[.slice a0 len0 cap0, .int .i64 a1] w fun e w' => e = .returned (.bool true) ∧ Below w.heap.size w w' := by
  have hml : maxLen = 9223372036854775807 := rfl
  rw [hml] at hm
  clear hml
  have h' : (20000 : Int) < (len0 : Int) := by omega
  go_enter Try.func4, Try.ntmps4
  go_wp2_with fail
  refine (wakes_any _).mono ?_
  rintro e w' ⟨rfl, hb⟩
  go_wp2
  go_ret
  exact ⟨rfl, hb⟩

theorem bysA_below {w0 W : World} {a : Option Addr} {bs : List Int} (h : BysA w0 a bs) (hb : Below w0.heap.size w0 W) : BysA W a bs := by
  intro hne
  obtain ⟨b, off, ha, hc⟩ := h hne
  exact ⟨b, off, ha, fun i hi => by rw [hb.cell (World.block_lt_of_cell? _ _ (hc i hi))]; exact hc i hi⟩

theorem bysA_alloc {W : World} {a : Option Addr} {bs : List Int} (h : BysA W a bs) (o : Obj) : BysA (W.alloc o) a bs := by
  intro hne
  obtain ⟨b, off, ha, hc⟩ := h hne
  exact ⟨b, off, ha, fun i hi => cell_past o (hc i hi)⟩

theorem partsA_drew {w : World} {a : Option Addr} {pss : List (List Int)} (h : PartsA w a pss) : PartsA w.drew a pss := by
  intro hne
  obtain ⟨b, off, ha, hc⟩ := h hne
  exact ⟨b, off, ha, fun i hi => hc i hi⟩

/-- A new block whose cells are slices: its parts. -/
theorem parts_new {W : World} {t : TypeId} {cs : List Value} {pss : List (List Int)} {N : Nat} (hN : N = W.heap.size)
    (h : ∀ i, i < pss.length → ∃ a' cap', cs[i]? = some (.slice a' (pss.getD i []).length cap') ∧ BysA W a' (pss.getD i [])) :
    PartsA (W.alloc (.cells cs.toArray t)) (some ⟨N, 0, none⟩) pss := by
  intro _
  refine ⟨N, 0, rfl, fun i hi => ?_⟩
  obtain ⟨a', cap', hc, hb⟩ := h i hi
  refine ⟨a', cap', ?_, bysA_alloc hb _⟩
  rw [cell_at _ _ _ _ _ _ hN]
  simpa using hc

theorem bysA_nil (W : World) (a : Option Addr) : BysA W a [] := fun h => absurd rfl h

theorem byt_take {bs : List Int} (h : Byt bs) (k : Nat) : Byt (bs.take k) := by
  intro i
  have := h i
  simp only [List.getD_eq_getElem?_getD, List.getElem?_take] at this ⊢
  split
  · exact this
  · simp
theorem byt_drop {bs : List Int} (h : Byt bs) (k : Nat) : Byt (bs.drop k) := by
  intro i
  have := h (k + i)
  simpa only [List.getD_eq_getElem?_getD, List.getElem?_drop] using this

theorem bysA_take {W : World} {a : Option Addr} {bs : List Int} (h : BysA W a bs) (k : Nat) : BysA W a (bs.take k) := by
  intro hne
  obtain ⟨b, off, ha, hc⟩ := h (by rintro rfl; simp at hne)
  refine ⟨b, off, ha, fun i hi => ?_⟩
  have hi' : i < bs.length ∧ i < k := by simp at hi; omega
  rw [hc i hi'.1, List.getD_eq_getElem?_getD, List.getD_eq_getElem?_getD, List.getElem?_take, if_pos hi'.2]

theorem bysA_drop {W : World} {b off : Nat} {bs : List Int} (h : BysA W (some ⟨b, off, none⟩) bs) (k cap : Nat) (hc : bs.length ≤ cap) :
    BysA W (if cap = k then some ⟨b, off, none⟩ else some ⟨b, off + k, none⟩) (bs.drop k) := by
  intro hne
  have hlt : k < bs.length := by
    rcases Nat.lt_or_ge k bs.length with h | h
    · exact h
    · exact absurd (List.drop_of_length_le h) hne
  rw [if_neg (by omega)]
  obtain ⟨b', off', ha, hcl⟩ := h (by rintro rfl; simp at hlt)
  cases ha
  refine ⟨b, off + k, rfl, fun i hi => ?_⟩
  have hi' : k + i < bs.length := by simp at hi; omega
  rw [Nat.add_assoc, hcl (k + i) hi', List.getD_eq_getElem?_getD, List.getD_eq_getElem?_getD, List.getElem?_drop]

theorem byts_one {bs : List Int} (h : Byt bs) (hl : bs.length ≤ 20000) : Byts [bs] := byts_of (by simp only [List.mem_singleton, forall_eq]; exact ⟨h, maxLen_ge _ (by omega)⟩)
theorem byts_two {b1 b2 : List Int} (h1 : Byt b1) (hl1 : b1.length ≤ 20000) (h2 : Byt b2) (hl2 : b2.length ≤ 20000) : Byts [b1, b2] :=
  byts_of (by simp only [List.mem_cons, List.not_mem_nil, or_false, forall_eq_or_imp, forall_eq]; exact ⟨⟨h1, maxLen_ge _ (by omega)⟩, ⟨h2, maxLen_ge _ (by omega)⟩⟩)
theorem byt_nil : Byt [] := fun i => by simp
theorem byts_four {b1 b2 : List Int} (h1 : Byt b1) (hl1 : b1.length ≤ 20000) (h2 : Byt b2) (hl2 : b2.length ≤ 20000) : Byts [b1, [], b2, []] :=
  byts_of (by simp only [List.mem_cons, List.not_mem_nil, or_false, forall_eq_or_imp, forall_eq]; exact ⟨⟨h1, maxLen_ge _ (by omega)⟩, ⟨byt_nil, maxLen_ge _ (by simp)⟩, ⟨h2, maxLen_ge _ (by omega)⟩, ⟨byt_nil, maxLen_ge _ (by simp)⟩⟩)

theorem e_two (bs : List Int) (k : Nat) : sums 1 [bs.take k, bs.drop k] = sums 1 [bs] := by
  rw [sums_flat _ _ fine_one, sums_flat _ _ fine_one]; simp
theorem e_four (bs : List Int) (k : Nat) : sums 1 [bs.take k, [], bs.drop k, []] = sums 1 [bs] := by
  rw [sums_flat _ _ fine_one, sums_flat _ _ fine_one]; simp
theorem e_more (bs : List Int) (k : Nat) : more (sums 1 [bs.take k]) (bs.drop k) = sums 1 [bs] := by
  rw [sums_flat _ _ fine_one, sums_flat _ _ fine_one, ← more_append]; simp

theorem sum2 {bs : List Int} (k : Nat) (hB : Byt bs) (h : bs.length ≤ 20000) (W : World) (N : Nat) (hp : PartsA W (some ⟨N, 0, none⟩) [bs.take k, bs.drop k]) :
    Calls Try.prog 11 #[.slice (some ⟨N, 0, none⟩) 2 2] W fun e w' => e = .returned (.int .u32 (sums 1 [bs])) ∧ w' = W := by
  rw [← e_two bs k]
  exact sum_any (some ⟨N, 0, none⟩) [bs.take k, bs.drop k] 2 W hp (byts_two (byt_take hB k) (by simp; omega) (byt_drop hB k) (by simp; omega)) (maxLen_ge _ (by simp))
theorem sum4 {bs : List Int} (k : Nat) (hB : Byt bs) (h : bs.length ≤ 20000) (W : World) (N : Nat) (hp : PartsA W (some ⟨N, 0, none⟩) [bs.take k, [], bs.drop k, []]) :
    Calls Try.prog 11 #[.slice (some ⟨N, 0, none⟩) 4 4] W fun e w' => e = .returned (.int .u32 (sums 1 [bs])) ∧ w' = W := by
  rw [← e_four bs k]
  exact sum_any (some ⟨N, 0, none⟩) [bs.take k, [], bs.drop k, []] 4 W hp (byts_four (byt_take hB k) (by simp; omega) (byt_drop hB k) (by simp; omega)) (maxLen_ge _ (by simp))
theorem sum1 {bs : List Int} (hB : Byt bs) (h : bs.length ≤ 20000) (W : World) (N : Nat) (hp : PartsA W (some ⟨N, 0, none⟩) [bs]) :
    Calls Try.prog 11 #[.slice (some ⟨N, 0, none⟩) 1 1] W fun e w' => e = .returned (.int .u32 (sums 1 [bs])) ∧ w' = W :=
  sum_any (some ⟨N, 0, none⟩) [bs] 1 W hp (byts_one hB (by omega)) (maxLen_ge _ (by simp))
theorem mored {bs : List Int} (k : Nat) (hB : Byt bs) (h : bs.length ≤ 20000) (u : Int) (hu : u = sums 1 [bs.take k]) (A : Option Addr) (cap : Nat) (W : World) (hp : BysA W A (bs.drop k)) :
    Calls Try.prog 9 #[.int .u32 u, .slice A (bs.length - k) cap] W fun e w' => e = .returned (.int .u32 (sums 1 [bs])) ∧ w' = W := by
  rw [← e_more bs k, ← hu, ← List.length_drop]
  exact more_any u (by rw [hu]; exact sums_lim _ _ (by omega)) A (bs.drop k) cap W hp (byt_drop hB k) (maxLen_ge _ (by simp; omega))

theorem part1 {w0 : World} {b off cap0 k : Nat} {bs : List Int} (hk : k ≤ bs.length) (ht : BysA w0 (some ⟨b, off, none⟩) (bs.take k)) (W : World) (N : Nat) (hW : Below w0.heap.size w0 W) (hN : N = W.heap.size) :
    PartsA (W.alloc (.cells #[.slice (some ⟨b, off, none⟩) k cap0] 26)) (some ⟨N, 0, none⟩) [bs.take k] := by
  have lt : (bs.take k).length = k := by simp; omega
  refine parts_new (cs := [_]) hN (fun i hi => ?_)
  have : i = 0 := by simpa using hi
  subst this
  exact ⟨some ⟨b, off, none⟩, cap0, by show some (Value.slice _ k _) = some (Value.slice _ (bs.take k).length _); rw [lt], bysA_below ht hW⟩

theorem part2 {w0 : World} {b off cap0 cap1 k : Nat} {A : Option Addr} {bs : List Int} (hk : k ≤ bs.length) (ht : BysA w0 (some ⟨b, off, none⟩) (bs.take k)) (hd : BysA w0 A (bs.drop k)) (W : World) (N : Nat) (hW : Below w0.heap.size w0 W) (hN : N = W.heap.size) :
    PartsA (W.alloc (.cells #[.slice (some ⟨b, off, none⟩) k cap0, .slice A (bs.length - k) cap1] 26)) (some ⟨N, 0, none⟩) [bs.take k, bs.drop k] := by
  have lt : (bs.take k).length = k := by simp; omega
  have ld : (bs.drop k).length = bs.length - k := by simp
  refine parts_new (cs := [_, _]) hN (fun i hi => ?_)
  have : i = 0 ∨ i = 1 := by simp at hi; omega
  rcases this with rfl | rfl
  · exact ⟨some ⟨b, off, none⟩, cap0, by show some (Value.slice _ k _) = some (Value.slice _ (bs.take k).length _); rw [lt], bysA_below ht hW⟩
  · exact ⟨A, cap1, by show some (Value.slice _ (bs.length - k) _) = some (Value.slice _ (bs.drop k).length _); rw [ld], bysA_below hd hW⟩

theorem part4 {w0 : World} {b off cap0 cap1 k : Nat} {A : Option Addr} {bs : List Int} (hk : k ≤ bs.length) (ht : BysA w0 (some ⟨b, off, none⟩) (bs.take k)) (hd : BysA w0 A (bs.drop k)) (W : World) (N : Nat) (hW : Below w0.heap.size w0 W) (hN : N = W.heap.size) :
    PartsA (W.alloc (.cells #[.slice (some ⟨b, off, none⟩) k cap0, .slice none 0 0, .slice A (bs.length - k) cap1, .slice none 0 0] 26)) (some ⟨N, 0, none⟩) [bs.take k, [], bs.drop k, []] := by
  have lt : (bs.take k).length = k := by simp; omega
  have ld : (bs.drop k).length = bs.length - k := by simp
  refine parts_new (cs := [_, _, _, _]) hN (fun i hi => ?_)
  have : i = 0 ∨ i = 1 ∨ i = 2 ∨ i = 3 := by simp at hi; omega
  rcases this with rfl | rfl | rfl | rfl
  · exact ⟨some ⟨b, off, none⟩, cap0, by show some (Value.slice _ k _) = some (Value.slice _ (bs.take k).length _); rw [lt], bysA_below ht hW⟩
  · exact ⟨none, 0, rfl, bysA_nil _ _⟩
  · exact ⟨A, cap1, by show some (Value.slice _ (bs.length - k) _) = some (Value.slice _ (bs.drop k).length _); rw [ld], bysA_below hd hW⟩
  · exact ⟨none, 0, rfl, bysA_nil _ _⟩

set_option maxHeartbeats 400000 in
theorem parts_walk (b off : Nat) (bs : List Int) (cap0 : Nat) (a1 : Int) (ha1 : -9223372036854775808 ≤ a1 ∧ a1 ≤ 9223372036854775807) (w : World) (hb : BysA w (some ⟨b, off, none⟩) bs) (hB : Byt bs) (h : bs.length ≤ 20000) (hc : bs.length ≤ cap0) (hm : cap0 ≤ maxLen) :
    Calls Try.prog 4 #[.slice (some ⟨b, off, none⟩) bs.length cap0, .int .i64 a1] w fun e w' => e = .returned (.bool true) ∧ Below w.heap.size w w' := by
  have hml : maxLen = 9223372036854775807 := rfl
  rw [hml] at hm
  clear hml
  have h' : ¬ (20000 : Int) < (bs.length : Int) := by omega
  have hlc : (bs.length : Int) ≤ (cap0 : Int) := by omega
  go_enter Try.func4, Try.ntmps4
  go_wp2_with fail
  refine (mod_any a1 (bs.length + 1) ha1 (by omega) _).mono ?_
  rintro e w0 ⟨rfl, hw0⟩
  subst hw0
  obtain ⟨k, hk, hkl⟩ : ∃ k : Nat, a1 % ((bs.length : Int) + 1) = (k : Int) ∧ k ≤ bs.length := by
    have h1 := Int.emod_nonneg a1 (show ((bs.length : Int) + 1) ≠ 0 by omega)
    have h2 := Int.emod_lt_of_pos a1 (show 0 < ((bs.length : Int) + 1) by omega)
    exact ⟨(a1 % ((bs.length : Int) + 1)).toNat, by omega, by omega⟩
  rw [hk]
  clear hk
  go_wp2_with fail
  refine (sum_any (some ⟨w0.heap.size, 0, none⟩) [bs] 1 _ ?_ ?_ ?_).mono ?_
  · exact parts_new (cs := [_]) rfl (fun i hi => by
      have : i = 0 := by simpa using hi
      subst this
      exact ⟨_, _, rfl, hb⟩)
  · exact byts_one hB h
  · exact maxLen_ge _ (by simp)
  rintro e w1 ⟨rfl, hw1⟩
  have b1 : Below w0.heap.size w0 w1 := by rw [hw1]; exact (Below.refl _ _).alloc (Nat.le_refl _) _
  clear hw1
  have k0 : (0 : Int) ≤ (k : Int) := by omega
  have k1 : (k : Int) ≤ (bs.length : Int) := by omega
  have k2 : (k : Int) ≤ (cap0 : Int) := by omega
  have hd := bysA_drop hb k cap0 hc
  have ht := bysA_take hb k
  obtain ⟨A, hA⟩ : ∃ A, (if cap0 = k then some ⟨b, off, none⟩ else some ⟨b, off + k, none⟩) = (A : Option Addr) := ⟨_, rfl⟩
  rw [hA] at hd
  obtain ⟨u, hu⟩ : ∃ u, u = sums 1 [bs.take k] := ⟨_, rfl⟩
  obtain ⟨t, ht'⟩ : ∃ t, t = sums 1 [bs] := ⟨_, rfl⟩
  have C2 := hide (fun W N (hW : Below w0.heap.size w0 W) hp => (sum2 k hB h W N hp).mono (fun e w' (hh : _ ∧ w' = W) => (⟨hh.1, hh.2 ▸ hW⟩ : _ ∧ Below w0.heap.size w0 w')))
  have C4 := hide (fun W N (hW : Below w0.heap.size w0 W) hp => (sum4 k hB h W N hp).mono (fun e w' (hh : _ ∧ w' = W) => (⟨hh.1, hh.2 ▸ hW⟩ : _ ∧ Below w0.heap.size w0 w')))
  have C1 := hide (fun W N (hW : Below w0.heap.size w0 W) hp => (sum1 (byt_take hB k) (by simp; omega) W N hp).mono (fun e w' (hh : _ ∧ w' = W) => (⟨hh.1, hh.2 ▸ hW⟩ : _ ∧ Below w0.heap.size w0 w')))
  have CM := hide (fun W (hW : Below w0.heap.size w0 W) hp => (mored k hB h u hu A (cap0 - k) W hp).mono (fun e w' (hh : _ ∧ w' = W) => (⟨hh.1, hh.2 ▸ hW⟩ : _ ∧ Below w0.heap.size w0 w')))
  have CW := hide (fun W (hW : Below w0.heap.size w0 W) => (wakes_any W).mono (fun e w' hh => (⟨hh.1, hW.trans (hh.2.mono hW.size)⟩ : _ ∧ Below w0.heap.size w0 w')))
  rw [← ht'] at C2 C4 CM
  rw [← hu] at C1
  go_wp2_with fail
  rw [← ht']
  clear hu ht'
  have HT := hide ht
  have HD := hide hd
  clear ht hd hb hB
  go_region_held3 (fun w' => Below w0.heap.size w0 w') (repeat (first | assumption | apply Below.drew | apply below_alloc))
    (first
      | (go_at_call_of 11 (2 : Nat); refine (unhide C2 _ _ ?_ ?_).mono ?_; (assumption); (exact partsA_drew (part2 hkl (unhide HT) (unhide HD) _ _ (by assumption) rfl)); (rintro e w' ⟨rfl, hbel⟩))
      | (go_at_call_of 11 (4 : Nat); refine (unhide C4 _ _ ?_ ?_).mono ?_; (assumption); (exact part4 hkl (unhide HT) (unhide HD) _ _ (by assumption) rfl); (rintro e w' ⟨rfl, hbel⟩))
      | (go_at_call_of 11 (1 : Nat); refine (unhide C1 _ _ ?_ ?_).mono ?_; (assumption); (exact part1 hkl (unhide HT) _ _ (by assumption) rfl); (rintro e w' ⟨rfl, hbel⟩))
      | (go_at_call 9; refine (unhide CM _ ?_ ?_).mono ?_; (assumption); (exact bysA_below (unhide HD) (by assumption)); (rintro e w' ⟨rfl, hbel⟩))
      | (go_at_call 8; refine (unhide CW _ ?_).mono ?_; (assumption); (rintro e w' ⟨rfl, hbel⟩)))
  all_goals go_wp2
  all_goals go_ret
  all_goals exact ⟨rfl, by assumption⟩
end Go.Proofs.Ytfbebnddedkcbaa
