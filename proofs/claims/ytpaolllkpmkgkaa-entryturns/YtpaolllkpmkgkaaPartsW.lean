/- The walk of TallyParts. -/
import Derived.Test.YtpaolllkpmkgkaaWakes
import Derived.Deep.RegionHeld3
import Derived.Deep.DrawnRows
import Derived.Laws.Slices
namespace Go.Proofs.Ytpaolllkpmkgkaa
open Go.RowKit
set_option linter.unusedVariables false
attribute [local go_sem ↓] Go.wp_at_zero Go.wp_at_succ

theorem bysA_below {w0 W : World} {a : Option Addr} {bs : List Int} (h : BysA w0 a bs) (hb : Below w0.heap.size w0 W) : BysA W a bs := by
  intro hne
  obtain ⟨b, off, ha, hc⟩ := h hne
  exact ⟨b, off, ha, fun i hi => by rw [hb.cell (World.block_lt_of_cell? _ _ (hc i hi))]; exact hc i hi⟩

theorem bysA_alloc {W : World} {a : Option Addr} {bs : List Int} (h : BysA W a bs) (o : Obj) : BysA (W.alloc o) a bs := by
  intro hne
  obtain ⟨b, off, ha, hc⟩ := h hne
  exact ⟨b, off, ha, fun i hi => cell_past o (hc i hi)⟩

theorem partsA_drew {w : World} {a : Option Addr} {pss : List (List Int)} (h : PartsA w a pss) : PartsA w.drew a pss := by
  intro hne
  obtain ⟨b, off, ha, hc⟩ := h hne
  exact ⟨b, off, ha, fun i hi => hc i hi⟩

/-- A new block whose cells are slices: its parts. -/
theorem parts_new {W : World} {t : TypeId} {cs : List Value} {pss : List (List Int)} {N : Nat} (hN : N = W.heap.size)
    (h : ∀ i, i < pss.length → ∃ a' cap', cs[i]? = some (.slice a' (pss.getD i []).length cap') ∧ BysA W a' (pss.getD i [])) :
    PartsA (W.alloc (.cells cs.toArray t)) (some ⟨N, 0, none⟩) pss := by
  intro _
  refine ⟨N, 0, rfl, fun i hi => ?_⟩
  obtain ⟨a', cap', hc, hb⟩ := h i hi
  refine ⟨a', cap', ?_, bysA_alloc hb _⟩
  rw [cell_at _ _ _ _ _ _ hN]
  simpa using hc

theorem bysA_nil (W : World) (a : Option Addr) : BysA W a [] := fun h => absurd rfl h

theorem byt_take {bs : List Int} (h : Byt bs) (k : Nat) : Byt (bs.take k) := by
  intro i
  have := h i
  simp only [List.getD_eq_getElem?_getD, List.getElem?_take] at this ⊢
  split
  · exact this
  · simp
theorem byt_drop {bs : List Int} (h : Byt bs) (k : Nat) : Byt (bs.drop k) := by
  intro i
  have := h (k + i)
  simpa only [List.getD_eq_getElem?_getD, List.getElem?_drop] using this

theorem bysA_take {W : World} {a : Option Addr} {bs : List Int} (h : BysA W a bs) (k : Nat) : BysA W a (bs.take k) := by
  intro hne
  obtain ⟨b, off, ha, hc⟩ := h (by rintro rfl; simp at hne)
  refine ⟨b, off, ha, fun i hi => ?_⟩
  have hi' : i < bs.length ∧ i < k := by simp at hi; omega
  rw [hc i hi'.1, List.getD_eq_getElem?_getD, List.getD_eq_getElem?_getD, List.getElem?_take, if_pos hi'.2]

theorem bysA_drop {W : World} {b off : Nat} {bs : List Int} (h : BysA W (some ⟨b, off, none⟩) bs) (k cap : Nat) (hc : bs.length ≤ cap) :
    BysA W (if cap = k then some ⟨b, off, none⟩ else some ⟨b, off + k, none⟩) (bs.drop k) := by
  intro hne
  have hlt : k < bs.length := by
    rcases Nat.lt_or_ge k bs.length with h | h
    · exact h
    · exact absurd (List.drop_of_length_le h) hne
  rw [if_neg (by omega)]
  obtain ⟨b', off', ha, hcl⟩ := h (by rintro rfl; simp at hlt)
  cases ha
  refine ⟨b, off + k, rfl, fun i hi => ?_⟩
  have hi' : k + i < bs.length := by simp at hi; omega
  rw [Nat.add_assoc, hcl (k + i) hi', List.getD_eq_getElem?_getD, List.getD_eq_getElem?_getD, List.getElem?_drop]

theorem byts_one {bs : List Int} (h : Byt bs) (hl : bs.length ≤ 20000) : Byts [bs] := byts_of (by simp only [List.mem_singleton, forall_eq]; exact ⟨h, maxLen_ge _ (by omega)⟩)
theorem byts_two {b1 b2 : List Int} (h1 : Byt b1) (hl1 : b1.length ≤ 20000) (h2 : Byt b2) (hl2 : b2.length ≤ 20000) : Byts [b1, b2] :=
  byts_of (by simp only [List.mem_cons, List.not_mem_nil, or_false, forall_eq_or_imp, forall_eq]; exact ⟨⟨h1, maxLen_ge _ (by omega)⟩, ⟨h2, maxLen_ge _ (by omega)⟩⟩)
theorem byt_nil : Byt [] := fun i => by simp
theorem byts_four {b1 b2 : List Int} (h1 : Byt b1) (hl1 : b1.length ≤ 20000) (h2 : Byt b2) (hl2 : b2.length ≤ 20000) : Byts [b1, [], b2, []] :=
  byts_of (by simp only [List.mem_cons, List.not_mem_nil, or_false, forall_eq_or_imp, forall_eq]; exact ⟨⟨h1, maxLen_ge _ (by omega)⟩, ⟨byt_nil, maxLen_ge _ (by simp)⟩, ⟨h2, maxLen_ge _ (by omega)⟩, ⟨byt_nil, maxLen_ge _ (by simp)⟩⟩)

theorem e_two (bs : List Int) (k : Nat) : sums 1 [bs.take k, bs.drop k] = sums 1 [bs] := by
  rw [sums_flat _ _ fine_one, sums_flat _ _ fine_one]; simp
theorem e_four (bs : List Int) (k : Nat) : sums 1 [bs.take k, [], bs.drop k, []] = sums 1 [bs] := by
  rw [sums_flat _ _ fine_one, sums_flat _ _ fine_one]; simp
theorem e_more (bs : List Int) (k : Nat) : more (sums 1 [bs.take k]) (bs.drop k) = sums 1 [bs] := by
  rw [sums_flat _ _ fine_one, sums_flat _ _ fine_one, ← more_append]; simp

theorem sum2 {bs : List Int} (k : Nat) (hB : Byt bs) (h : bs.length ≤ 20000) (W : World) (N : Nat) (hp : PartsA W (some ⟨N, 0, none⟩) [bs.take k, bs.drop k]) :
    Calls Try.prog 63 #[.slice (some ⟨N, 0, none⟩) 2 2] W fun e w' => e = .returned (.int .u32 (sums 1 [bs])) ∧ w' = W := by
  rw [← e_two bs k]
  exact sum_any (some ⟨N, 0, none⟩) [bs.take k, bs.drop k] 2 W hp (byts_two (byt_take hB k) (by simp; omega) (byt_drop hB k) (by simp; omega)) (maxLen_ge _ (by simp))
theorem sum4 {bs : List Int} (k : Nat) (hB : Byt bs) (h : bs.length ≤ 20000) (W : World) (N : Nat) (hp : PartsA W (some ⟨N, 0, none⟩) [bs.take k, [], bs.drop k, []]) :
    Calls Try.prog 63 #[.slice (some ⟨N, 0, none⟩) 4 4] W fun e w' => e = .returned (.int .u32 (sums 1 [bs])) ∧ w' = W := by
  rw [← e_four bs k]
  exact sum_any (some ⟨N, 0, none⟩) [bs.take k, [], bs.drop k, []] 4 W hp (byts_four (byt_take hB k) (by simp; omega) (byt_drop hB k) (by simp; omega)) (maxLen_ge _ (by simp))
theorem sum1 {bs : List Int} (hB : Byt bs) (h : bs.length ≤ 20000) (W : World) (N : Nat) (hp : PartsA W (some ⟨N, 0, none⟩) [bs]) :
    Calls Try.prog 63 #[.slice (some ⟨N, 0, none⟩) 1 1] W fun e w' => e = .returned (.int .u32 (sums 1 [bs])) ∧ w' = W :=
  sum_any (some ⟨N, 0, none⟩) [bs] 1 W hp (byts_one hB (by omega)) (maxLen_ge _ (by simp))
theorem mored {bs : List Int} (k : Nat) (hB : Byt bs) (h : bs.length ≤ 20000) (u : Int) (hu : u = sums 1 [bs.take k]) (A : Option Addr) (cap : Nat) (W : World) (hp : BysA W A (bs.drop k)) :
    Calls Try.prog 77 #[.int .u32 u, .slice A (bs.length - k) cap] W fun e w' => e = .returned (.int .u32 (sums 1 [bs])) ∧ w' = W := by
  rw [← e_more bs k, ← hu, ← List.length_drop]
  exact more_any u (by rw [hu]; exact sums_lim _ _ (by omega)) A (bs.drop k) cap W hp (byt_drop hB k) (maxLen_ge _ (by simp; omega))

theorem part1 {w0 : World} {b off cap0 k : Nat} {bs : List Int} (hk : k ≤ bs.length) (ht : BysA w0 (some ⟨b, off, none⟩) (bs.take k)) (W : World) (N : Nat) (hW : Below w0.heap.size w0 W) (hN : N = W.heap.size) :
    PartsA (W.alloc (.cells #[.slice (some ⟨b, off, none⟩) k cap0] 23)) (some ⟨N, 0, none⟩) [bs.take k] := by
  have lt : (bs.take k).length = k := by simp; omega
  refine parts_new (cs := [_]) hN (fun i hi => ?_)
  have : i = 0 := by simpa using hi
  subst this
  exact ⟨some ⟨b, off, none⟩, cap0, by show some (Value.slice _ k _) = some (Value.slice _ (bs.take k).length _); rw [lt], bysA_below ht hW⟩

theorem part2 {w0 : World} {b off cap0 cap1 k : Nat} {A : Option Addr} {bs : List Int} (hk : k ≤ bs.length) (ht : BysA w0 (some ⟨b, off, none⟩) (bs.take k)) (hd : BysA w0 A (bs.drop k)) (W : World) (N : Nat) (hW : Below w0.heap.size w0 W) (hN : N = W.heap.size) :
    PartsA (W.alloc (.cells #[.slice (some ⟨b, off, none⟩) k cap0, .slice A (bs.length - k) cap1] 23)) (some ⟨N, 0, none⟩) [bs.take k, bs.drop k] := by
  have lt : (bs.take k).length = k := by simp; omega
  have ld : (bs.drop k).length = bs.length - k := by simp
  refine parts_new (cs := [_, _]) hN (fun i hi => ?_)
  have : i = 0 ∨ i = 1 := by simp at hi; omega
  rcases this with rfl | rfl
  · exact ⟨some ⟨b, off, none⟩, cap0, by show some (Value.slice _ k _) = some (Value.slice _ (bs.take k).length _); rw [lt], bysA_below ht hW⟩
  · exact ⟨A, cap1, by show some (Value.slice _ (bs.length - k) _) = some (Value.slice _ (bs.drop k).length _); rw [ld], bysA_below hd hW⟩

theorem part4 {w0 : World} {b off cap0 cap1 k : Nat} {A : Option Addr} {bs : List Int} (hk : k ≤ bs.length) (ht : BysA w0 (some ⟨b, off, none⟩) (bs.take k)) (hd : BysA w0 A (bs.drop k)) (W : World) (N : Nat) (hW : Below w0.heap.size w0 W) (hN : N = W.heap.size) :
    PartsA (W.alloc (.cells #[.slice (some ⟨b, off, none⟩) k cap0, .slice none 0 0, .slice A (bs.length - k) cap1, .slice none 0 0] 23)) (some ⟨N, 0, none⟩) [bs.take k, [], bs.drop k, []] := by
  have lt : (bs.take k).length = k := by simp; omega
  have ld : (bs.drop k).length = bs.length - k := by simp
  refine parts_new (cs := [_, _, _, _]) hN (fun i hi => ?_)
  have : i = 0 ∨ i = 1 ∨ i = 2 ∨ i = 3 := by simp at hi; omega
  rcases this with rfl | rfl | rfl | rfl
  · exact ⟨some ⟨b, off, none⟩, cap0, by show some (Value.slice _ k _) = some (Value.slice _ (bs.take k).length _); rw [lt], bysA_below ht hW⟩
  · exact ⟨none, 0, rfl, bysA_nil _ _⟩
  · exact ⟨A, cap1, by show some (Value.slice _ (bs.length - k) _) = some (Value.slice _ (bs.drop k).length _); rw [ld], bysA_below hd hW⟩
  · exact ⟨none, 0, rfl, bysA_nil _ _⟩

end Go.Proofs.Ytpaolllkpmkgkaa
