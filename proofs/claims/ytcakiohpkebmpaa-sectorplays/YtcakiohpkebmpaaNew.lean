/- Contracts: a new disk, of the program and of the reference. -/
import Derived.Test.YtcakiohpkebmpaaStep
namespace Go.Proofs.Ytcakiohpkebmpaa
open Go.RowKit
set_option linter.unusedVariables false

theorem ret_pair {x y : Value} {a b : Value} (h : x = a) (k : y = b) : Ending.returned (.tuple #[x, y]) = .returned (.tuple #[a, b]) := by rw [h, k]

theorem made_get (n k : Nat) (h : k < n * 64) : (madeCells (sv zeroS).cells (n * 64)).toList[k]? = some (.int .u8 0) := by
  have hs : (sv zeroS).cells = Array.replicate 64 (.int .u8 0) := by rw [sv_cells]; unfold zeroS; rw [bytes_full, List.toArray_replicate]
  rw [hs]
  unfold madeCells
  rw [Array.getElem?_toList, Array.getElem?_map, Array.getElem?_range, if_pos h]
  have h64 : k % 64 < 64 := Nat.mod_lt _ (by omega)
  simp only [Option.map_some, Array.size_replicate, Option.some.injEq]
  rw [getElem!_pos _ _ (by rw [Array.size_replicate]; exact h64), Array.getElem_replicate]

/-- The row that 'make' has made: n sectors of 0. -/
theorem secs_made {w : World} {base g n : Nat} (h : w.ownsRow base 36 64 (.slice (some ⟨g, 0, none⟩) n n) n (madeCells (sv zeroS).cells (n * 64)).toList) : SecsAt w 36 g (List.replicate n zeroS) := by
  rcases h.2 with ⟨h1, _⟩ | ⟨g', cap, cur, hv, hb, hg, hnc, hcm, hcs, htk⟩
  · cases h1
  · obtain ⟨rfl, rfl⟩ : g' = g ∧ cap = n := by
      simp only [Value.slice.injEq, Option.some.injEq, Addr.mk.injEq] at hv
      exact ⟨hv.1.1.symm, hv.2.2.symm⟩
    refine ⟨⟨cur, hg, by rw [List.length_replicate]; exact hcs⟩, fun i s hs => ?_⟩
    have hi : i < cap := by have := (List.getElem?_eq_some_iff.1 hs).1; simpa using this
    obtain rfl : s = zeroS := by rw [List.getElem?_replicate, if_pos hi] at hs; exact (Option.some.inj hs).symm
    intro j v hv
    have hj : j < 64 := by have := (List.getElem?_eq_some_iff.1 hv).1; rwa [bytes_len] at this
    rw [cell_of_row w g' (i * 64 + j) cur 36 (0, 0) hg]
    have h2 := made_get cap (i * 64 + j) (by omega)
    rw [← htk, List.getElem?_take] at h2
    have hlt : i * 64 + j < cap * 64 := by omega
    rw [if_pos hlt] at h2
    have h3 : v = .int .u8 0 := by
      unfold zeroS at hv
      rw [bytes_full, List.getElem?_replicate, if_pos hj] at hv
      exact (Option.some.inj hv).symm
    rw [h3]
    simpa using h2

theorem dsk_new {tD tW : TypeId} {w w1 : World} {n : Nat} (hn : n ≤ 4096) (ho : w1.ownsRow w.heap.size 36 64 (.slice (some ⟨w.heap.size, 0, none⟩) n n) n (madeCells (sv zeroS).cells (n * 64)).toList) (hg : w.grownBy w1 none) :
    Dsk tD tW (w1.alloc (.cells #[.slice (some ⟨w.heap.size, 0, none⟩) n n, .slice none 0 0] tD)) w.heap.size w1.heap.size w.heap.size (List.replicate n zeroS) [] ∧ Below w.heap.size w (w1.alloc (.cells #[.slice (some ⟨w.heap.size, 0, none⟩) n n, .slice none 0 0] tD)) := by
  have hs := secs_made ho
  refine ⟨⟨.slice none 0 0, ?_, hg.size, Nat.le_refl _, hs.below (below_alloc (Below.refl _ _) _), World.ownsRow_nil _ _ _ _, by simp, by simpa using hn⟩, ?_⟩
  · rw [List.length_replicate]; exact heap_alloc_last _ _
  · refine ⟨hg.os, hg.tape, hg.output, by have := hg.size; simp; omega, fun k hk => ?_⟩
    rw [Below.heap_alloc _ _ _ (by have := hg.size; omega)]
    exact hg.block k hk (by simp)

theorem new_yes (n : Nat) (h1 : 1 ≤ n) (h2 : n ≤ 4096) (w : World) :
    Calls Try.prog 10 #[.int .i64 n] w fun e w' => ∃ g gs, e = .returned (.tuple #[.pointer (some ⟨g, 0, none⟩), .int .i64 0]) ∧ Dsk 62 65 w' w.heap.size g gs (List.replicate n zeroS) [] ∧ Below w.heap.size w w' := by
  obtain ⟨i36, hi36, hz0, hz1, hz2⟩ := info_parts Try.info36
  obtain ⟨i', hi', hz36⟩ := Try.zero36
  obtain rfl : i' = i36 := by rw [hi36] at hi'; exact (Option.some.inj hi').symm
  clear hi' hz0
  have g1 : ¬ (n : Int) < 1 := by omega
  have g2 : ¬ (4096 : Int) < (n : Int) := by omega
  go_enter Try.func10, Try.ntmps10
  go_wp2_with (first
    | (at_make; refine wpList_make_full _ rfl _ _ 47 rfl w.heap.size 36 i' (sv zeroS) 64 Try.underlying47 hi36 hz36 hz1 _ _ _ _ n rfl rfl rfl rfl (by rw [hz2]; omega) (maxLen_ge _ (by omega)) (Nat.le_refl _) ?_; intro w1 hown hgrow))
  go_ret2
  exact ⟨_, rfl, ⟨_, (dsk_new h2 hown hgrow).1⟩, (dsk_new (tW := 65) h2 hown hgrow).2⟩

theorem new_no (n : Int) (h : n < 1 ∨ 4096 < n) (w : World) :
    Calls Try.prog 10 #[.int .i64 n] w fun e w' => e = .returned (.tuple #[.pointer none, .int .i64 1]) ∧ w' = w := by
  by_cases h1 : n < 1
  · go_enter Try.func10, Try.ntmps10
    go_wp2
    go_ret2
    exact ⟨rfl, rfl⟩
  · have h2 : 4096 < n := by omega
    go_enter Try.func10, Try.ntmps10
    go_wp2
    go_ret2
    exact ⟨rfl, rfl⟩

theorem rnew_yes (n : Nat) (h1 : 1 ≤ n) (h2 : n ≤ 4096) (w : World) :
    Calls Try.prog 11 #[.int .i64 n] w fun e w' => ∃ g gs, e = .returned (.tuple #[.pointer (some ⟨g, 0, none⟩), .int .i64 0]) ∧ Dsk 50 67 w' w.heap.size g gs (List.replicate n zeroS) [] ∧ Below w.heap.size w w' := by
  obtain ⟨i36, hi36, hz0, hz1, hz2⟩ := info_parts Try.info36
  obtain ⟨i', hi', hz36⟩ := Try.zero36
  obtain rfl : i' = i36 := by rw [hi36] at hi'; exact (Option.some.inj hi').symm
  clear hi' hz0
  have g1 : ¬ (n : Int) < 1 := by omega
  have g2 : ¬ (4096 : Int) < (n : Int) := by omega
  go_enter Try.func11, Try.ntmps11
  go_wp2_with (first
    | (at_make; refine wpList_make_full _ rfl _ _ 47 rfl w.heap.size 36 i' (sv zeroS) 64 Try.underlying47 hi36 hz36 hz1 _ _ _ _ n rfl rfl rfl rfl (by rw [hz2]; omega) (maxLen_ge _ (by omega)) (Nat.le_refl _) ?_; intro w1 hown hgrow))
  go_ret2
  exact ⟨_, rfl, ⟨_, (dsk_new h2 hown hgrow).1⟩, (dsk_new (tW := 67) h2 hown hgrow).2⟩

theorem rnew_no (n : Int) (h : n < 1 ∨ 4096 < n) (w : World) :
    Calls Try.prog 11 #[.int .i64 n] w fun e w' => e = .returned (.tuple #[.pointer none, .int .i64 1]) ∧ w' = w := by
  by_cases h1 : n < 1
  · go_enter Try.func11, Try.ntmps11
    go_wp2
    go_ret2
    exact ⟨rfl, rfl⟩
  · have h2 : 4096 < n := by omega
    go_enter Try.func11, Try.ntmps11
    go_wp2
    go_ret2
    exact ⟨rfl, rfl⟩
end Go.Proofs.Ytcakiohpkebmpaa
