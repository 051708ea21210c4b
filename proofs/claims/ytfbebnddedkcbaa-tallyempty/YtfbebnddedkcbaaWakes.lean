/- What the laws' own 'wakes' comes to: true; old memory is as it was. -/
import Derived.Test.YtfbebnddedkcbaaMore
import Derived.Lib.SlBytesConst
namespace Go.Proofs.Ytfbebnddedkcbaa
open Go.RowKit
set_option linter.unusedVariables false
set_option linter.unusedSimpArgs false

theorem s0 : sums 1 [] = 1 := by decide
theorem s1 : sums 1 [[97]] = 6422626 := by decide +kernel
theorem s2 : sums 1 [[87, 105, 107, 105], [112, 101, 100, 105, 97]] = 300286872 := by decide +kernel
theorem s3 : more 1 [97] = 6422626 := by decide +kernel

theorem byt_of {bs : List Int} (h : ∀ x ∈ bs, 0 ≤ x ∧ x ≤ 255) : Byt bs := by
  intro i
  rw [List.getD_eq_getElem?_getD]
  by_cases hi : i < bs.length
  · rw [List.getElem?_eq_getElem hi]; exact h _ (List.getElem_mem hi)
  · rw [List.getElem?_eq_none (by omega)]; simp

theorem byts_of {pss : List (List Int)} (h : ∀ p ∈ pss, Byt p ∧ p.length ≤ maxLen) : Byts pss := by
  intro i
  rw [List.getD_eq_getElem?_getD]
  by_cases hi : i < pss.length
  · rw [List.getElem?_eq_getElem hi]; exact h _ (List.getElem_mem hi)
  · rw [List.getElem?_eq_none (by omega)]; exact ⟨by intro j; simp, by simp⟩

theorem conv_const (w : World) (C : Array Value) (n c N : Nat) (h : N = w.heap.size) :
    (convert 26 26 (.slice (some ⟨N, 0, none⟩) n c)).run Try.prog (w.alloc (.cells C 5)) = .ok (.slice (some ⟨N, 0, none⟩) n c) (w.alloc (.cells C 5 (C.size, C.size + 1))) := by
  subst h
  exact Lib.run_convert_bytes_const (P := Try.prog) w 26 5 C n c Try.underlying26 Try.underlying5

theorem cell_at (w : World) (c : Array Value) (t : TypeId) (r : Nat × Nat) (n i : Nat) (hn : n = w.heap.size) : (w.alloc (.cells c t r)).cell? ⟨n, i, none⟩ = c[i]? := by
  subst hn
  unfold World.cell? World.alloc
  simp only [Array.getElem?_push, if_true]
  rfl

/-- One part, whose bytes are those of a block of its own. -/
theorem one_part {W : World} {a' : Option Addr} {bs : List Int} {cap' b : Nat} (hc : W.cell? ⟨b, 0, none⟩ = some (.slice a' bs.length cap')) (hb : BysA W a' bs) : PartsA W (some ⟨b, 0, none⟩) [bs] := by
  intro _
  refine ⟨b, 0, rfl, fun i hi => ?_⟩
  have : i = 0 := by simpa using hi
  subst this
  exact ⟨a', cap', by simpa using hc, by simpa using hb⟩

theorem two_parts {W : World} {a1 a2 : Option Addr} {b1 b2 : List Int} {c1 c2 b : Nat} (h0 : W.cell? ⟨b, 0, none⟩ = some (.slice a1 b1.length c1)) (h1 : W.cell? ⟨b, 1, none⟩ = some (.slice a2 b2.length c2))
    (hb1 : BysA W a1 b1) (hb2 : BysA W a2 b2) : PartsA W (some ⟨b, 0, none⟩) [b1, b2] := by
  intro _
  refine ⟨b, 0, rfl, fun i hi => ?_⟩
  have : i = 0 ∨ i = 1 := by simp at hi; omega
  rcases this with rfl | rfl
  · exact ⟨a1, c1, by simpa using h0, by simpa using hb1⟩
  · exact ⟨a2, c2, by simpa using h1, by simpa using hb2⟩

theorem bysA_block {W : World} {b : Nat} {bs : List Int} (h : ∀ i, i < bs.length → W.cell? ⟨b, i, none⟩ = some (.int .u8 (bs.getD i 0))) : BysA W (some ⟨b, 0, none⟩) bs :=
  fun _ => ⟨b, 0, rfl, fun i hi => by rw [Nat.zero_add]; exact h i hi⟩

theorem bys1 {W : World} {b : Nat} {x : Int} (h : W.cell? ⟨b, 0, none⟩ = some (.int .u8 x)) : BysA W (some ⟨b, 0, none⟩) [x] :=
  bysA_block fun i hi => by
    have : i = 0 := by simpa using hi
    subst this; simpa using h

theorem cell_past {w : World} {n i : Nat} {v : Value} (o : Obj) (h : w.cell? ⟨n, i, none⟩ = some v) : (w.alloc o).cell? ⟨n, i, none⟩ = some v := Lib.cell?_alloc_marked o h

theorem mem1 (w0 : World) : PartsA ((w0.alloc (.cells #[.int .u8 97] 5 (1, 2))).alloc (.cells #[.slice (some ⟨w0.heap.size, 0, none⟩) 1 1] 26)) (some ⟨w0.heap.size + 1, 0, none⟩) [[97]] :=
  one_part (a' := some ⟨w0.heap.size, 0, none⟩) (cap' := 1) (by rw [cell_at _ _ _ _ _ _ (by simp)]; rfl) (bys1 (cell_past _ (by rw [cell_at _ _ _ _ _ _ rfl]; rfl)))

theorem mem2 (w1 : World) : PartsA (((w1.alloc (.cells #[.int .u8 87, .int .u8 105, .int .u8 107, .int .u8 105] 5 (4, 5))).alloc (.cells #[.int .u8 112, .int .u8 101, .int .u8 100, .int .u8 105, .int .u8 97] 5 (5, 6))).alloc (.cells #[.slice (some ⟨w1.heap.size, 0, none⟩) 4 4, .slice (some ⟨w1.heap.size + 1, 0, none⟩) 5 5] 26))
    (some ⟨w1.heap.size + 1 + 1, 0, none⟩) [[87, 105, 107, 105], [112, 101, 100, 105, 97]] := by
  refine two_parts (a1 := some ⟨w1.heap.size, 0, none⟩) (a2 := some ⟨w1.heap.size + 1, 0, none⟩) (c1 := 4) (c2 := 5) (by rw [cell_at _ _ _ _ _ _ (by simp)]; rfl) (by rw [cell_at _ _ _ _ _ _ (by simp)]; rfl) (bysA_block fun i hi => ?_) (bysA_block fun i hi => ?_)
  · have : i = 0 ∨ i = 1 ∨ i = 2 ∨ i = 3 := by simp at hi; omega
    refine cell_past _ (cell_past _ ?_)
    rw [cell_at _ _ _ _ _ _ rfl]
    rcases this with rfl | rfl | rfl | rfl <;> rfl
  · have : i = 0 ∨ i = 1 ∨ i = 2 ∨ i = 3 ∨ i = 4 := by simp at hi; omega
    refine cell_past _ ?_
    rw [cell_at _ _ _ _ _ _ (by simp)]
    rcases this with rfl | rfl | rfl | rfl | rfl <;> rfl

theorem mem3 (w : World) (x : Int) (r : Nat × Nat) : BysA (w.alloc (.cells #[.int .u8 x] 5 r)) (some ⟨w.heap.size, 0, none⟩) [x] :=
  bys1 (by rw [cell_at _ _ _ _ _ _ rfl]; rfl)

set_option maxHeartbeats 400000 in
theorem wakes_any (w : World) :
    Calls Try.prog 8 #[] w fun e w' => e = .returned (.bool true) ∧ Below w.heap.size w w' := by
  have hcv := conv_const
  go_enter Try.func8, Try.ntmps8
  go_wp2_with fail
  refine (sum_any none [] 0 _ ?_ ?_ ?_).mono ?_
  · intro h; simp at h
  · exact byts_of (by simp)
  · simp
  rintro e w0 ⟨rfl, hw0⟩
  have b0 : Below w.heap.size w w0 := by rw [hw0]; exact Below.refl _ _
  clear hw0
  rw [s0]
  go_wp2_with fail
  refine (sum_any (some ⟨w0.heap.size + 1, 0, none⟩) [[97]] 1 _ ?_ ?_ ?_).mono ?_
  · exact mem1 w0
  · exact byts_of (by simp only [List.mem_singleton, forall_eq]; exact ⟨byt_of (by simp), maxLen_ge _ (by simp)⟩)
  · exact maxLen_ge _ (by simp)
  rintro e w1 ⟨rfl, hw1⟩
  have b1 : Below w.heap.size w w1 := by
    rw [hw1]
    exact (b0.alloc b0.size _).alloc (by have := b0.size; simp; omega) _
  clear hw1
  rw [s1]
  go_wp2_with fail
  refine (sum_any (some ⟨w1.heap.size + 1 + 1, 0, none⟩) [[87, 105, 107, 105], [112, 101, 100, 105, 97]] 2 _ ?_ ?_ ?_).mono ?_
  · exact mem2 w1
  · exact byts_of (by simp only [List.mem_cons, List.not_mem_nil, or_false, forall_eq_or_imp, forall_eq]; exact ⟨⟨byt_of (by simp), maxLen_ge _ (by simp)⟩, ⟨byt_of (by simp), maxLen_ge _ (by simp)⟩⟩)
  · exact maxLen_ge _ (by simp)
  rintro e w2 ⟨rfl, hw2⟩
  have b2 : Below w.heap.size w w2 := by
    rw [hw2]
    exact ((b1.alloc b1.size _).alloc (by have := b1.size; simp; omega) _).alloc (by have := b1.size; simp; omega) _
  clear hw2
  rw [s2]
  go_wp2_with fail
  refine (more_any 1 (by omega) (some ⟨w2.heap.size, 0, none⟩) [97] 1 _ ?_ ?_ ?_).mono ?_
  · exact mem3 w2 97 _
  · exact byt_of (by simp)
  · exact maxLen_ge _ (by simp)
  rintro e w3 ⟨rfl, hw3⟩
  have b3 : Below w.heap.size w w3 := by
    rw [hw3]
    exact b2.alloc b2.size _
  clear hw3
  rw [s3]
  go_wp2_with fail
  go_ret
  exact ⟨rfl, b3⟩
end Go.Proofs.Ytfbebnddedkcbaa
