/- What the laws' own 'wakes' comes to: true; old memory is as it was. -/
import Derived.Test.YtpaolllkpmkgkaaMore
import Derived.Lib.SlBytesConst
namespace Go.Proofs.Ytpaolllkpmkgkaa
open Go.RowKit
set_option linter.unusedVariables false
set_option linter.unusedSimpArgs false

theorem s0 : sums 1 [] = 1 := by decide
theorem s1 : sums 1 [[97]] = 6422626 := by decide +kernel
theorem s2 : sums 1 [[87, 105, 107, 105], [112, 101, 100, 105, 97]] = 300286872 := by decide +kernel
theorem s3 : more 1 [97] = 6422626 := by decide +kernel

theorem byt_of {bs : List Int} (h : ∀ x ∈ bs, 0 ≤ x ∧ x ≤ 255) : Byt bs := by
  intro i
  rw [List.getD_eq_getElem?_getD]
  by_cases hi : i < bs.length
  · rw [List.getElem?_eq_getElem hi]; exact h _ (List.getElem_mem hi)
  · rw [List.getElem?_eq_none (by omega)]; simp

theorem byts_of {pss : List (List Int)} (h : ∀ p ∈ pss, Byt p ∧ p.length ≤ maxLen) : Byts pss := by
  intro i
  rw [List.getD_eq_getElem?_getD]
  by_cases hi : i < pss.length
  · rw [List.getElem?_eq_getElem hi]; exact h _ (List.getElem_mem hi)
  · rw [List.getElem?_eq_none (by omega)]; exact ⟨by intro j; simp, by simp⟩

theorem conv_const (w : World) (C : Array Value) (n c N : Nat) (h : N = w.heap.size) :
    (convert 23 23 (.slice (some ⟨N, 0, none⟩) n c)).run Try.prog (w.alloc (.cells C 5)) = .ok (.slice (some ⟨N, 0, none⟩) n c) (w.alloc (.cells C 5 (C.size, C.size + 1))) := by
  subst h
  exact Lib.run_convert_bytes_const (P := Try.prog) w 23 5 C n c Try.underlying23 Try.underlying5

theorem cell_at (w : World) (c : Array Value) (t : TypeId) (r : Nat × Nat) (n i : Nat) (hn : n = w.heap.size) : (w.alloc (.cells c t r)).cell? ⟨n, i, none⟩ = c[i]? := by
  subst hn
  unfold World.cell? World.alloc
  simp only [Array.getElem?_push, if_true]
  rfl

/-- One part, whose bytes are those of a block of its own. -/
theorem one_part {W : World} {a' : Option Addr} {bs : List Int} {cap' b : Nat} (hc : W.cell? ⟨b, 0, none⟩ = some (.slice a' bs.length cap')) (hb : BysA W a' bs) : PartsA W (some ⟨b, 0, none⟩) [bs] := by
  intro _
  refine ⟨b, 0, rfl, fun i hi => ?_⟩
  have : i = 0 := by simpa using hi
  subst this
  exact ⟨a', cap', by simpa using hc, by simpa using hb⟩

theorem two_parts {W : World} {a1 a2 : Option Addr} {b1 b2 : List Int} {c1 c2 b : Nat} (h0 : W.cell? ⟨b, 0, none⟩ = some (.slice a1 b1.length c1)) (h1 : W.cell? ⟨b, 1, none⟩ = some (.slice a2 b2.length c2))
    (hb1 : BysA W a1 b1) (hb2 : BysA W a2 b2) : PartsA W (some ⟨b, 0, none⟩) [b1, b2] := by
  intro _
  refine ⟨b, 0, rfl, fun i hi => ?_⟩
  have : i = 0 ∨ i = 1 := by simp at hi; omega
  rcases this with rfl | rfl
  · exact ⟨a1, c1, by simpa using h0, by simpa using hb1⟩
  · exact ⟨a2, c2, by simpa using h1, by simpa using hb2⟩

theorem bysA_block {W : World} {b : Nat} {bs : List Int} (h : ∀ i, i < bs.length → W.cell? ⟨b, i, none⟩ = some (.int .u8 (bs.getD i 0))) : BysA W (some ⟨b, 0, none⟩) bs :=
  fun _ => ⟨b, 0, rfl, fun i hi => by rw [Nat.zero_add]; exact h i hi⟩

theorem bys1 {W : World} {b : Nat} {x : Int} (h : W.cell? ⟨b, 0, none⟩ = some (.int .u8 x)) : BysA W (some ⟨b, 0, none⟩) [x] :=
  bysA_block fun i hi => by
    have : i = 0 := by simpa using hi
    subst this; simpa using h

theorem cell_past {w : World} {n i : Nat} {v : Value} (o : Obj) (h : w.cell? ⟨n, i, none⟩ = some v) : (w.alloc o).cell? ⟨n, i, none⟩ = some v := Lib.cell?_alloc_marked o h

theorem mem1 (w0 : World) : PartsA ((w0.alloc (.cells #[.int .u8 97] 5 (1, 2))).alloc (.cells #[.slice (some ⟨w0.heap.size, 0, none⟩) 1 1] 23)) (some ⟨w0.heap.size + 1, 0, none⟩) [[97]] :=
  one_part (a' := some ⟨w0.heap.size, 0, none⟩) (cap' := 1) (by rw [cell_at _ _ _ _ _ _ (by simp)]; rfl) (bys1 (cell_past _ (by rw [cell_at _ _ _ _ _ _ rfl]; rfl)))

theorem mem2 (w1 : World) : PartsA (((w1.alloc (.cells #[.int .u8 87, .int .u8 105, .int .u8 107, .int .u8 105] 5 (4, 5))).alloc (.cells #[.int .u8 112, .int .u8 101, .int .u8 100, .int .u8 105, .int .u8 97] 5 (5, 6))).alloc (.cells #[.slice (some ⟨w1.heap.size, 0, none⟩) 4 4, .slice (some ⟨w1.heap.size + 1, 0, none⟩) 5 5] 23))
    (some ⟨w1.heap.size + 1 + 1, 0, none⟩) [[87, 105, 107, 105], [112, 101, 100, 105, 97]] := by
  refine two_parts (a1 := some ⟨w1.heap.size, 0, none⟩) (a2 := some ⟨w1.heap.size + 1, 0, none⟩) (c1 := 4) (c2 := 5) (by rw [cell_at _ _ _ _ _ _ (by simp)]; rfl) (by rw [cell_at _ _ _ _ _ _ (by simp)]; rfl) (bysA_block fun i hi => ?_) (bysA_block fun i hi => ?_)
  · have : i = 0 ∨ i = 1 ∨ i = 2 ∨ i = 3 := by simp at hi; omega
    refine cell_past _ (cell_past _ ?_)
    rw [cell_at _ _ _ _ _ _ rfl]
    rcases this with rfl | rfl | rfl | rfl <;> rfl
  · have : i = 0 ∨ i = 1 ∨ i = 2 ∨ i = 3 ∨ i = 4 := by simp at hi; omega
    refine cell_past _ ?_
    rw [cell_at _ _ _ _ _ _ (by simp)]
    rcases this with rfl | rfl | rfl | rfl | rfl <;> rfl

theorem mem3 (w : World) (x : Int) (r : Nat × Nat) : BysA (w.alloc (.cells #[.int .u8 x] 5 r)) (some ⟨w.heap.size, 0, none⟩) [x] :=
  bys1 (by rw [cell_at _ _ _ _ _ _ rfl]; rfl)

end Go.Proofs.Ytpaolllkpmkgkaa
