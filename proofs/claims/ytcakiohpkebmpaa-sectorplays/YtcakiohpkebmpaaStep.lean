/- Contracts: the sector of a step; a new disk. -/
import Derived.Test.YtcakiohpkebmpaaLeaf
import Derived.Laws.Closers25b
namespace Go.Proofs.Ytcakiohpkebmpaa
open Go.RowKit
set_option linter.unusedVariables false

/-- A new variable of a sector, with its first store. -/
theorem var_put {w2 w3 w4 : World} {s t : Sct} {e : TypeId} (hb3 : Below w2.heap.size w2 w3) (hs3 : w3.heap.size = w2.heap.size + 1) (hg3 : w3.heap[w2.heap.size]? = some (Obj.cells (sv s).cells e)) (H4 : Hid (w4 = w3.setCells w2.heap.size 0 (bytes t))) :
    Below w2.heap.size w2 w4 ∧ w4.heap.size = w2.heap.size + 1 ∧ SecsAt w4 e w2.heap.size [t] := by
  rw [unhide H4]
  exact ⟨below_sets hb3 _ _ _ (Nat.le_refl _), by rw [size_setCells, hs3], secs_store (secs_new hg3) t⟩

theorem xo_lim (v : Int) : 0 ≤ bits .xor .u8 v 85 ∧ bits .xor .u8 v 85 ≤ 255 := bits_within .xor .u8 v 85
/-- The sector that a step writes. -/
def stepS (v at_ : Int) : Sct := if h : 0 ≤ v ∧ v ≤ 255 then setS (fullS v h) (at_ % 64).toNat (bits .xor .u8 v 85) (xo_lim v) else zeroS
theorem stepS_eq (v at_ : Int) (h : 0 ≤ v ∧ v ≤ 255) (j : Nat) (hj : at_ % 64 = (j : Int)) : stepS v at_ = setS (fullS v h) j (bits .xor .u8 v 85) (xo_lim v) := by
  unfold stepS
  rw [dif_pos h]
  congr 1
  omega
theorem full_get (v : Int) (h : 0 ≤ v ∧ v ≤ 255) (j : Nat) (hj : j < 64) : (fullS v h).1.getD j 0 = v := by
  unfold fullS
  rw [List.getD_eq_getElem?_getD, List.getElem?_replicate, if_pos hj]; rfl

set_option maxHeartbeats 400000 in
theorem sector_any (kd i at_ v : Int) (kv : Value) (ha : -9223372036854775808 ≤ at_ ∧ at_ ≤ 9223372036854775807) (hv : 0 ≤ v ∧ v ≤ 255) (w : World) :
    Calls Try.prog 13 #[.agg #[.int .i64 kd, .int .i64 i, .int .i64 at_, .int .u8 v, kv]] w fun e w' => e = .returned (sv (stepS v at_)) ∧ Below w.heap.size w w' := by
  obtain ⟨i36, hi36, hz36⟩ := Try.zero36
  obtain ⟨j, hj, hj64⟩ : ∃ j : Nat, at_ % 64 = (j : Int) ∧ j < 64 := by
    have h1 := Int.emod_nonneg at_ (show (64 : Int) ≠ 0 by omega)
    have h2 := Int.emod_lt_of_pos at_ (show (0 : Int) < 64 by omega)
    exact ⟨(at_ % 64).toNat, by omega, by omega⟩
  have M := hide (fun w => mod_any at_ 64 ha (by omega) w)
  rw [hj] at M
  have F := hide (full_any v hv)
  have HE := hide (stepS_eq v at_ hv j hj)
  have HG := hide (full_get v hv j hj64)
  clear hj
  go_enter Try.func13, Try.ntmps13
  go_wp2_with (first
    | (with_reducible refine wpList_allocT 36 i36 (sv zeroS) hi36 hz36 ?_; intro w1 hb1 hs1 hg1; have hc3 := (hb1.cell (p := ⟨w.heap.size, 3, none⟩) (by simp)).trans (show _ = some (Value.int .u8 v) by simp); have hc2 := (hb1.cell (p := ⟨w.heap.size, 2, none⟩) (by simp)).trans (show _ = some (Value.int .i64 at_) by simp)))
  have hA : SecsAt w1 36 (w.heap.size + 1) [zeroS] := secs_new (by simpa using hg1)
  have hbA : Below w.heap.size w w1 := below_then (below_alloc (Below.refl _ _) _) hb1
  have hz1 : w1.heap.size = w.heap.size + 2 := by rw [hs1]; simp
  clear hb1 hs1 hg1 hc3
  refine (unhide F w1).mono ?_
  rintro e w2 ⟨rfl, hb2⟩
  have hc22 := (hb2.cell (p := ⟨w.heap.size, 2, none⟩) (show w.heap.size < w1.heap.size by omega)).trans hc2
  have hA2 := hA.below hb2
  have hbB := below_then hbA hb2
  have hz2 : w.heap.size + 2 ≤ w2.heap.size := by have := hb2.size; omega
  clear hb2 hc2 hA hbA hz1 
  go_wp2_with (first
    | (with_reducible refine wpList_allocT 36 i36 (sv zeroS) hi36 hz36 ?_; intro w3 hb3 hs3 hg3)
    | ((with_reducible refine wpList_storeS Try.size36 _ _ w2.heap.size 0 (fullS v hv) ?_ ?_ (secs_there (secs_new hg3)) ?_); (focus rfl); (focus rfl); intro w4 H4; obtain ⟨hb4, hs4, hB4⟩ := var_put hb3 hs3 hg3 H4; have hc4 := (hb4.cell (p := ⟨w.heap.size, 2, none⟩) (show w.heap.size < w2.heap.size by omega)).trans hc22; have hj4 := secs_byte hB4 j hj64; rw [unhide HG] at hj4; have hf4 := hB4.1.frozen j)
    | (go_at_call 23; refine (unhide M _).mono ?_; rintro e w' ⟨rfl, rfl⟩)
    | ((with_reducible refine wpList_loadS Try.underlying36 Try.size36 _ w2.heap.size 0 (setS (fullS v hv) j (bits .xor .u8 v 85) (xo_lim v)) ?_ (secs_range (secs_poke hB4 j hj64 _ (xo_lim v))) ?_); (focus rfl))
    | ((with_reducible refine wpList_storeS Try.size36 _ _ (w.heap.size + 1) 0 (setS (fullS v hv) j (bits .xor .u8 v 85) (xo_lim v)) ?_ ?_ (secs_there ((hA2.below hb4).of_block (Below.heap_setCell _ _ _ _ (by show w.heap.size + 1 ≠ w2.heap.size; omega)))) ?_); (focus rfl); (focus rfl); intro w5 H5))
  have hA5 := secs_store ((hA2.below hb4).of_block (w' := w'.setCell ⟨w2.heap.size, j, none⟩ (.int .u8 (bits .xor .u8 v 85))) (Below.heap_setCell _ _ _ _ (by show w.heap.size + 1 ≠ w2.heap.size; omega))) (setS (fullS v hv) j (bits .xor .u8 v 85) (xo_lim v))
  rw [← unhide H5] at hA5
  refine ret_cellS rfl rfl rfl (secs_range hA5) ⟨by rw [unhide HE], ?_⟩
  rw [unhide H5]
  exact below_sets (below_set (below_then hbB hb4) _ _ _ (by omega)) _ _ _ (by omega)
end Go.Proofs.Ytcakiohpkebmpaa
