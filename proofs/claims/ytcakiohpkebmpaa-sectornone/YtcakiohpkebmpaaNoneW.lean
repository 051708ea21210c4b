/- The walk of SectorNone. -/
import Derived.Test.YtcakiohpkebmpaaEq
import Derived.Deep.CutRange
namespace Go.Proofs.Ytcakiohpkebmpaa
open Go.RowKit
set_option linter.unusedVariables false
attribute [local go_sem ↓] bldZ_of bldZ_of'
attribute [local go_sem] eql36 eqGuard36 sv_is bldZ_is

theorem one_step {w : World} {kd i at_ v : Int} {keep : List Bool} {ka : Option Addr} {kc : Nat} (hK : BoolsA w ka keep) (hk : keep ≠ [] → ∀ kb off, ka = some ⟨kb, off, none⟩ → kb < w.heap.size) : StepsA (w.alloc (.cells #[.int .i64 kd, .int .i64 i, .int .i64 at_, .int .u8 v, .slice ka keep.length kc] 34)) (some ⟨w.heap.size, 0, none⟩) [⟨kd, i, at_, v, keep⟩] := by
  refine fun _ => ⟨w.heap.size, 0, rfl, fun k y hy => ?_⟩
  obtain ⟨rfl, rfl⟩ : k = 0 ∧ y = ⟨kd, i, at_, v, keep⟩ := by
    cases k with
    | zero => simpa using hy.symm
    | succ k => simp at hy
  refine ⟨ka, kc, fun j u hj => ?_, rowA_below hK (below_alloc (Below.refl _ _) _), fun h1 kb off h2 => by have := hk h1 kb off h2; simp; omega⟩
  rw [cell_of_row _ _ _ _ _ _ (heap_alloc_last w _)]
  simpa [scells] using hj

theorem step_ok (x : Stp) (h : x.ok) : ∀ y ∈ [x], y.ok := by intro y hy; rw [List.mem_singleton] at hy; rw [hy]; exact h

set_option maxHeartbeats 400000 in
theorem none_walk (x : Stp) (ka : Option Addr) (kc : Nat) (hx : x.ok) (w : World) (hK : BoolsA w ka x.keep) (hk : x.keep ≠ [] → ∀ kb off, ka = some ⟨kb, off, none⟩ → kb < w.heap.size) :
    Calls Try.prog 5 #[.agg (scells x ka kc).toArray] w fun e w' => e = .returned (.bool true) ∧ Below w.heap.size w w' := by
  obtain ⟨i36, hi36, hz36⟩ := Try.zero36
  obtain ⟨kd, i, at_, v, keep⟩ := x
  have HX := hide hx
  have HK := hide hK
  have HO := hide hk
  clear hx hK hk
  unfold scells
  simp only
  go_enter Try.func5, Try.ntmps5
  go_wp2_with fail
  have hb0 : Below w.heap.size w (w.alloc (.cells #[.int .i64 kd, .int .i64 i, .int .i64 at_, .int .u8 v, .slice ka keep.length kc] 34)) := below_alloc (Below.refl _ _) _
  have c1 : (w.alloc (.cells #[.int .i64 kd, .int .i64 i, .int .i64 at_, .int .u8 v, .slice ka keep.length kc] 34)).rangeAt w.heap.size 0 (scells ⟨kd, i, at_, v, keep⟩ ka kc) := by
    intro j u hj
    rw [cell_of_row _ _ _ _ _ _ (heap_alloc_last w _)]
    simpa [scells] using hj
  have hsz : (w.alloc (.cells #[.int .i64 kd, .int .i64 i, .int .i64 at_, .int .u8 v, .slice ka keep.length kc] 34)).heap.size = w.heap.size + 1 := by simp
  have hlt : w.heap.size < (w.alloc (.cells #[.int .i64 kd, .int .i64 i, .int .i64 at_, .int .u8 v, .slice ka keep.length kc] 34)).heap.size := by simp
  generalize w.alloc (.cells #[.int .i64 kd, .int .i64 i, .int .i64 at_, .int .u8 v, .slice ka keep.length kc] 34) = w1 at hb0 c1 hlt hsz ⊢
  have F := hide (fair_any _ [⟨kd, i, at_, v, keep⟩] 1 _ (one_step (kc := kc) (rowA_below (unhide HK) hb0) (fun h1 kb off h2 => Nat.lt_of_lt_of_le ((unhide HO) h1 kb off h2) hb0.size)) (step_ok _ (unhide HX)) (maxLen_ge _ (by simp)))
  rw [hsz] at F
  have c2 := range_of_block (w' := w1.alloc (.cells #[.int .i64 kd, .int .i64 i, .int .i64 at_, .int .u8 v, .slice ka keep.length kc] 34)) c1 (Below.heap_alloc _ _ _ hlt)
  have hb1 : Below w.heap.size w (w1.alloc (.cells #[.int .i64 kd, .int .i64 i, .int .i64 at_, .int .u8 v, .slice ka keep.length kc] 34)) := below_alloc hb0 _
  refine (unhide F).mono ?_
  rintro e w2 ⟨rfl, hw2⟩
  rw [← hw2] at hb1 c2
  have hlt2 : w.heap.size < w2.heap.size := by rw [hw2]; simp; omega
  clear F c1 hb0 hlt hw2 hsz
  generalize fairL _ = f
  cases f with
  | false =>
    go_wp2_with fail
    refine (wakes_any _).mono ?_
    rintro e w3 ⟨rfl, hb⟩
    go_wp2
    go_ret
    exact ⟨rfl, below_then hb1 hb⟩
  | true =>
    obtain ⟨_, d1, _, _, d4⟩ := stp_cells c2
    simp only [Nat.zero_add] at d1 d4
    go_wp2_with fail
    refine (crash_nil _ _).mono ?_
    rintro e w3 ⟨rfl, rfl⟩
    go_wp2_with fail
    refine (read_nil _ i).mono ?_
    rintro e w4 ⟨rfl, hb4⟩
    have c4 := range_of_block c2 (hb4.block _ hlt2)
    have hb5 := below_then hb1 hb4
    have hlt4 : w.heap.size < w4.heap.size := Nat.lt_of_lt_of_le hlt2 hb4.size
    clear c2 d1 d4 hb1 hb4 hlt2
    go_wp2_with (first
      | (with_reducible refine wpList_allocT 36 i36 (sv zeroS) hi36 hz36 ?_; intro w5 hbb hss hgg)
      | ((with_reducible refine wpList_storeS Try.size36 _ _ w4.heap.size 0 zeroS ?_ ?_ (secs_there (secs_new hgg)) ?_); (focus rfl); (focus rfl); intro w6 HH))
    obtain ⟨hb6, hs6, hX6⟩ := var_put hbb hss hgg HH
    have c6 := range_of_block c4 (hb6.block _ hlt4)
    obtain ⟨d0, d1, d2, d3, d4⟩ := stp_cells c6
    simp only [Nat.zero_add] at d1 d2 d3 d4
    have hb7 := below_then hb5 hb6
    have rX := secs_range hX6
    have hlt6 : w.heap.size < w6.heap.size := by omega
    clear hbb hss hgg HH c4 hb5 hb6
    have SS := hide (fun (W : World) (hW : Below w6.heap.size w6 W) => (⟨hW, (hW.cell (p := ⟨w.heap.size, 0, none⟩) hlt6).trans d0, (hW.cell (p := ⟨w.heap.size, 1, none⟩) hlt6).trans d1, (hW.cell (p := ⟨w.heap.size, 2, none⟩) hlt6).trans d2, (hW.cell (p := ⟨w.heap.size, 3, none⟩) hlt6).trans d3, (hW.cell (p := ⟨w.heap.size, 4, none⟩) hlt6).trans d4, range_of_block rX (hW.block _ (by omega))⟩ :
      Below w6.heap.size w6 W ∧ W.cell? ⟨w.heap.size, 0, none⟩ = some (.int .i64 kd) ∧ W.cell? ⟨w.heap.size, 1, none⟩ = some (.int .i64 i) ∧ W.cell? ⟨w.heap.size, 2, none⟩ = some (.int .i64 at_) ∧ W.cell? ⟨w.heap.size, 3, none⟩ = some (.int .u8 v) ∧ W.cell? ⟨w.heap.size, 4, none⟩ = some (.slice ka keep.length kc) ∧ W.rangeAt w4.heap.size 0 (bytes zeroS)))
    have hu36 := Try.underlying36
    have hz36' : (Try.prog.info? 36).map (·.size) = some (bytes zeroS).length := by rw [bytes_len]; exact Try.size36
    have hl36 := bytes_len zeroS
    have ho36 := bytes_one zeroS
    have HA := hide (unhide HX).2.2.1
    have HV := hide (unhide HX).2.2.2.1
    simp only at HA HV
    clear hX6 c6 hs6
    go_region_held3 (fun W => Below w6.heap.size w6 W ∧ W.cell? ⟨w.heap.size, 0, none⟩ = some (.int .i64 kd) ∧ W.cell? ⟨w.heap.size, 1, none⟩ = some (.int .i64 i) ∧ W.cell? ⟨w.heap.size, 2, none⟩ = some (.int .i64 at_) ∧ W.cell? ⟨w.heap.size, 3, none⟩ = some (.int .u8 v) ∧ W.cell? ⟨w.heap.size, 4, none⟩ = some (.slice ka keep.length kc) ∧ W.rangeAt w4.heap.size 0 (bytes zeroS))
      ((go_split_ands; exact unhide SS _ (by repeat (first | assumption | exact Below.refl _ _ | apply Below.drew | apply below_alloc))))
      (first
        | (go_at_call 13; go_split_ands; refine (sector_any kd i at_ v _ (unhide HA) (unhide HV) _).mono ?_; rintro e w' ⟨rfl, hbl⟩; have hbl2 := below_then (by assumption) hbl; clear hbl)
        | (go_at_call 12; go_split_ands; refine (write_nil _ i (stepS v at_)).mono ?_; rintro e w' ⟨rfl, hbl⟩; have hbl2 := below_then (by assumption) hbl; clear hbl)
        | (go_at_call 17; go_split_ands; refine (flush_nil _).mono ?_; rintro e w' ⟨rfl, rfl⟩)
        | (go_at_call 21; go_split_ands; refine (pending_nil _).mono ?_; rintro e w' ⟨rfl, rfl⟩)
        | (go_at_call 22; go_split_ands; refine (len_nil _).mono ?_; rintro e w' ⟨rfl, rfl⟩)
        | (go_at_call 9; go_split_ands; refine (wakes_any _).mono ?_; rintro e w' ⟨rfl, hbl⟩; have hbl2 := below_then (by assumption) hbl; clear hbl))
    all_goals go_wp2
    all_goals go_ret
    all_goals exact ⟨rfl, below_then hb7 (by assumption)⟩
end Go.Proofs.Ytcakiohpkebmpaa
