/- config.First. -/
import Derived.Test.YtbbadncdkiganaaKfirst
namespace Go.Proofs.Ytbbadncdkiganaa
open Go.RowKit
set_option linter.unusedVariables false
set_option maxRecDepth 4000

def firstC (n : Nat) : Cfg := ⟨32768, 20, 15, List.replicate n (true, 20000, 1), [(1, everyI n, 0)], []⟩
def zeroC : Array Value := #[.int .i64 0, .int .i64 0, .int .i64 0, .slice none 0 0, .slice none 0 0, .slice none 0 0]
set_option maxHeartbeats 2000000 in
theorem first_no (n : Int) (h : n < 1 ∨ 8 < n) (w : World) : Calls Try.prog 11 #[.int .i64 n] w fun e w' => e = .returned (.tuple #[.agg #[.int .i64 0, .int .i64 0, .int .i64 0, .slice none 0 0, .slice none 0 0, .slice none 0 0], .int .i64 1]) ∧ Below w.heap.size w w' := by
  have hr := heap_new w (.cells #[.int .i64 0, .int .i64 0, .int .i64 0, .slice none 0 0, .slice none 0 0, .slice none 0 0] 26) w.heap.size rfl
  have HR := hide hr
  clear hr
  rcases h with h | h
  · go_enter Try.func11, Try.ntmps11
    go_wp2
    exact ret_cell2 (c := #[.int .i64 0, .int .i64 0, .int .i64 0, .slice none 0 0, .slice none 0 0, .slice none 0 0]) rfl rfl rfl rfl (unhide HR) Try.underlying26 rfl Try.size26 ⟨rfl, below_alloc (Below.refl _ _) _⟩
  · have h2 : ¬ n < 1 := by omega
    go_enter Try.func11, Try.ntmps11
    go_wp2
    exact ret_cell2 (c := #[.int .i64 0, .int .i64 0, .int .i64 0, .slice none 0 0, .slice none 0 0, .slice none 0 0]) rfl rfl rfl rfl (unhide HR) Try.underlying26 rfl Try.size26 ⟨rfl, below_alloc (Below.refl _ _) _⟩
set_option maxHeartbeats 4000000 in
theorem first_yes (n : Nat) (h1 : 1 ≤ n) (h8 : n ≤ 8) (w : World) : Calls Try.prog 11 #[.int .i64 n] w fun e w' => ∃ Ap cp Av cv, e = .returned (.tuple #[.agg #[.int .i64 32768, .int .i64 20, .int .i64 15, .slice Ap n cp, .slice Av 1 cv, .slice none 0 0], .int .i64 0]) ∧ CfgO w' w.heap.size (firstC n) (.slice Ap n cp) (.slice Av 1 cv) (.slice none 0 0) ∧ Below w.heap.size w w' := by
  have HRP := hide (fun W N hN => repeat_any n h1 h8 N (true, 20000, 1) W hN)
  have HEV := hide (every_any n h8)
  have hf : firstC n = ⟨32768, 20, 15, List.replicate n (true, 20000, 1), [(1, everyI n, 0)], []⟩ := rfl
  have HF := hide hf
  clear hf
  generalize everyI n = ev at *
  obtain ⟨fp, hfp⟩ : ∃ fp, fl encP (List.replicate n (true, 20000, 1)) = fp := ⟨_, rfl⟩
  have HFP := hide hfp
  rw [hfp] at HRP
  clear hfp
  have hr := heap_new w (.cells #[.int .i64 0, .int .i64 0, .int .i64 0, .slice none 0 0, .slice none 0 0, .slice none 0 0] 26) w.heap.size rfl
  have HR := hide hr
  have HB0 : Hid (Below w.heap.size w (w.alloc (.cells #[.int .i64 0, .int .i64 0, .int .i64 0, .slice none 0 0, .slice none 0 0, .slice none 0 0] 26))) := below_alloc (Below.refl _ _) _
  have h1z : (1 : Int) ≤ (n : Int) := by omega
  have h8z : (n : Int) ≤ 8 := by omega
  clear hr
  go_enter Try.func11, Try.ntmps11
  go_wp2_with (first
    | (go_at_call 22; refine (unhide HRP _ _ ?_).mono ?_; (focus (exact heap_new _ _ _ (by simp))); rintro e w1 ⟨c1, rfl, ho1, hb1⟩; have HO1 : Hid (w1.ownsRow (w.heap.size + 1 + 1) 50 3 (.slice (some ⟨w.heap.size + 1 + 1, 0, none⟩) n c1) n fp) := hide (by simpa using ho1); have HB1 := hide (below_then (below_alloc (unhide HB0) _) hb1); have HR1 := hide (heap_keep (heap_keep (unhide HR) (below_alloc (Below.refl _ _) _)) hb1); have m0 := fun o => (heap_cell (heap_keep (unhide HR1) (below_alloc (Below.refl _ _) o)) 0).1; have l0 := fun o => (heap_cell (heap_keep (unhide HR1) (below_alloc (Below.refl _ _) o)) 0).2; have m1 := fun o => (heap_cell (heap_keep (unhide HR1) (below_alloc (Below.refl _ _) o)) 1).1; have l1 := fun o => (heap_cell (heap_keep (unhide HR1) (below_alloc (Below.refl _ _) o)) 1).2; have m2 := fun o => (heap_cell (heap_keep (unhide HR1) (below_alloc (Below.refl _ _) o)) 2).1; have l2 := fun o => (heap_cell (heap_keep (unhide HR1) (below_alloc (Below.refl _ _) o)) 2).2; have m3 := fun o => (heap_cell (heap_keep (unhide HR1) (below_alloc (Below.refl _ _) o)) 3).1; have l3 := fun o => (heap_cell (heap_keep (unhide HR1) (below_alloc (Below.refl _ _) o)) 3).2; have m4 := fun o => (heap_cell (heap_keep (unhide HR1) (below_alloc (Below.refl _ _) o)) 4).1; have l4 := fun o => (heap_cell (heap_keep (unhide HR1) (below_alloc (Below.refl _ _) o)) 4).2; have m5 := fun o => (heap_cell (heap_keep (unhide HR1) (below_alloc (Below.refl _ _) o)) 5).1; have l5 := fun o => (heap_cell (heap_keep (unhide HR1) (below_alloc (Below.refl _ _) o)) 5).2; clear ho1 hb1)
    | (go_at_call 23; (with_reducible refine (unhide HEV _).mono ?_); rintro e w1 ⟨rfl, rfl⟩))
  have HR2 := hide (heap_keep (unhide HR1) (below_alloc (Below.refl _ _) (.cells #[.int .i64 1, .int .u8 ev, .int .u8 0] 46)))
  have HB2 : Hid (Below w.heap.size w (w1.alloc (.cells #[.int .i64 1, .int .u8 ev, .int .u8 0] 46))) := hide (below_alloc (unhide HB1) _)
  have HV : Hid ((w1.alloc (.cells #[.int .i64 1, .int .u8 ev, .int .u8 0] 46)).ownsRow (w.heap.size + 1) 46 3 (.slice (some ⟨w1.heap.size, 0, none⟩) 1 1) 1 [.int .i64 1, .int .u8 ev, .int .u8 0]) := hide (own_shut (cur := [.int .i64 1, .int .u8 ev, .int .u8 0]) ⟨heap_new _ _ _ rfl, rfl⟩ (by have := (unhide HR1); have := lt_of_get this; omega) (Nat.le_refl _) (maxLen_ge _ (by omega)) rfl)
  have HP2 : Hid ((w1.alloc (.cells #[.int .i64 1, .int .u8 ev, .int .u8 0] 46)).ownsRow (w.heap.size + 1) 50 3 (.slice (some ⟨w.heap.size + 1 + 1, 0, none⟩) n c1) n fp) := hide (own_mono (own_below (unhide HO1) (below_alloc (Below.refl _ _) _)) (by omega))
  clear m0 m1 m2 m3 m4 m5 l0 l1 l2 l3 l4 l5
  refine ret_cell2 (g := w.heap.size) (c := #[.int .i64 32768, .int .i64 20, .int .i64 15, .slice (some ⟨w.heap.size + 1 + 1, 0, none⟩) n c1, .slice (some ⟨w1.heap.size, 0, none⟩) 1 1, .slice none 0 0]) (t := 26) rfl rfl rfl rfl (heap_sets6 (unhide HR2) _ _ _ _ _ _) Try.underlying26 rfl Try.size26 ⟨_, _, _, _, rfl, ?_, ?_⟩
  · have := unhide HF
    rw [this]
    refine ⟨?_, ?_, World.ownsRow_nil _ _ _ _⟩
    · show World.ownsRow _ _ 50 3 _ (List.replicate n (true, 20000, 1)).length (fl encP (List.replicate n (true, 20000, 1)))
      rw [unhide HFP, List.length_replicate]
      exact own_mono (own_sets6 (unhide HP2) w.heap.size (by omega) _ _ _ _ _ _) (by omega)
    · exact own_mono (own_sets6 (unhide HV) w.heap.size (by omega) _ _ _ _ _ _) (by omega)
  · exact below_set (below_set (below_set (below_set (below_set (below_set (unhide HB2) _ _ _ (Nat.le_refl _)) _ _ _ (Nat.le_refl _)) _ _ _ (Nat.le_refl _)) _ _ _ (Nat.le_refl _)) _ _ _ (Nat.le_refl _)) _ _ _ (Nat.le_refl _)
end Go.Proofs.Ytbbadncdkiganaa
