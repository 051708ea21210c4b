/- wakes. -/
import Derived.Test.YthonngnmdciheaaFm
import Derived.Test.YthonngnmdciheaaRen
namespace Go.Proofs.Ythonngnmdciheaa
open Go.RowKit
set_option linter.unusedVariables false
def fw : Fr := ⟨5, 6, true, 1, 10, 2048, [120]⟩
abbrev fwC (A : Option Addr) (c : Nat) : Array Value := #[.int .u64 5, .int .u64 6, .bool true, .int .i64 1, .int .i64 10, .int .i64 2048, .slice A 1 c]
theorem fw_fit : fw.Fit := ⟨by decide, by decide, by unfold I64 fw; decide, by unfold I64 fw; decide, by unfold I64 fw; decide, by decide, by decide⟩
theorem fw_good : goodF fw = true := by decide
theorem fw_enc (W : World) (A : Option Addr) (c : Nat) (h : RowA W A (u8s [120])) : Calls Try.prog 8 #[.agg #[.int .u64 5, .int .u64 6, .bool true, .int .i64 1, .int .i64 10, .int .i64 2048, .slice A 1 c]] W fun e w' => ∃ b off d, e = .returned (.tuple #[.slice (some ⟨b, off, none⟩) 19 d, .int .i64 0]) ∧ RowA w' (some ⟨b, off, none⟩) (u8s (encB fw)) ∧ Below W.heap.size W w' ∧ 19 ≤ d ∧ d ≤ 9223372036854775807 ∧ (∀ W', Below w'.heap.size w' W' → W'.cell? ⟨b, off + 12, none⟩ = some (.int .u8 129) ∧ W'.cell? ⟨b, off + 14, none⟩ = some (.int .u8 32) ∧ W'.cell? ⟨b, off + 15, none⟩ = some (.int .u8 10)) :=
  (encode_yes fw fw_fit fw_good A c W h).mono fun e w' ⟨B, d, he, hr, hb, h1, h2⟩ => by
    obtain ⟨b, off, rfl, hc⟩ := row_at hr (by decide)
    exact ⟨b, off, d, he, hr, hb, h1, h2, fun W' hW => ⟨hc W' hW 12 (by decide), hc W' hW 14 (by decide), hc W' hW 15 (by decide)⟩⟩
theorem fw_par (W : World) (B : Option Addr) (d : Nat) (h : RowA W B (u8s (encB fw))) (h1 : 19 ≤ d) (h2 : d ≤ 9223372036854775807) : Calls Try.prog 11 #[.slice B 19 d] W fun e w' => ∃ B' d', e = .returned (.tuple #[.agg #[.int .u64 5, .int .u64 6, .bool true, .int .i64 1, .int .i64 10, .int .i64 2048, .slice B' 1 d'], .int .i64 0]) ∧ Below W.heap.size W w' :=
  (parse_any B d (encB fw) W (encB_lt fw fw_fit fw_good) h (by decide) h1 h2).mono fun e w' h => by
    rw [pars_enc fw fw_good] at h
    obtain ⟨B', d', he, hr, hb⟩ := h
    exact ⟨B', d', he, hb⟩
theorem fw_bare (W : World) (A : Option Addr) (c : Nat) (h : RowA W A (u8s [120])) : Calls Try.prog 19 #[.agg #[.int .u64 5, .int .u64 6, .bool true, .int .i64 1, .int .i64 10, .int .i64 2048, .slice A 1 c]] W fun e w' => ∃ B d, e = .returned (.agg #[.int .u64 5, .int .u64 6, .bool false, .int .i64 0, .int .i64 0, .int .i64 2048, .slice B 1 d]) ∧ RowA w' B (u8s [120]) ∧ Below W.heap.size W w' :=
  bare_any fw A c W h (by decide)
theorem fw_tagd (W : World) (A : Option Addr) (c : Nat) (h : RowA W A (u8s [120])) : Calls Try.prog 17 #[.agg #[.int .u64 5, .int .u64 6, .bool false, .int .i64 0, .int .i64 0, .int .i64 2048, .slice A 1 c], .int .i64 7] W fun e w' => ∃ B d, e = .returned (.tuple #[.agg #[.int .u64 5, .int .u64 6, .bool true, .int .i64 0, .int .i64 7, .int .i64 2048, .slice B 1 d], .int .i64 0]) ∧ RowA w' B (u8s [120]) ∧ Below W.heap.size W w' :=
  tagged_any (bareF fw) A c 7 W h (by decide) (by decide) (by decide)
theorem fw_gd (W : World) (A : Option Addr) (c : Nat) : Calls Try.prog 13 #[.agg #[.int .u64 5, .int .u64 6, .bool true, .int .i64 1, .int .i64 10, .int .i64 2048, .slice A 1 c]] W fun e w' => e = .returned (.bool true) ∧ Below W.heap.size W w' := by
  have h := fgood_any fw fw_fit A c W
  rw [fw_good] at h
  exact h
theorem conv_const (w : World) (C : Array Value) (n c N : Nat) (h : N = w.heap.size) :
    (convert 23 23 (.slice (some ⟨N, 0, none⟩) n c)).run Try.prog (w.alloc (.cells C 5)) = .ok (.slice (some ⟨N, 0, none⟩) n c) (w.alloc (.cells C 5 (C.size, C.size + 1))) := by
  subst h
  exact Lib.run_convert_bytes_const (P := Try.prog) w 23 5 C n c Try.underlying23 Try.underlying5
theorem one_rowm (w : World) (u : Value) (r : Nat × Nat) : RowA (w.alloc (.cells #[u] 5 r)) (some ⟨w.heap.size, 0, none⟩) [u] := by
  intro _
  refine ⟨_, _, rfl, fun j v hj => ?_⟩
  have : j = 0 := by rcases j with _ | j; rfl; simp at hj
  subst this
  simp at hj
  subst hj
  rw [cell_of_row _ _ _ _ _ _ (heap_alloc_new w _)]; rfl
theorem one_row' (w : World) (o : Obj) (u : Value) : RowA ((w.alloc (.cells #[u] 5 (1, 2))).alloc o) (some ⟨w.heap.size, 0, none⟩) [u] := rowA_below (one_rowm w _ _) (below_alloc (Below.refl _ _) _)
set_option maxRecDepth 10000 in
set_option maxHeartbeats 4000000 in
theorem wakes_any (w : World) : Calls Try.prog 7 #[] w fun e w' => e = .returned (.bool true) ∧ Below w.heap.size w w' := by
  have HR0 := hide (one_row' w (.cells (fwC (some ⟨w.heap.size, 0, none⟩) 1) 25) (.int .u8 120))
  have HX0 : Hid (((w.alloc (.cells #[.int .u8 120] 5 (1, 2))).alloc (.cells (fwC (some ⟨w.heap.size, 0, none⟩) 1) 25)).heap[w.heap.size + 1]? = some (.cells (fwC (some ⟨w.heap.size, 0, none⟩) 1) 25 (0, 0))) := hide (heap_new2 _ _ _)
  have HB0 : Hid (Below w.heap.size w ((w.alloc (.cells #[.int .u8 120] 5 (1, 2))).alloc (.cells (fwC (some ⟨w.heap.size, 0, none⟩) 1) 25))) := hide (by (repeat (first | (with_reducible assumption) | (with_reducible exact Below.refl _ _) | (with_reducible refine Below.drew ?_) | (with_reducible refine below_drewN ?_ _) | (with_reducible refine below_alloc ?_ _))))
  have hcv : (convert 23 23 (.slice (some ⟨w.heap.size, 0, none⟩) 1 1)).run Try.prog (w.alloc (.cells #[.int .u8 120] 5)) = .ok (.slice (some ⟨w.heap.size, 0, none⟩) 1 1) (w.alloc (.cells #[.int .u8 120] 5 (1, 2))) := conv_const w #[.int .u8 120] 1 1 _ rfl
  go_enter Try.func7, Try.ntmps7
  go_wp2_with (first
    | (go_at_call 8; go_loud ((with_reducible refine (fw_enc _ _ _ (unhide HR0)).mono ?_); rintro e w2 ⟨b, off, d, rfl, hr2, hb2, hd1, hd2, hc2⟩; have HR2 := hide hr2; have HB2 := hide (below_then (unhide HB0) hb2); have HD1 := hide hd1; have HD2 := hide hd2; have HC2 := hide hc2; have HX2 := hide (heap_keep (unhide HX0) hb2); have HR1 := hide (rowA_below (unhide HR0) hb2); clear hr2 hb2 hd1 hd2 hc2))
    | (go_at_call 11; go_loud ((with_reducible refine (fw_par _ _ _ (unhide HR2) (unhide HD1) (unhide HD2)).mono ?_); rintro e w3 ⟨B3, d3, rfl, hb3⟩; have HX3 := hide (heap_keep (unhide HX2) (below_then hb3 (below_alloc (Below.refl _ _) (.cells (fwC B3 d3) 25)))); have HB3 := hide (below_then (unhide HB2) hb3); have HR3 := hide (rowA_below (unhide HR1) (below_then hb3 (below_alloc (Below.refl _ _) (.cells (fwC B3 d3) 25)))); have hb3' := hide hb3; have HF3 : Hid ((w3.alloc (.cells (fwC B3 d3) 25)).heap[w3.heap.size]? = some (.cells (fwC B3 d3) 25 (0, 0))) := hide (heap_alloc_new _ _); obtain ⟨x0, x1, x2, x3, x4, x5, x6⟩ := (⟨(heap_cell (unhide HX3) 0).1, (heap_cell (unhide HX3) 1).1, (heap_cell (unhide HX3) 2).1, (heap_cell (unhide HX3) 3).1, (heap_cell (unhide HX3) 4).1, (heap_cell (unhide HX3) 5).1, (heap_cell (unhide HX3) 6).1⟩ : _ ∧ _ ∧ _ ∧ _ ∧ _ ∧ _ ∧ _); clear hb3))
    | (go_at_call 19; go_loud ((with_reducible refine (fw_bare _ _ _ (unhide HR3)).mono ?_); rintro e w4 ⟨B4, d4, rfl, hr4, hb4⟩; have HR4 := hide hr4; have HB4 := hide hb4; clear hr4 hb4))
    | (go_at_call 17; go_loud ((with_reducible refine (fw_tagd _ _ _ (unhide HR4)).mono ?_); rintro e w5 ⟨B5, d5, rfl, _, hb5⟩; have HB5 := hide (below_then (unhide HB4) hb5); have HX5 := hide (heap_keep (unhide HX3) (below_then (unhide HB5) (below_alloc (Below.refl _ _) (.cells #[.int .u64 5, .int .u64 6, .bool true, .int .i64 0, .int .i64 7, .int .i64 2048, .slice B5 1 d5] 25)))); have HF5 := hide (heap_keep (unhide HF3) (below_then (unhide HB5) (below_alloc (Below.refl _ _) (.cells #[.int .u64 5, .int .u64 6, .bool true, .int .i64 0, .int .i64 7, .int .i64 2048, .slice B5 1 d5] 25)))); have HB6 := hide (below_then (below_alloc (unhide HB3) (.cells (fwC B3 d3) 25)) (unhide HB5)); obtain ⟨y1, y2, y3⟩ := unhide HC2 (w5.alloc (.cells #[.int .u64 5, .int .u64 6, .bool true, .int .i64 0, .int .i64 7, .int .i64 2048, .slice B5 1 d5] 25)) (below_then (below_alloc (unhide hb3') (.cells (fwC B3 d3) 25)) (below_alloc (unhide HB5) _)); obtain ⟨x0, x1, x2, x3, x4, x5, x6⟩ := (⟨(heap_cell (unhide HX5) 0).1, (heap_cell (unhide HX5) 1).1, (heap_cell (unhide HX5) 2).1, (heap_cell (unhide HX5) 3).1, (heap_cell (unhide HX5) 4).1, (heap_cell (unhide HX5) 5).1, (heap_cell (unhide HX5) 6).1⟩ : _ ∧ _ ∧ _ ∧ _ ∧ _ ∧ _ ∧ _); have z3 := (heap_cell (unhide HF5) 3).1; have z4 := (heap_cell (unhide HF5) 4).1; clear hb5))
    | (go_at_call 13; go_loud ((with_reducible refine (fw_gd _ _ _).mono ?_); rintro e w7 ⟨rfl, hb7⟩; have HB7 := hide hb7; clear hb7)))
  go_ret
  exact ⟨rfl, below_then (below_alloc (unhide HB6) _) (unhide HB7)⟩
end Go.Proofs.Ythonngnmdciheaa
