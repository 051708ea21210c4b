/- The walk of JournalNone. -/
import Derived.Test.YtpaolllkpmkgkaaJfair
namespace Go.Proofs.Ytpaolllkpmkgkaa
open Go.RowKit
set_option linter.unusedVariables false
set_option maxRecDepth 4000

theorem stps_one {W : World} {N : Nat} {k ep : Int} {A : Option Addr} {ps : List (List Int)} {cap : Nat} (h0 : W.cell? ⟨N, 0, none⟩ = some (.int .i64 k)) (h1 : W.cell? ⟨N, 1, none⟩ = some (.slice A ps.length cap)) (h2 : W.cell? ⟨N, 2, none⟩ = some (.int .u32 ep)) (hp : PartsA W A ps) : StpsA W (some ⟨N, 0, none⟩) [⟨k, ps, ep⟩] := by
  intro _
  refine ⟨N, 0, rfl, fun i s hs => ?_⟩
  obtain rfl : i = 0 := by have := (List.getElem?_eq_some_iff.1 hs).1; simp at this; exact this
  cases hs
  exact ⟨h0, ⟨A, cap, h1, hp⟩, h2⟩

set_option maxRecDepth 100000 in
set_option maxHeartbeats 4000000 in
theorem jnone_walk (k ep : Int) (A : Option Addr) (ps : List (List Int)) (cap : Nat) (w : World) (hA : PartsA w A ps) (hl : ps.length ≤ maxLen) (hp : ∀ p ∈ ps, p.length ≤ maxLen) :
    Calls Try.prog 7 #[.agg #[.int .i64 k, .slice A ps.length cap, .int .u32 ep]] w fun e w' => e = .returned (.bool true) ∧ Below w.heap.size w w' := by
  have hb0 : Below w.heap.size w (w.alloc (.cells #[.int .i64 k, .slice A ps.length cap, .int .u32 ep] 63)) := below_alloc (Below.refl _ _) _
  have hz0 : (w.alloc (.cells #[.int .i64 k, .slice A ps.length cap, .int .u32 ep] 63)).heap.size = w.heap.size + 1 := by simp
  have hn0 := heap_alloc_last w (.cells #[.int .i64 k, .slice A ps.length cap, .int .u32 ep] 63)
  have HB0 := hide hb0
  have HN0 := hide hn0
  have HFA : Hid (∀ W N, W = ((w.alloc (.cells #[.int .i64 k, .slice A ps.length cap, .int .u32 ep] 63)).alloc (.cells #[.int .i64 k, .slice A ps.length cap, .int .u32 ep] 63)) → N = w.heap.size + 1 → ∃ b : Bool, Calls Try.prog 19 #[.slice (some ⟨N, 0, none⟩) 1 1] W fun e w' => e = .returned (.bool b) ∧ w' = W) := fun W N hW hN => by
    subst hW
    have e0 := cell_at (w.alloc (.cells #[.int .i64 k, .slice A ps.length cap, .int .u32 ep] 63)) #[.int .i64 k, .slice A ps.length cap, .int .u32 ep] 63 (0, 0) N
    have hs : StpsA _ (some ⟨N, 0, none⟩) [⟨k, ps, ep⟩] := stps_one (e0 0 (by rw [hz0]; exact hN)) (e0 1 (by rw [hz0]; exact hN)) (e0 2 (by rw [hz0]; exact hN)) (partsA_below hA (below_alloc hb0 _))
    have := fairJ_any (some ⟨N, 0, none⟩) [⟨k, ps, ep⟩] 1 _ hs (show 1 ≤ maxLen by decide) (fun s h => by rw [List.mem_singleton] at h; subst h; exact ⟨hl, hp⟩)
    exact ⟨_, this⟩
  obtain ⟨b, hF⟩ := unhide HFA _ _ rfl rfl
  have HF := hide hF
  have HB1 := hide (below_alloc hb0 (.cells #[.int .i64 k, .slice A ps.length cap, .int .u32 ep] 63))
  have HN1 : Hid (((w.alloc (.cells #[.int .i64 k, .slice A ps.length cap, .int .u32 ep] 63)).alloc (.cells #[.int .i64 k, .slice A ps.length cap, .int .u32 ep] 63)).heap[w.heap.size]? = some (.cells #[.int .i64 k, .slice A ps.length cap, .int .u32 ep] 63 (0, 0))) := (Below.heap_alloc _ _ _ (by rw [hz0]; omega)).trans hn0
  have HNW : Hid (∀ W : World, Calls Try.prog 21 #[.int .i64 4] W fun e w' => ∃ g gs, e = .returned (.tuple #[.pointer (some ⟨g, 0, none⟩), .int .i64 0]) ∧ Dsk 106 124 w' W.heap.size g gs (List.replicate 4 zeroS) [] ∧ Below W.heap.size W w') := fun W => new_yes 4 (by omega) (by omega) W
  have HOO : Hid (∀ (W : World) (base g gs : Nat), Dsk 106 124 W base g gs (List.replicate 4 zeroS) [] → Calls Try.prog 23 #[.pointer (some ⟨g, 0, none⟩), .int .i64 2, .int .i64 5, .int .u32 ep] W fun e w' => e = .returned (.tuple #[.pointer none, .int .i64 1]) ∧ w' = W) := fun W base g gs hd => open_out W hd 2 5 ep (by right; right; rw [List.length_replicate]; decide)
  clear hF hb0 hn0 HFA hA hl hp
  cases b with
  | false =>
    go_enter Try.func7, Try.ntmps7
    go_wp2_with (first
      | (go_at_call 19; (with_reducible refine (unhide HF).mono ?_); rintro e w1 ⟨rfl, hw1⟩; have HW1 := hide (show Below w.heap.size w w1 from hw1 ▸ unhide HB1); clear hw1)
      | (go_at_call 20; (with_reducible refine (wakesJ _).mono ?_); rintro e w2 ⟨rfl, hb2⟩; have HB9 := hide (below_then (unhide HW1) hb2); clear hb2))
    go_ret
    exact ⟨rfl, unhide HB9⟩
  | true =>
    go_enter Try.func7, Try.ntmps7
    go_wp2_with (first
      | (go_at_call 19; (with_reducible refine (unhide HF).mono ?_); rintro e w1 ⟨rfl, hw1⟩; have HW1 := hide (show Below w.heap.size w w1 from hw1 ▸ unhide HB1); have hx1 : w1.heap[w.heap.size]? = some (.cells #[.int .i64 k, .slice A ps.length cap, .int .u32 ep] 63 (0, 0)) := (hw1 ▸ unhide HN1); have HX1 := hide hx1; have y2 := (heap_cell hx1 2).1; clear hw1 hx1)
      | (go_at_call 28; refine (next_nil _ _).mono ?_; rintro e w2 ⟨rfl, rfl⟩)
      | (go_at_call 25; refine (append_nil _ _).mono ?_; rintro e w5 ⟨rfl, rfl⟩)
      | (go_at_call 33; refine (all_nil _).mono ?_; rintro e w6 ⟨rfl, rfl⟩)
      | (go_at_call 34; refine (room_nil _).mono ?_; rintro e w7 ⟨rfl, rfl⟩)
      | (go_at_call 20; (with_reducible refine (wakesJ _).mono ?_); rintro e w8 ⟨rfl, hb8⟩; have HB9 := hide (below_then (unhide HB4) hb8); clear hb8)
      | (go_at_call 23; first | ((with_reducible refine (open_nil _ _ _ _).mono ?_); rintro e w3 ⟨rfl, rfl⟩) | ((with_reducible refine (unhide HOO _ _ _ _ (unhide HD4)).mono ?_); rintro e w9 ⟨rfl, rfl⟩))
      | (go_at_call 21; (with_reducible refine (unhide HNW _).mono ?_); rintro e w4 ⟨g, gs, rfl, hd4, hb4⟩; have hx4 := (hb4.block _ (lt_of_get (unhide HX1))).trans (unhide HX1); have z1 := (heap_cell hx4 1).1; have z2 := (heap_cell hx4 2).1; have HD4 := hide hd4; have HB4 := hide (below_then (unhide HW1) hb4); clear hx4 hd4 hb4))
    go_ret
    exact ⟨rfl, unhide HB9⟩
end Go.Proofs.Ytpaolllkpmkgkaa
