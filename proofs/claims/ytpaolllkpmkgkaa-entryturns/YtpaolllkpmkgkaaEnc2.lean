/- Contracts: an entry's bytes. -/
import Derived.Test.YtpaolllkpmkgkaaEnc
namespace Go.Proofs.Ytpaolllkpmkgkaa
open Go.RowKit
set_option linter.unusedVariables false

theorem bysA_drew1 {w : World} {a : Option Addr} {bs : List Int} (h : BysA w a bs) : BysA w.drew a bs := h

theorem sum_one {W : World} {A : Option Addr} {bs : List Int} (hb : BysA W A bs) (hB : Byt bs) (hl : bs.length ≤ 20000) (c : Nat) (N : Nat) (hN : N = W.heap.size) :
    Calls Try.prog 63 #[.slice (some ⟨N, 0, none⟩) 1 1] (W.alloc (.cells #[.slice A bs.length c] 23)) fun e w' => e = .returned (.int .u32 (more 1 bs)) ∧ w' = W.alloc (.cells #[.slice A bs.length c] 23) := by
  refine (sum1 hB hl _ N (parts_new (cs := [_]) hN (fun i hi => ?_))).mono ?_
  · have : i = 0 := by simpa using hi
    subst this
    exact ⟨A, c, rfl, hb⟩
  · rintro e w' ⟨he, rfl⟩
    exact ⟨he, rfl⟩
theorem concat_head (N cap : Nat) (k e s : Int) (b : List Int) (W : World) (hp : PartsA W (some ⟨N, 0, none⟩) [leadL k e s, [IntKind.u8.wrap ((b.length : Int) / 256), IntKind.u8.wrap (b.length : Int)], b]) (hk : 0 ≤ k ∧ k ≤ 255) (hB : Byt b) (hl : b.length ≤ 4000) :
    Calls Try.prog 53 #[.slice (some ⟨N, 0, none⟩) 3 cap] W fun e' w' => ∃ g c, e' = .returned (.slice (some ⟨g, 0, none⟩) (headL k e s b).length c) ∧ w'.ownsRow W.heap.size 5 1 (.slice (some ⟨g, 0, none⟩) (headL k e s b).length c) (headL k e s b).length ((headL k e s b).map (Value.int .u8)) ∧ Below W.heap.size W w' := by
  rw [IntKind.wrap_u8, IntKind.wrap_u8] at hp
  exact concat3 N cap (leadL k e s) _ b W hp (byts_three (leadL_byt hk) (by simp [leadL_len]) (lenB_byt _) (by simp) hB (by omega)) (by rw [leadL_len]; omega) (by rw [leadL_len]; simp; omega)

set_option maxHeartbeats 2000000 in
theorem rbytes_any (k e s : Int) (hk : 0 ≤ k ∧ k ≤ 255) (he : 0 ≤ e ∧ e ≤ 4294967295) (hs : 0 ≤ s ∧ s ≤ 4294967295) (A : Option Addr) (b : List Int) (cap : Nat) (hl : b.length ≤ 4000) (hB : Byt b) (w : World) (hA : BysA w A b) :
    Calls Try.prog 42 #[.agg #[.int .u8 k, .int .u32 e, .int .u32 s, .slice A b.length cap]] w fun x w' => ∃ g c, x = .returned (.slice (some ⟨g, 0, none⟩) (entL k e s b).length c) ∧ w'.ownsRow w.heap.size 5 1 (.slice (some ⟨g, 0, none⟩) (entL k e s b).length c) (entL k e s b).length ((entL k e s b).map (Value.int .u8)) ∧ Below w.heap.size w w' := by
  have HK := hide hk
  have HE := hide he
  have HS := hide hs
  have HB := hide hB
  have HA := hide hA
  have HB0 : Hid (Below w.heap.size w (w.alloc (.cells #[.int .u8 k, .int .u32 e, .int .u32 s, .slice A b.length cap] 93))) := below_alloc (Below.refl _ _) _
  have c0 : (w.alloc (.cells #[.int .u8 k, .int .u32 e, .int .u32 s, .slice A b.length cap] 93)).cell? ⟨w.heap.size, 0, none⟩ = some (.int .u8 k) := cell_lit rfl rfl
  have c1 : (w.alloc (.cells #[.int .u8 k, .int .u32 e, .int .u32 s, .slice A b.length cap] 93)).cell? ⟨w.heap.size, 1, none⟩ = some (.int .u32 e) := cell_lit rfl rfl
  have c2 : (w.alloc (.cells #[.int .u8 k, .int .u32 e, .int .u32 s, .slice A b.length cap] 93)).cell? ⟨w.heap.size, 2, none⟩ = some (.int .u32 s) := cell_lit rfl rfl
  have c3 : (w.alloc (.cells #[.int .u8 k, .int .u32 e, .int .u32 s, .slice A b.length cap] 93)).cell? ⟨w.heap.size, 3, none⟩ = some (.slice A b.length cap) := cell_lit rfl rfl
  have hlt : w.heap.size < (w.alloc (.cells #[.int .u8 k, .int .u32 e, .int .u32 s, .slice A b.length cap] 93)).heap.size := by simp
  have hn0 : (0 : Int) ≤ (b.length : Int) := by omega
  have hn1 : (b.length : Int) ≤ 4000 := by omega
  clear hk he hs hB hA
  go_enter Try.func42, Try.ntmps42
  go_wp2
  generalize w.alloc (.cells #[.int .u8 k, .int .u32 e, .int .u32 s, .slice A b.length cap] 93) = w1 at *
  obtain ⟨bx, hbx⟩ : ∃ bx, w.heap.size = bx := ⟨_, rfl⟩
  have HBX := hide hbx
  rw [hbx] at c0 c1 c2 c3 hlt ⊢
  clear hbx
  have HKEEP := hide (fun (W : World) (h : Below w1.heap.size w1 W) => (⟨h, (h.cell (p := ⟨bx, 0, none⟩) hlt).trans c0, (h.cell (p := ⟨bx, 1, none⟩) hlt).trans c1, (h.cell (p := ⟨bx, 2, none⟩) hlt).trans c2, (h.cell (p := ⟨bx, 3, none⟩) hlt).trans c3⟩ : Below w1.heap.size w1 W ∧ W.cell? ⟨bx, 0, none⟩ = some (.int .u8 k) ∧ W.cell? ⟨bx, 1, none⟩ = some (.int .u32 e) ∧ W.cell? ⟨bx, 2, none⟩ = some (.int .u32 s) ∧ W.cell? ⟨bx, 3, none⟩ = some (.slice A b.length cap)))
  have HBODY := hide (fun (W : World) (h : Below w1.heap.size w1 W) => bysA_below (unhide HA) (below_then (unhide HB0) h))
  go_region_held3 (fun W => Below w1.heap.size w1 W ∧ W.cell? ⟨bx, 0, none⟩ = some (.int .u8 k) ∧ W.cell? ⟨bx, 1, none⟩ = some (.int .u32 e) ∧ W.cell? ⟨bx, 2, none⟩ = some (.int .u32 s) ∧ W.cell? ⟨bx, 3, none⟩ = some (.slice A b.length cap)) ((go_split_ands; refine unhide HKEEP _ ?_; repeat (first | assumption | exact Below.refl _ _ | apply Below.drew | apply below_alloc))) (first
    | (go_at_call 61; go_split_ands; refine (lead_any k e s (unhide HK) (unhide HE) (unhide HS) _).mono ?_; rintro x w2 ⟨g, c, rfl, ho, hb⟩; have hbw : Below w1.heap.size w1 w2 := (below_then (by repeat (first | assumption | exact Below.refl _ _ | apply Below.drew | apply below_alloc)) hb); obtain ⟨A9, c9, e9, hbys, _⟩ := own_bys ho; cases e9; have HLB := hide hbys; have HBL := hide hb; clear ho hb hbys)
    | (go_at_call 53; go_split_ands; refine (concat_head _ _ k e s b _ ?_ (unhide HK) (unhide HB) hl).mono ?_; (focus ((try refine partsA_drew ?_); ((with_reducible refine parts_row3 ?_ ?_ ?_ ?_ ?_ ?_ ?_) <;> (repeat (first | (focus (simp; done)) | rfl | exact unhide HLB | (with_reducible refine bys_pair ?_) | (with_reducible refine bysA_below ?_ (unhide HBL)) | (refine unhide HBODY _ ?_; (repeat (first | assumption | exact Below.refl _ _ | apply Below.drew | apply below_alloc)); done) | (with_reducible refine bysA_drew1 ?_) | (with_reducible refine bysA_alloc ?_ _)))); done)); rintro x w' ⟨g, c, rfl, ho, hb⟩; have hbw' : Below w1.heap.size w1 w' := (below_then (by repeat (first | assumption | exact Below.refl _ _ | apply Below.drew | apply below_alloc)) hb); have HO := hide (own_mono ho (base' := w.heap.size) (by have h1 := (unhide HB0).size; have h2 := hbw.size; simp; omega)); clear ho hb))
  all_goals
    have hb9 := below_then (unhide HB0) hbw'
    have hh := headL_len k e s b
    have HHB := hide (headL_byt (e := e) (s := s) (unhide HK) (unhide HB))
    have HEN : Hid (entL k e s b = headL k e s b ++ four (more 1 (headL k e s b))) := rfl
    generalize headL k e s b = h at *
    obtain ⟨A9, c9, e9, hbys, hc9⟩ := own_bys (unhide HO)
    cases e9
    have HY := hide hbys
    have HOA : Hid (((w'.alloc (.cells #[.slice (some ⟨g, 0, none⟩) h.length c] 23)).alloc (.cells (fourV (more 1 h)) 5)).ownsRow w.heap.size 5 1 (.slice (some ⟨g, 0, none⟩) h.length c) h.length (h.map (Value.int .u8))) := ((unhide HO).alloc _).alloc _
    have HML := hide (more_lim 1 h)
    have hh2 : h.length ≤ 20000 := by omega
    have HZ : Hid (w.heap.size ≤ ((w'.alloc (.cells #[.slice (some ⟨g, 0, none⟩) h.length c] 23)).alloc (.cells (fourV (more 1 h)) 5)).heap.size) := by show _ ≤ _; have := hb9.size; simp; omega
    have HBF : Hid (BysA ((w'.alloc (.cells #[.slice (some ⟨g, 0, none⟩) h.length c] 23)).alloc (.cells (fourV (more 1 h)) 5)) (some ⟨w'.heap.size + 1, 0, none⟩) (four (more 1 h))) := bys_four (by simp)
    clear hbys hh HKEEP HBODY hc9
    go_wp2_with (first
      | (go_at_call 63; refine (sum_one (unhide HY) (unhide HHB) hh2 c _ ?_).mono ?_; (focus rfl); rintro x w4 ⟨rfl, rfl⟩)
      | (go_at_call 62; refine (wide_four _ (unhide HML) _).mono ?_; rintro x w5 ⟨rfl, rfl⟩)
      | ((with_reducible refine wpList_appendB _ _ w.heap.size _ h (four (more 1 h)) ?_ (unhide HOA) (some ⟨w'.heap.size + 1, 0, none⟩) 4 4 ?_ ?_ (unhide HBF) ?_ (unhide HZ) ?_); (focus rfl); (focus rfl); (focus rfl); (focus (rw [four_len]; omega)); intro v' w6 h6 hg6))
    obtain ⟨g6, c6, rfl, _⟩ := own_bys1 h6 (by rw [List.length_append, four_len]; omega)
    have hb6 : Below w.heap.size w w6 := (below_alloc (below_alloc hb9 _) _).grown hg6 (unhide HZ) (fun j hj => (own_block (unhide HO) hj).1)
    clear HBX
    go_wp2
    go_ret
    rw [unhide HEN]
    exact ⟨g6, c6, rfl, h6, hb6⟩
end Go.Proofs.Ytpaolllkpmkgkaa
