/- The reference's bytes of an entry. -/
import Derived.Test.YtfceileohkngnaaRmath
import Derived.Deep.RegionLaw
namespace Go.Proofs.Ytfceileohkngnaa
open Go.RowKit
set_option linter.unusedVariables false
set_option maxRecDepth 4000

/-- A call of a function, as one step of a region that draws. -/
theorem step_call {P : Program} {ops : Array Oper} {w : World} {o : Oper} {a : Act} {K : Act → World → Prop} {Q : Exit → Act → World → Prop} {E : Prop} (hg : o.guard = none) (f : FuncId) (x : Operand) (t : TypeId)
    (ho : o.op = .call { callee := .value (.func f), args := #[x], argTypes := #[t] }) (hf : ∀ W : World, (execOp a.eval o).run P W = .ok (.enter f #[a.eval x]) W) (R : Value → World → Prop) (hc : Calls P f #[a.eval x] w fun e w' => ∃ v, e = .returned v ∧ R v w')
    (h : ∀ v w', R v w' → K (a.put o.dst v) w') : if Region.wanted o (yielded ops a.tmps) = true then o.wp P a w K Q else E := by
  rw [if_pos (by simp [Region.wanted, hg])]
  unfold Oper.wp
  rw [hf]
  refine hc.mono ?_
  rintro e w' ⟨v, rfl, hR⟩
  exact h v w' hR

theorem own_litB {X : World} {base : Nat} (x : Int) (hb : base ≤ X.heap.size) : (X.alloc (.cells #[.int .u8 x] 5)).ownsRow base 5 1 (.slice (some ⟨X.heap.size, 0, none⟩) 1 1) 1 [.int .u8 x] :=
  ⟨rfl, .inr ⟨_, 1, #[.int .u8 x], rfl, hb, heap_alloc_last _ _, Nat.le_refl _, by decide, rfl, rfl⟩⟩
theorem row_four {X : World} (e : Int) : RowA (X.alloc (.cells (fourV e) 5)) (some ⟨X.heap.size, 0, none⟩) ((four e).map (Value.int .u8)) := rowA_bys (bys_lit rfl rfl)
theorem ord_a {X : World} {base : Nat} (x e : Int) (hb : base ≤ X.heap.size) : ((X.alloc (.cells #[.int .u8 x] 5)).alloc (.cells (fourV e) 5)).ownsRow base 5 1 (.slice (some ⟨X.heap.size, 0, none⟩) 1 1) 1 [.int .u8 x] ∧ RowA ((X.alloc (.cells #[.int .u8 x] 5)).alloc (.cells (fourV e) 5)) (some ⟨X.heap.size + 1, 0, none⟩) ((four e).map (Value.int .u8)) := by
  have hz : (X.alloc (.cells #[.int .u8 x] 5)).heap.size = X.heap.size + 1 := by simp
  refine ⟨own_below (own_litB x hb) (below_alloc (Below.refl _ _) _), ?_⟩
  rw [← hz]
  exact row_four e
theorem ord_b {X : World} {base : Nat} (x e : Int) (hb : base ≤ X.heap.size) : ((X.alloc (.cells (fourV e) 5)).alloc (.cells #[.int .u8 x] 5)).ownsRow base 5 1 (.slice (some ⟨X.heap.size + 1, 0, none⟩) 1 1) 1 [.int .u8 x] ∧ RowA ((X.alloc (.cells (fourV e) 5)).alloc (.cells #[.int .u8 x] 5)) (some ⟨X.heap.size, 0, none⟩) ((four e).map (Value.int .u8)) := by
  have hz : (X.alloc (.cells (fourV e) 5)).heap.size = X.heap.size + 1 := by simp
  refine ⟨?_, rowA_below (row_four e) (below_alloc (Below.refl _ _) _)⟩
  rw [← hz]
  exact own_litB x (by rw [hz]; omega)

theorem parts_hd1 {W : World} {N : Nat} {a : Option Addr} {p : List Int} {c : Nat} (h0 : W.cell? ⟨N, 0, none⟩ = some (.slice a p.length c)) (ha : BysA W a p) : PartsA W (some ⟨N, 0, none⟩) [p] := by
  intro _
  refine ⟨N, 0, rfl, fun i hi => ?_⟩
  obtain rfl : i = 0 := by simp at hi; exact hi
  exact ⟨_, _, h0, ha⟩
theorem byts_hd1 {p : List Int} (h : Byt p) (hl : p.length ≤ maxLen) : Byts [p] := fun i => by
  match i with
  | 0 => exact ⟨h, hl⟩
  | i + 1 => exact ⟨byt_of (by simp), Nat.zero_le _⟩
set_option maxRecDepth 100000 in
set_option maxHeartbeats 8000000 in
theorem rfbytes_any (k e s : Int) (hk : 0 ≤ k ∧ k ≤ 255) (he : 0 ≤ e ∧ e ≤ 4294967295) (hs : 0 ≤ s ∧ s ≤ 4294967295) (A : Option Addr) (b : List Int) (cap : Nat) (hl : b.length ≤ 4000) (hB : Byt b) (w : World) (hA : BysA w A b) :
    Calls Try.prog 39 #[.agg #[.int .i64 k, .int .u32 e, .int .u32 s, .slice A b.length cap]] w fun x w' => ∃ v, x = .returned v ∧ w'.ownsRow w.heap.size 5 1 v (entL k e s b).length ((entL k e s b).map (Value.int .u8)) ∧ Below w.heap.size w w' := by
  have hwk : IntKind.u8.wrap k = k := by rw [IntKind.wrap_u8]; omega
  have hl0 : (b.length : Int) ≤ 4000 := by omega
  have HF := hide (fun (x : Int) (hx : 0 ≤ x ∧ x ≤ 4294967295) (W : World) => rfour_four x hx W)
  have HFV : Hid (∀ W : World, Calls Try.prog 60 #[.int .u32 e] W fun x w' => ∃ v, x = .returned v ∧ (v = .slice (some ⟨W.heap.size, 0, none⟩) 4 4 ∧ w' = W.alloc (.cells (fourV e) 5))) := fun W => (rfour_four e he W).mono (by rintro x w' ⟨rfl, rfl⟩; exact ⟨_, rfl, rfl, rfl⟩)
  have HFS : Hid (∀ W : World, Calls Try.prog 60 #[.int .u32 s] W fun x w' => x = .returned (.slice (some ⟨W.heap.size, 0, none⟩) 4 4) ∧ w' = W.alloc (.cells (fourV s) 5)) := fun W => rfour_four s hs W
  have HE := hide he
  have HS := hide hs
  have hb0 : Below w.heap.size w (w.alloc (.cells #[.int .i64 k, .int .u32 e, .int .u32 s, .slice A b.length cap] 33)) := below_alloc (Below.refl _ _) _
  have hn0 := heap_alloc_last w (.cells #[.int .i64 k, .int .u32 e, .int .u32 s, .slice A b.length cap] 33)
  have hz0 : (w.alloc (.cells #[.int .i64 k, .int .u32 e, .int .u32 s, .slice A b.length cap] 33)).heap.size = w.heap.size + 1 := by simp
  have HHL : Hid (([k] ++ four e) ++ four s ++ [(b.length : Int) / 256, (b.length : Int) % 256] ++ b = headL k e s b) := by
    show _ = _
    unfold headL leadL
    rw [show (b.length : Int) / 256 % 256 = (b.length : Int) / 256 by omega]
  have HEN : Hid (entL k e s b = headL k e s b ++ four (more 1 (headL k e s b))) := rfl
  have hhl := headL_len k e s b
  have hh2 : (headL k e s b).length ≤ 20000 := by omega
  have HHB := hide (headL_byt (e := e) (s := s) hk hB)
  have HML := hide (more_lim 1 (headL k e s b))
  have HSU : Hid (∀ (W : World) (A' : Option Addr) (c' : Nat), BysA W A' (headL k e s b) → Calls Try.prog 61 #[.slice (some ⟨W.heap.size, 0, none⟩) 1 1] (W.alloc (.cells #[.slice A' (headL k e s b).length c'] 23)) fun x w' => x = .returned (.int .u32 (more 1 (headL k e s b))) ∧ w' = W.alloc (.cells #[.slice A' (headL k e s b).length c'] 23)) := fun W A' c' hy => refsum_any (some ⟨W.heap.size, 0, none⟩) [headL k e s b] 1 _ (parts_hd1 (cell_lit rfl rfl) (bysA_alloc hy _)) (byts_hd1 (unhide HHB) (by show _ ≤ 9223372036854775807; omega)) (show 1 ≤ maxLen by decide)
  have HFM : Hid (∀ W : World, Calls Try.prog 60 #[.int .u32 (more 1 (headL k e s b))] W fun x w' => x = .returned (.slice (some ⟨W.heap.size, 0, none⟩) 4 4) ∧ w' = W.alloc (.cells (fourV (more 1 (headL k e s b))) 5)) := fun W => rfour_four _ (unhide HML) W
  generalize headL k e s b = h at *
  have HA := hide hA
  clear hA hB hk he hs hhl
  go_enter Try.func39, Try.ntmps39
  go_wp2
  generalize w.alloc (.cells #[.int .i64 k, .int .u32 e, .int .u32 s, .slice A b.length cap] 33) = w1 at *
  have x0 := (heap_cell hn0 0).1
  have x1 := (heap_cell hn0 1).1
  have x2 := (heap_cell hn0 2).1
  have x3 := (heap_cell hn0 3).1
  have hlt : w.heap.size < w1.heap.size := lt_of_get hn0
  obtain ⟨i5, hi5, hz5, hs5, hy5⟩ := info_parts Try.info5
  have HOA : Hid (((w1.alloc (.cells #[.int .u8 k] 5)).alloc (.cells (fourV e) 5)).drew.ownsRow w1.heap.size 5 1 (.slice (some ⟨w1.heap.size, 0, none⟩) 1 1) 1 [.int .u8 k] ∧ RowA ((w1.alloc (.cells #[.int .u8 k] 5)).alloc (.cells (fourV e) 5)).drew (some ⟨w1.heap.size + 1, 0, none⟩) ((four e).map (Value.int .u8))) := ord_a (X := w1) (base := w1.heap.size) k e (Nat.le_refl _)
  have HOB : Hid (((w1.alloc (.cells (fourV e) 5)).alloc (.cells #[.int .u8 k] 5)).drew.ownsRow w1.heap.size 5 1 (.slice (some ⟨w1.heap.size + 1, 0, none⟩) 1 1) 1 [.int .u8 k] ∧ RowA ((w1.alloc (.cells (fourV e) 5)).alloc (.cells #[.int .u8 k] 5)).drew (some ⟨w1.heap.size, 0, none⟩) ((four e).map (Value.int .u8))) := ord_b (X := w1) (base := w1.heap.size) k e (Nat.le_refl _)
  have HW1 := hide hb0
  have HBX := hide (fun (W : World) (h : Below w1.heap.size w1 W) => (h.block _ hlt).trans hn0)
  have HKP : Hid (∀ (c d : Array Value) (w3 : World) (q : Nat), ((w1.alloc (.cells c 5)).alloc (.cells d 5)).drew.grownBy w3 (some q) → w1.heap.size ≤ q → Below w1.heap.size w1 w3) := fun c d w3 q hg hq => by
    have hb2 : Below w1.heap.size w1 (((w1.alloc (.cells c 5)).alloc (.cells d 5)).drew) := Below.drew (below_alloc (below_alloc (Below.refl _ _) _) _)
    exact hb2.grown hg hb2.size (fun j hj => by cases hj; omega)
  clear hz0 hb0 hn0
  go_region_law (first
    | (refine step_call rfl 60 (.tmp 9) 22 rfl ?_ _ (unhide HFV _) ?_; (focus (intro W; go_simp)); rintro v w2 ⟨rfl, rfl⟩)
    | (refine step_append_row rfl _ _ 23 rfl w1.heap.size 5 i5 (.int .u8 0) 1 1 Try.underlying23 hi5 hz5 hs5 hy5 rfl (by decide) (by decide) (.slice (some ⟨w1.heap.size, 0, none⟩) 1 1) 1 [.int .u8 k] rfl (unhide HOA).1 (some ⟨w1.heap.size + 1, 0, none⟩) 4 4 ((four e).map (Value.int .u8)) rfl rfl (unhide HOA).2 (one_u8 _) (by decide) ?_ ?_; (focus (simp; omega)); intro v3 w3 ho3 hg3 _; have HO3 := hide ho3; have HK3 := hide (unhide HKP _ _ w3 _ hg3 (Nat.le_refl _)); clear ho3 hg3)
    | (refine step_append_row rfl _ _ 23 rfl w1.heap.size 5 i5 (.int .u8 0) 1 1 Try.underlying23 hi5 hz5 hs5 hy5 rfl (by decide) (by decide) (.slice (some ⟨w1.heap.size + 1, 0, none⟩) 1 1) 1 [.int .u8 k] rfl (unhide HOB).1 (some ⟨w1.heap.size, 0, none⟩) 4 4 ((four e).map (Value.int .u8)) rfl rfl (unhide HOB).2 (one_u8 _) (by decide) ?_ ?_; (focus (simp; omega)); intro v3 w3 ho3 hg3 _; have HO3 := hide ho3; have HK3 := hide (unhide HKP _ _ w3 _ hg3 (Nat.le_succ _)); clear ho3 hg3))
  all_goals
    have hx3 := unhide HBX _ (unhide HK3)
    have y2 := (heap_cell hx3 2).1
    have y3 := (heap_cell hx3 3).1
    have hlt3 : w.heap.size < w3.heap.size := lt_of_get hx3
    have HO3' : Hid (w3.ownsRow w1.heap.size 5 1 v3 ([k] ++ four e).length (([k] ++ four e).map (Value.int .u8))) := unhide HO3
    clear hx3 HO3 HOA HOB HKP x0 x1 x2 x3
    go_wp2_with (first
      | (go_at_call 61; (with_reducible refine (unhide HSU _ _ _ (unhide HY7)).mono ?_); rintro x w8 ⟨rfl, rfl⟩)
      | (go_at_call 60; (with_reducible refine (unhide HFM _).mono ?_); rintro x w9 ⟨rfl, rfl⟩)
      | (go_at_call 60; (with_reducible refine (unhide HFS _).mono ?_); rintro x w4 ⟨rfl, rfl⟩)
      | ((with_reducible refine wpList_appendB _ _ w1.heap.size v3 ([k] ++ four e) (four s) ?_ (own_below (unhide HO3') (below_alloc (Below.refl _ _) _)) (some ⟨w3.heap.size, 0, none⟩) 4 4 ?_ ?_ (bys_lit rfl rfl) ?_ ?_ ?_); (focus rfl); (focus rfl); (focus rfl); (focus (simp [four_len])); (focus (exact (below_alloc (unhide HK3) _).size)); intro v5 w5 ho5 hg5; have HB5 := hide ((below_alloc (unhide HK3) _).grown hg5 (below_alloc (unhide HK3) _).size (fun j hj => (own_block (unhide HO3') hj).1)); have hx5 := unhide HBX _ (unhide HB5); have z3 := (heap_cell hx5 3).1; have hlt5 : w.heap.size < w5.heap.size := (lt_of_get hx5); have HO5 := hide ho5; clear ho5 hg5 hx5)
      | ((with_reducible refine wpList_appendB _ _ w1.heap.size v5 (([k] ++ four e) ++ four s) [_, _] ?_ (own_below (unhide HO5) (below_alloc (Below.refl _ _) _)) (some ⟨w5.heap.size, 0, none⟩) 2 2 ?_ ?_ (bys_pair rfl) ?_ ?_ ?_); (focus rfl); (focus rfl); (focus rfl); (focus (simp [four_len])); (focus (exact (below_alloc (unhide HB5) _).size)); intro v6 w6 ho6 hg6; have HB6 := hide ((below_alloc (unhide HB5) _).grown hg6 (below_alloc (unhide HB5) _).size (fun j hj => (own_block (unhide HO5) hj).1)); have hx6 := unhide HBX _ (unhide HB6); have u3 := (heap_cell hx6 3).1; have hlt6 : w.heap.size < w6.heap.size := (lt_of_get hx6); have HO6 := hide ho6; have HY6 := hide (bysA_below (unhide HA) (below_then (unhide HW1) (unhide HB6))); clear ho6 hg6 hx6)
      | ((with_reducible refine wpList_appendB _ _ w1.heap.size v6 (([k] ++ four e) ++ four s ++ [(b.length : Int) / 256, (b.length : Int) % 256]) b ?_ (unhide HO6) A b.length cap ?_ ?_ (unhide HY6) ?_ (unhide HB6).size ?_); (focus rfl); (focus rfl); (focus rfl); (focus (simp [four_len]; omega)); intro v7 w7 ho7 hg7; have HB7 := hide ((unhide HB6).grown hg7 (unhide HB6).size (fun j hj => (own_block (unhide HO6) hj).1)); rw [unhide HHL] at ho7; obtain ⟨A7, c7, rfl, hy7, _⟩ := own_bys ho7; have HO7 := hide ho7; have HY7 := hide hy7; clear ho7 hg7 hy7)
      | ((with_reducible refine wpList_appendB _ _ w1.heap.size (.slice A7 h.length c7) h (four (more 1 h)) ?_ (own_below (unhide HO7) (below_alloc (below_alloc (Below.refl _ _) _) _)) (some ⟨w7.heap.size + 1, 0, none⟩) 4 4 ?_ ?_ (bys_four (by simp)) ?_ ?_ ?_); (focus rfl); (focus rfl); (focus rfl); (focus (rw [four_len]; omega)); (focus (exact (below_alloc (below_alloc (unhide HB7) _) _).size)); intro v9 w9 ho9 hg9; have HB9 := hide ((below_alloc (below_alloc (unhide HB7) _) _).grown hg9 (below_alloc (below_alloc (unhide HB7) _) _).size (fun j hj => (own_block (unhide HO7) hj).1)); have HO9 := hide ho9; clear ho9 hg9))
    go_ret
    rw [unhide HEN]
    exact ⟨_, rfl, own_mono (unhide HO9) (unhide HW1).size, below_then (unhide HW1) (unhide HB9)⟩
end Go.Proofs.Ytfceileohkngnaa
