/- SnapElder. -/
import Derived.Test.YtnadknmammjfiaaSwk
import Derived.Deep.CutBlock
import Derived.BigQuiet
namespace Go.Proofs.Ytnadknmammjfiaa
open Go.RowKit
set_option linter.unusedVariables false
set_option maxRecDepth 4000

theorem bytes_same (A B : Option Addr) (bs : List Int) (n m c d : Nat) (w : World) (hn : n = bs.length) (hm : m = bs.length) (hA : BysA w A bs) (hB : BysA w B bs) :
    Calls Try.prog 16 #[.slice A n c, .slice B m d] w fun e w' => e = .returned (.bool true) ∧ w' = w := by
  subst hn hm
  have v1 : (convert 33 9 (.slice A bs.length c)).run Try.prog w = .ok (.string (strOfNums bs)) w := conv_any hA
  have v2 : (convert 33 9 (.slice B bs.length d)).run Try.prog w = .ok (.string (strOfNums bs)) w := conv_any hB
  clear hA hB
  generalize strOfNums bs = t at *
  generalize bs.length = pl at *
  go_enter Try.func16, Try.ntmps16
  go_wp2
  go_ret
  exact ⟨rfl, rfl⟩
theorem new_X {x y : Int} {a b : List Int} : newX (some (x, a)) (some (y, b)) = if x < y then some (16, y, b) else some (0, x, a) := rfl

theorem seld_no (A B : Option Addr) (n m ca cb : Nat) (n0 n1 : Int) (h : 500 < n ∨ 500 < m) (hn : n ≤ maxLen) (hm : m ≤ maxLen) (w : World) :
    Calls Try.prog 7 #[.slice A n ca, .slice B m cb, .agg #[.int .u8 n0, .int .u8 n1]] w fun e w' => e = .returned (.bool true) ∧ Below w.heap.size w w' := by
  have hml : maxLen = 9223372036854775807 := rfl
  rw [hml] at hn hm
  have hb0 : Below w.heap.size w (w.alloc (.cells #[.int .u8 n0, .int .u8 n1] 66)) := below_alloc (Below.refl _ _) _
  by_cases h1 : 500 < n
  · have h1' : (500 : Int) < (n : Int) := by omega
    go_enter Try.func7, Try.ntmps7
    go_wp2_with (go_at_call 9; refine (wakesS _).mono ?_; rintro e w3 ⟨rfl, hb⟩)
    go_ret
    exact ⟨rfl, below_then hb0 hb⟩
  · have h1' : ¬ (500 : Int) < (n : Int) := by omega
    have h2' : (500 : Int) < (m : Int) := by omega
    go_enter Try.func7, Try.ntmps7
    go_wp2_with (go_at_call 9; refine (wakesS _).mono ?_; rintro e w3 ⟨rfl, hb⟩)
    go_ret
    exact ⟨rfl, below_then hb0 hb⟩

set_option maxHeartbeats 4000000 in
theorem seld_walk (A B : Option Addr) (a b : List Int) (ca cb : Nat) (n0 n1 : Int) (h0 : 0 ≤ n0 ∧ n0 ≤ 255) (h1 : 0 ≤ n1 ∧ n1 ≤ 255) (la : a.length ≤ 500) (lb : b.length ≤ 500) (hBa : Byt a) (hBb : Byt b) (w : World) (hA : BysA w A a) (hB : BysA w B b) :
    Calls Try.prog 7 #[.slice A a.length ca, .slice B b.length cb, .agg #[.int .u8 n0, .int .u8 n1]] w fun e w' => e = .returned (.bool true) ∧ Below w.heap.size w w' := by
  have HB0 : Hid (Below w.heap.size w (w.alloc (.cells #[.int .u8 n0, .int .u8 n1] 66))) := below_alloc (Below.refl _ _) _
  have HN0 : Hid ((w.alloc (.cells #[.int .u8 n0, .int .u8 n1] 66)).heap[w.heap.size]? = some (.cells #[.int .u8 n0, .int .u8 n1] 66 (0, 0))) := heap_alloc_last _ _
  have HYA := hide (bysA_below hA (unhide HB0))
  have HYB := hide (bysA_below hB (unhide HB0))
  generalize hw1 : w.alloc (.cells #[.int .u8 n0, .int .u8 n1] 66) = w1 at *
  have HW1 := hide hw1
  have HNW : Hid (Calls Try.prog 10 #[.int .i64 32] w1 fun e w' => ∃ g gs, e = .returned (.tuple #[.pointer (some ⟨g, 0, none⟩), .int .i64 0]) ∧ Dsk 71 82 w' w1.heap.size g gs (List.replicate 32 zeroS) [] ∧ Below w1.heap.size w1 w') := new_yes 32 (by omega) (by omega) w1
  have hx : 0 ≤ n0 % 5 ∧ n0 % 5 ≤ 4 := by omega
  have hy : 0 ≤ n1 % 5 ∧ n1 % 5 ≤ 4 := by omega
  have HSA : Hid (∀ (W : World) (g gs : Nat), Snp W w1.heap.size g gs (List.replicate 32 zeroS) none none → Below w1.heap.size w1 W → Calls Try.prog 12 #[.pointer (some ⟨g, 0, none⟩), .int .u32 (n0 % 5), .slice A a.length ca] W fun e w' => e = .returned (.int .i64 0) ∧ Snp w' w1.heap.size g gs (overS (List.replicate 32 zeroS) 0 (snS (n0 % 5) a)) (some (n0 % 5, a)) none ∧ Below w1.heap.size w1 w') := fun W g gs h hb => h.save_in (n0 % 5) (by omega) A a ca (bysA_below (unhide HYA) hb) hBa (by omega) hb rfl
  have HSB : Hid (∀ (W : World) (g gs : Nat), Snp W w1.heap.size g gs (overS (List.replicate 32 zeroS) 0 (snS (n0 % 5) a)) (some (n0 % 5, a)) none → Below w1.heap.size w1 W → Calls Try.prog 12 #[.pointer (some ⟨g, 0, none⟩), .int .u32 (n1 % 5), .slice B b.length cb] W fun e w' => e = .returned (.int .i64 0) ∧ Snp w' w1.heap.size g gs (overS (overS (List.replicate 32 zeroS) 0 (snS (n0 % 5) a)) 16 (snS (n1 % 5) b)) (some (n0 % 5, a)) (some (n1 % 5, b)) ∧ Below w1.heap.size w1 w') := fun W g gs h hb => h.save_in (n1 % 5) (by omega) B b cb (bysA_below (unhide HYB) hb) hBb (by omega) hb rfl
  have HBA : Hid (∀ (W : World) (C : Option Addr) (c : Nat), BysA W C a → Below w1.heap.size w1 W → Calls Try.prog 16 #[.slice C a.length c, .slice A a.length ca] W fun e w' => e = .returned (.bool true) ∧ w' = W) := fun W C c hC hb => bytes_same C A a _ _ c ca W rfl rfl hC (bysA_below (unhide HYA) hb)
  have HBB : Hid (∀ (W : World) (C : Option Addr) (c : Nat), BysA W C b → Below w1.heap.size w1 W → Calls Try.prog 16 #[.slice C b.length c, .slice B b.length cb] W fun e w' => e = .returned (.bool true) ∧ w' = W) := fun W C c hC hb => bytes_same C B b _ _ c cb W rfl rfl hC (bysA_below (unhide HYB) hb)
  have la' : ¬ (500 : Int) < (a.length : Int) := by omega
  have lb' : ¬ (500 : Int) < (b.length : Int) := by omega
  have HNC : Hid (∀ W : World, Below w1.heap.size w1 W → W.heap[w.heap.size]? = some (.cells #[.int .u8 n0, .int .u8 n1] 66 (0, 0))) := fun W hW => (hW.block _ (lt_of_get (unhide HN0))).trans (unhide HN0)
  have hm0 : n0.tmod 5 = n0 % 5 := Int.tmod_eq_emod_of_nonneg h0.1
  have hm1 : n1.tmod 5 = n1 % 5 := Int.tmod_eq_emod_of_nonneg h1.1
  have hw0 : IntKind.u32.wrap n0 = n0 := by rw [IntKind.wrap_u32]; omega
  have hw1' : IntKind.u32.wrap n1 = n1 := by rw [IntKind.wrap_u32]; omega
  have HLD : Hid (∀ (W : World) (g gs : Nat) (S : List Sct), Snp W w1.heap.size g gs S (some (n0 % 5, a)) (some (n1 % 5, b)) → (n0 % 5 < n1 % 5 → Calls Try.prog 14 #[.pointer (some ⟨g, 0, none⟩)] W fun e w' => ∃ A c, e = .returned (.tuple #[.int .u32 (n1 % 5), .slice A b.length c, .int .i64 0]) ∧ BysA w' A b ∧ Below W.heap.size W w') ∧ (¬ n0 % 5 < n1 % 5 → Calls Try.prog 14 #[.pointer (some ⟨g, 0, none⟩)] W fun e w' => ∃ A c, e = .returned (.tuple #[.int .u32 (n0 % 5), .slice A a.length c, .int .i64 0]) ∧ BysA w' A a ∧ Below W.heap.size W w')) := fun W g gs S h => ⟨fun hlt => h.load_some (p := 16) (by rw [new_X, if_pos hlt]), fun hlt => h.load_some (p := 0) (by rw [new_X, if_neg hlt])⟩
  clear hA hB hBa hBb hw1 la lb
  generalize a.length = al at *
  generalize b.length = bl at *
  by_cases hlt : n0 % 5 < n1 % 5
  · have HL : Hid (∀ (W : World) (g gs : Nat) (S : List Sct), Snp W w1.heap.size g gs S (some (n0 % 5, a)) (some (n1 % 5, b)) → Calls Try.prog 14 #[.pointer (some ⟨g, 0, none⟩)] W fun e w' => ∃ A c, e = .returned (.tuple #[.int .u32 (n1 % 5), .slice A bl c, .int .i64 0]) ∧ BysA w' A b ∧ Below W.heap.size W w') := fun W g gs S h => (unhide HLD W g gs S h).1 hlt
    clear HLD
    go_enter Try.func7, Try.ntmps7
    go_upto_region 3 with (fail)
    rw [unhide HW1]
    go_upto_region 4 with (go_at_call 10; (with_reducible refine (unhide HNW).mono ?_); rintro e w2 ⟨g, gs, rfl, hd2, hb2⟩; have HS2 := hide (snp_new hd2 (by omega)); have HB2 := hide hb2; clear hd2 hb2)
    have hq := unhide HNC w2 (unhide HB2)
    have c0 := (heap_cell hq 0).1
    have c1 := (heap_cell hq 1).1
    have hl2 := lt_of_get hq
    clear hq
    go_quiet (fail)
    have HS3 := hide ((unhide HS2).below (below_drewN (Below.refl _ _) nq))
    have HB3 : Hid (Below w1.heap.size w1 (w2.drewN nq)) := below_drewN (unhide HB2) nq
    clear HS2 HB2 c0 c1 hl2 hw0 hw1' hm0 hm1
    generalize w2.drewN nq = w3 at *
    go_wp2_with (first
      | (go_at_call 9; (with_reducible refine (wakesS _).mono ?_); rintro e w9 ⟨rfl, hb9⟩; have HB9 := hide (below_then (unhide HB7) hb9); clear hb9)
      | (go_at_call 16; (with_reducible refine (unhide HBB _ A6 c6 (unhide HY6) (unhide HB6)).mono ?_); rintro e w7 ⟨rfl, hw7⟩; have HB7 := hide (show Below w1.heap.size w1 w7 from hw7 ▸ unhide HB6); clear hw7)
      | (go_at_call 14; (with_reducible refine (unhide HL _ g gs _ (unhide HS5)).mono ?_); rintro e w6 ⟨A6, c6, rfl, hy6, hb6⟩; have HY6 := hide hy6; have HB6 := hide (below_then (unhide HB5) hb6); clear hy6 hb6)
      | (go_at_call 12; (with_reducible refine (unhide HSB _ g gs (unhide HS4) (unhide HB4)).mono ?_); rintro e w5 ⟨rfl, hs5, hb5⟩; have HS5 := hide hs5; have HB5 := hide hb5; clear hs5 hb5)
      | (go_at_call 12; (with_reducible refine (unhide HSA _ g gs (unhide HS3) (unhide HB3)).mono ?_); rintro e w4 ⟨rfl, hs4, hb4⟩; have HS4 := hide hs4; have HB4 := hide hb4; clear hs4 hb4))
    go_ret
    exact ⟨rfl, below_then (unhide HB0) (unhide HB9)⟩
  · have HL : Hid (∀ (W : World) (g gs : Nat) (S : List Sct), Snp W w1.heap.size g gs S (some (n0 % 5, a)) (some (n1 % 5, b)) → Calls Try.prog 14 #[.pointer (some ⟨g, 0, none⟩)] W fun e w' => ∃ A c, e = .returned (.tuple #[.int .u32 (n0 % 5), .slice A al c, .int .i64 0]) ∧ BysA w' A a ∧ Below W.heap.size W w') := fun W g gs S h => (unhide HLD W g gs S h).2 hlt
    clear HLD
    go_enter Try.func7, Try.ntmps7
    go_upto_region 3 with (fail)
    rw [unhide HW1]
    go_upto_region 4 with (go_at_call 10; (with_reducible refine (unhide HNW).mono ?_); rintro e w2 ⟨g, gs, rfl, hd2, hb2⟩; have HS2 := hide (snp_new hd2 (by omega)); have HB2 := hide hb2; clear hd2 hb2)
    have hq := unhide HNC w2 (unhide HB2)
    have c0 := (heap_cell hq 0).1
    have c1 := (heap_cell hq 1).1
    have hl2 := lt_of_get hq
    clear hq
    go_quiet (fail)
    have HS3 := hide ((unhide HS2).below (below_drewN (Below.refl _ _) nq))
    have HB3 : Hid (Below w1.heap.size w1 (w2.drewN nq)) := below_drewN (unhide HB2) nq
    clear HS2 HB2 c0 c1 hl2 hw0 hw1' hm0 hm1
    generalize w2.drewN nq = w3 at *
    go_wp2_with (first
      | (go_at_call 9; (with_reducible refine (wakesS _).mono ?_); rintro e w9 ⟨rfl, hb9⟩; have HB9 := hide (below_then (unhide HB7) hb9); clear hb9)
      | (go_at_call 16; (with_reducible refine (unhide HBA _ A6 c6 (unhide HY6) (unhide HB6)).mono ?_); rintro e w7 ⟨rfl, hw7⟩; have HB7 := hide (show Below w1.heap.size w1 w7 from hw7 ▸ unhide HB6); clear hw7)
      | (go_at_call 14; (with_reducible refine (unhide HL _ g gs _ (unhide HS5)).mono ?_); rintro e w6 ⟨A6, c6, rfl, hy6, hb6⟩; have HY6 := hide hy6; have HB6 := hide (below_then (unhide HB5) hb6); clear hy6 hb6)
      | (go_at_call 12; (with_reducible refine (unhide HSB _ g gs (unhide HS4) (unhide HB4)).mono ?_); rintro e w5 ⟨rfl, hs5, hb5⟩; have HS5 := hide hs5; have HB5 := hide hb5; clear hs5 hb5)
      | (go_at_call 12; (with_reducible refine (unhide HSA _ g gs (unhide HS3) (unhide HB3)).mono ?_); rintro e w4 ⟨rfl, hs4, hb4⟩; have HS4 := hide hs4; have HB4 := hide hb4; clear hs4 hb4))
    go_ret
    exact ⟨rfl, below_then (unhide HB0) (unhide HB9)⟩
end Go.Proofs.Ytnadknmammjfiaa
