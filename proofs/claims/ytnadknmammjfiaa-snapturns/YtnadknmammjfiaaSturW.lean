/- SnapTurns: the walk. -/
import Derived.Test.YtnadknmammjfiaaSturA
namespace Go.Proofs.Ytnadknmammjfiaa
open Go.RowKit
set_option linter.unusedVariables false
set_option maxRecDepth 4000
attribute [local go_sem ↓] ldS_of
attribute [local go_sem] eql36 eqGuard36 sv_is

set_option maxRecDepth 100000 in
set_option maxHeartbeats 8000000 in
theorem sturn_walk (a : Option Addr) (l : List (List Int)) (c : Nat) (hl : l.length ≤ 12) (w : World) (hA : PartsA w a l) (hB : ∀ q ∈ l, Byt q ∧ q.length ≤ maxLen) :
    Calls Try.prog 6 #[.slice a l.length c] w fun e w' => e = .returned (.bool true) ∧ Below w.heap.size w w' := by
  have hml : maxLen = 9223372036854775807 := rfl
  rw [hml] at hB
  have HA := hide hA
  have HBB := hide hB
  have HNW : Hid (Calls Try.prog 10 #[.int .i64 32] w fun e w' => ∃ g gs, e = .returned (.tuple #[.pointer (some ⟨g, 0, none⟩), .int .i64 0]) ∧ Dsk 71 82 w' w.heap.size g gs (List.replicate 32 zeroS) [] ∧ Below w.heap.size w w') := new_yes 32 (by omega) (by omega) w
  obtain ⟨i36, hi36, hz36⟩ := Try.zero44
  have hl' : ¬ (12 : Int) < (l.length : Int) := by omega
  clear hA hB hml
  go_enter Try.func6, Try.ntmps6
  go_wp2_with (go_at_call 10; (with_reducible refine (unhide HNW).mono ?_); rintro e w1 ⟨g, gs, rfl, hd1, hb1⟩; have HS1 := hide (snp_new hd1 (by omega)); have HB1 := hide hb1; clear hd1 hb1)
  have HR0 : Hid (∀ (W : World) (S : List Sct) (x y : Option (Int × List Int)), Snp W w.heap.size g gs S x y → Calls Try.prog 22 #[.pointer (some ⟨g, 0, none⟩), .int .i64 0] W fun e w' => e = .returned (.tuple #[sv (S.getD 0 zeroS), .int .i64 0]) ∧ Below W.heap.size W w') := fun W S x y h => h.read 0 (by omega)
  have HR16 : Hid (∀ (W : World) (S : List Sct) (x y : Option (Int × List Int)), Snp W w.heap.size g gs S x y → Calls Try.prog 22 #[.pointer (some ⟨g, 0, none⟩), .int .i64 16] W fun e w' => e = .returned (.tuple #[sv (S.getD 16 zeroS), .int .i64 0]) ∧ Below W.heap.size W w') := fun W S x y h => h.read 16 (by omega)
  clear hl'
  go_loopw [5] (fun i wr => ∃ (k : Nat) (S : List Sct) (x y : Option (Int × List Int)), k ≤ l.length ∧ i = .int .i64 k ∧ Snp wr w.heap.size g gs S x y ∧ Tn k x y ∧ Below w.heap.size w wr) (fun i _ => l.length - (intOf i).toNat)
  case atStart => exact ⟨0, _, _, _, Nat.zero_le _, rfl, unhide HS1, tn_zero, unhide HB1⟩
  case round =>
    obtain ⟨k, S, x, y, hk, rfl, r1, r2, r5⟩ := hrel
    have R1 := hide r1
    have R2 := hide r2
    have R5 := hide r5
    clear r1 r2 r5 HS1 HB1 HNW
    by_cases hlt : k < l.length
    · have hlt' : (k : Int) < (l.length : Int) := by omega
      obtain ⟨b, off, a', c', eb, h1w, h2w⟩ := part_at (unhide HA) hlt
      obtain ⟨h3, h4⟩ := unhide HBB (l.getD k []) (by rw [List.getD_eq_getElem?_getD, List.getElem?_eq_getElem hlt]; exact List.getElem_mem hlt)
      subst eb
      by_cases hl7 : (l.getD k []).length ≤ 700
      · have hl7' : ¬ (700 : Int) < ((l.getD k []).length : Int) := by omega
        have hwr : IntKind.u32.wrap ((k : Int) + 1) = (k : Int) + 1 := by rw [IntKind.wrap_u32]; omega
        rcases Nat.mod_two_eq_zero_or_one k with hp | hp
        · have hsp : 16 * (k % 2) = 0 := by omega
          have e1 : ((k : Int) + 1) % 2 = 1 := by omega
          have e2 : (k : Int) % 2 = 0 := by omega
          have t1 : ((k : Int) + 1).tmod 2 = 1 := by rw [Int.tmod_eq_emod_of_nonneg (by omega)]; exact e1
          have t2 : (k : Int).tmod 2 = 0 := by rw [Int.tmod_eq_emod_of_nonneg (by omega)]; exact e2
          have HRO := hide (unhide HR16 _ _ _ _ (unhide R1))
          have HSV := hide (sturn_save (unhide R1) (unhide R5) (unhide R2) (by omega) h3 hl7 c' h2w)
          rw [hsp] at HSV
          have HOF := hide (over_far S 0 16 ((k : Int) + 1) (l.getD k []) (by have := (unhide R1).len; omega) (by have := (unhide R1).len; omega) (by omega) (by omega))
          have HHD := hide (sn_head S 0 ((k : Int) + 1) (l.getD k []) (by have := (unhide R1).len; omega) (by omega))
          have HBY : Hid (∀ (W : World) (C : Option Addr) (cc : Nat), BysA W C (l.getD k []) → Below w.heap.size w W → Calls Try.prog 16 #[.slice C (l.getD k []).length cc, .slice a' (l.getD k []).length c'] W fun e w' => e = .returned (.bool true) ∧ w' = W) := fun W C cc hC hW => bytes_same C a' _ _ _ cc c' W rfl rfl hC (bysA_below h2w hW)
          have HCL : Hid (∀ W : World, Below w.heap.size w W → W.cell? ⟨b, off + k, none⟩ = some (.slice a' (l.getD k []).length c')) := fun W hW => by rw [hW.cell (World.block_lt_of_cell? _ _ h1w)]; exact h1w
          have HLD : Hid (∀ (W : World) (S' : List Sct) (x' y' : Option (Int × List Int)), Snp W w.heap.size g gs S' x' y' → newX x' y' = some (0, (k : Int) + 1, l.getD k []) → Calls Try.prog 14 #[.pointer (some ⟨g, 0, none⟩)] W fun e w' => ∃ A c, e = .returned (.tuple #[.int .u32 ((k : Int) + 1), .slice A (l.getD k []).length c, .int .i64 0]) ∧ BysA w' A (l.getD k []) ∧ Below W.heap.size W w') := fun W S' x' y' h hn => h.load_some hn
          have h1 := unhide HCL wr (unhide R5)
          have HDL := hide (unhide R1).dsk.lt
          have hz : (S.getD 16 zeroS) = (S.getD 16 zeroS) := rfl
          clear h1w h2w h3 hz
          generalize (l.getD k []).length = pl at *
          generalize S.getD 16 zeroS = so at *
          go_wp2_with (first
            | (go_at_call 16; (with_reducible refine (unhide HBY _ A12 c12 (unhide HY12) (unhide HB12)).mono ?_); rintro e w13 ⟨rfl, hw13⟩; have HB13 := hide (show Below w.heap.size w w13 from hw13 ▸ unhide HB12); have HS13 := hide (show Snp w13 w.heap.size g gs _ x' y' from hw13 ▸ unhide HS12); clear hw13)
            | (go_at_call 14; (with_reducible refine (unhide HLD _ _ _ _ (unhide HS11) (unhide HX5)).mono ?_); rintro e w12 ⟨A12, c12, rfl, hy12, hb12⟩; have HY12 := hide hy12; have HS12 := hide ((unhide HS11).below hb12); have HB12 := hide (below_then (unhide HB11) hb12); have q12 := (unhide HV11).below hb12; have r12 := (unhide HN11).below hb12; have l1 := ldS_is w2.heap.size 0 so w12 (by simpa using secs_range q12); have l2 := ldS_is w6.heap.size 0 so w12 (by simpa using secs_range r12); have m0 := first_cell ((unhide HM11).below hb12); rw [unhide HHM] at m0; have h12 := unhide HCL w12 (unhide HB12); clear hy12 hb12 q12 r12)
            | ((with_reducible refine wpList_storeS Try.size44 _ _ w9.heap.size 0 tm ?_ ?_ (secs_there (secs_new hg10)) ?_); (focus rfl); (focus rfl); intro w11 H11; obtain ⟨hb11, hs11, hX11⟩ := var_put hb10 hs10 hg10 H11; have HM11 := hide hX11; have HS11 := hide ((unhide HS9).below hb11); have HB11 := hide (below_then (unhide HB9) hb11); have HV11 := hide ((unhide HV9).below hb11); have HN11 := hide ((unhide HN9).below hb11); clear hs10 hb10 hg10 H11 hX11 hb11 hs11)
            | ((with_reducible refine wpList_storeS Try.size44 _ _ w6.heap.size 0 so ?_ ?_ (secs_there (secs_new hg7)) ?_); (focus rfl); (focus rfl); intro w8 H8; obtain ⟨hb8, hs8, hX8⟩ := var_put hb7 hs7 hg7 H8; have HN8 := hide hX8; have HS8 := hide ((unhide HS6).below hb8); have HB8 := hide (below_then (unhide HB6) hb8); have HV8 := hide ((unhide HV6).below hb8); clear hs7 hb7 hg7 H8 hX8 hb8 hs8)
            | ((with_reducible refine wpList_storeS Try.size44 _ _ w2.heap.size 0 so ?_ ?_ (secs_there (secs_new hg3)) ?_); (focus rfl); (focus rfl); intro w4 H4; obtain ⟨hb4, hs4, hX4⟩ := var_put hb3 hs3 hg3 H4; have HV4 := hide hX4; have HB24 := hide (below_then (unhide HB2) hb4); have HBW4 := hide (below_then (unhide R5) (unhide HB24)); have h4c := unhide HCL w4 (unhide HBW4); clear hs3 hb3 hg3 H4 hX4 hb4 hs4)
            | (go_at_call 22; (with_reducible refine (unhide HR0 _ _ _ _ (unhide HS8)).mono ?_); rintro e w9 ⟨rfl, hb9⟩; have HHM := hide (unhide HHD); have HS9 := hide ((unhide HS8).below hb9); have HB9 := hide (below_then (unhide HB8) hb9); have HV9 := hide ((unhide HV8).below hb9); have HN9 := hide ((unhide HN8).below hb9); obtain ⟨tm, htm⟩ : ∃ tm, tm = (overS S 0 (snS ((k : Int) + 1) (l.getD k []))).getD 0 zeroS := ⟨_, rfl⟩; rw [← htm] at HHM ⊢; clear hb9 htm)
            | (go_at_call 22; (with_reducible refine (unhide HR16 _ _ _ _ (unhide HS5)).mono ?_); rintro e w6 ⟨rfl, hb6⟩; rw [unhide HOF]; have HS6 := hide ((unhide HS5).below hb6); have HB6 := hide (below_then (unhide HB5) hb6); have HV6 := hide ((unhide HV5).below hb6); clear hb6)
            | (go_at_call 12; (with_reducible refine (unhide HSV w4 (unhide HB24)).mono ?_); rintro e w5 ⟨rfl, x', y', k1, k2, k3, k4, k5⟩; have HS5 := hide k1; have HTN := hide k2; have HX5 := hide k3; have HB5 := hide k5; have HV5 := hide (secs_turned ((unhide R1).dsk.below (unhide HB24)) k4 (unhide HV4) (by have := unhide HDL; have := (unhide HB2).size; omega) (by have := unhide HDL; have := (unhide HB2).size; omega)); clear k1 k2 k3 k4 k5)
            | (go_at_call 22; (with_reducible refine (unhide HRO).mono ?_); rintro e w2 ⟨rfl, hb2⟩; have HB2 := hide hb2; clear hb2)
            | (have zz := HS9; clear zz; (with_reducible refine wpList_allocT 44 i36 (sv zeroS) hi36 hz36 ?_); intro w10 hb10 hs10 hg10)
            | (have zz := HS6; clear zz; (with_reducible refine wpList_allocT 44 i36 (sv zeroS) hi36 hz36 ?_); intro w7 hb7 hs7 hg7)
            | ((with_reducible refine wpList_allocT 44 i36 (sv zeroS) hi36 hz36 ?_); intro w3 hb3 hs3 hg3))
          go_roundw
          case rel => exact ⟨k + 1, _, x', y', by omega, by go_num, unhide HS13, unhide HTN, unhide HB13⟩
          case measure => simp [intOf]; omega
        · have hsp : 16 * (k % 2) = 16 := by omega
          have e1 : ((k : Int) + 1) % 2 = 0 := by omega
          have e2 : (k : Int) % 2 = 1 := by omega
          have t1 : ((k : Int) + 1).tmod 2 = 0 := by rw [Int.tmod_eq_emod_of_nonneg (by omega)]; exact e1
          have t2 : (k : Int).tmod 2 = 1 := by rw [Int.tmod_eq_emod_of_nonneg (by omega)]; exact e2
          have HRO := hide (unhide HR0 _ _ _ _ (unhide R1))
          have HSV := hide (sturn_save (unhide R1) (unhide R5) (unhide R2) (by omega) h3 hl7 c' h2w)
          rw [hsp] at HSV
          have HOF := hide (over_far S 16 0 ((k : Int) + 1) (l.getD k []) (by have := (unhide R1).len; omega) (by have := (unhide R1).len; omega) (by omega) (by omega))
          have HHD := hide (sn_head S 16 ((k : Int) + 1) (l.getD k []) (by have := (unhide R1).len; omega) (by omega))
          have HBY : Hid (∀ (W : World) (C : Option Addr) (cc : Nat), BysA W C (l.getD k []) → Below w.heap.size w W → Calls Try.prog 16 #[.slice C (l.getD k []).length cc, .slice a' (l.getD k []).length c'] W fun e w' => e = .returned (.bool true) ∧ w' = W) := fun W C cc hC hW => bytes_same C a' _ _ _ cc c' W rfl rfl hC (bysA_below h2w hW)
          have HCL : Hid (∀ W : World, Below w.heap.size w W → W.cell? ⟨b, off + k, none⟩ = some (.slice a' (l.getD k []).length c')) := fun W hW => by rw [hW.cell (World.block_lt_of_cell? _ _ h1w)]; exact h1w
          have HLD : Hid (∀ (W : World) (S' : List Sct) (x' y' : Option (Int × List Int)), Snp W w.heap.size g gs S' x' y' → newX x' y' = some (16, (k : Int) + 1, l.getD k []) → Calls Try.prog 14 #[.pointer (some ⟨g, 0, none⟩)] W fun e w' => ∃ A c, e = .returned (.tuple #[.int .u32 ((k : Int) + 1), .slice A (l.getD k []).length c, .int .i64 0]) ∧ BysA w' A (l.getD k []) ∧ Below W.heap.size W w') := fun W S' x' y' h hn => h.load_some hn
          have h1 := unhide HCL wr (unhide R5)
          have HDL := hide (unhide R1).dsk.lt
          have hz : (S.getD 0 zeroS) = (S.getD 0 zeroS) := rfl
          clear h1w h2w h3 hz
          generalize (l.getD k []).length = pl at *
          generalize S.getD 0 zeroS = so at *
          go_wp2_with (first
            | (go_at_call 16; (with_reducible refine (unhide HBY _ A12 c12 (unhide HY12) (unhide HB12)).mono ?_); rintro e w13 ⟨rfl, hw13⟩; have HB13 := hide (show Below w.heap.size w w13 from hw13 ▸ unhide HB12); have HS13 := hide (show Snp w13 w.heap.size g gs _ x' y' from hw13 ▸ unhide HS12); clear hw13)
            | (go_at_call 14; (with_reducible refine (unhide HLD _ _ _ _ (unhide HS11) (unhide HX5)).mono ?_); rintro e w12 ⟨A12, c12, rfl, hy12, hb12⟩; have HY12 := hide hy12; have HS12 := hide ((unhide HS11).below hb12); have HB12 := hide (below_then (unhide HB11) hb12); have q12 := (unhide HV11).below hb12; have r12 := (unhide HN11).below hb12; have l1 := ldS_is w2.heap.size 0 so w12 (by simpa using secs_range q12); have l2 := ldS_is w6.heap.size 0 so w12 (by simpa using secs_range r12); have m0 := first_cell ((unhide HM11).below hb12); rw [unhide HHM] at m0; have h12 := unhide HCL w12 (unhide HB12); clear hy12 hb12 q12 r12)
            | ((with_reducible refine wpList_storeS Try.size44 _ _ w9.heap.size 0 tm ?_ ?_ (secs_there (secs_new hg10)) ?_); (focus rfl); (focus rfl); intro w11 H11; obtain ⟨hb11, hs11, hX11⟩ := var_put hb10 hs10 hg10 H11; have HM11 := hide hX11; have HS11 := hide ((unhide HS9).below hb11); have HB11 := hide (below_then (unhide HB9) hb11); have HV11 := hide ((unhide HV9).below hb11); have HN11 := hide ((unhide HN9).below hb11); clear hs10 hb10 hg10 H11 hX11 hb11 hs11)
            | ((with_reducible refine wpList_storeS Try.size44 _ _ w6.heap.size 0 so ?_ ?_ (secs_there (secs_new hg7)) ?_); (focus rfl); (focus rfl); intro w8 H8; obtain ⟨hb8, hs8, hX8⟩ := var_put hb7 hs7 hg7 H8; have HN8 := hide hX8; have HS8 := hide ((unhide HS6).below hb8); have HB8 := hide (below_then (unhide HB6) hb8); have HV8 := hide ((unhide HV6).below hb8); clear hs7 hb7 hg7 H8 hX8 hb8 hs8)
            | ((with_reducible refine wpList_storeS Try.size44 _ _ w2.heap.size 0 so ?_ ?_ (secs_there (secs_new hg3)) ?_); (focus rfl); (focus rfl); intro w4 H4; obtain ⟨hb4, hs4, hX4⟩ := var_put hb3 hs3 hg3 H4; have HV4 := hide hX4; have HB24 := hide (below_then (unhide HB2) hb4); have HBW4 := hide (below_then (unhide R5) (unhide HB24)); have h4c := unhide HCL w4 (unhide HBW4); clear hs3 hb3 hg3 H4 hX4 hb4 hs4)
            | (go_at_call 22; (with_reducible refine (unhide HR16 _ _ _ _ (unhide HS8)).mono ?_); rintro e w9 ⟨rfl, hb9⟩; have HHM := hide (unhide HHD); have HS9 := hide ((unhide HS8).below hb9); have HB9 := hide (below_then (unhide HB8) hb9); have HV9 := hide ((unhide HV8).below hb9); have HN9 := hide ((unhide HN8).below hb9); obtain ⟨tm, htm⟩ : ∃ tm, tm = (overS S 16 (snS ((k : Int) + 1) (l.getD k []))).getD 16 zeroS := ⟨_, rfl⟩; rw [← htm] at HHM ⊢; clear hb9 htm)
            | (go_at_call 22; (with_reducible refine (unhide HR0 _ _ _ _ (unhide HS5)).mono ?_); rintro e w6 ⟨rfl, hb6⟩; rw [unhide HOF]; have HS6 := hide ((unhide HS5).below hb6); have HB6 := hide (below_then (unhide HB5) hb6); have HV6 := hide ((unhide HV5).below hb6); clear hb6)
            | (go_at_call 12; (with_reducible refine (unhide HSV w4 (unhide HB24)).mono ?_); rintro e w5 ⟨rfl, x', y', k1, k2, k3, k4, k5⟩; have HS5 := hide k1; have HTN := hide k2; have HX5 := hide k3; have HB5 := hide k5; have HV5 := hide (secs_turned ((unhide R1).dsk.below (unhide HB24)) k4 (unhide HV4) (by have := unhide HDL; have := (unhide HB2).size; omega) (by have := unhide HDL; have := (unhide HB2).size; omega)); clear k1 k2 k3 k4 k5)
            | (go_at_call 22; (with_reducible refine (unhide HRO).mono ?_); rintro e w2 ⟨rfl, hb2⟩; have HB2 := hide hb2; clear hb2)
            | (have zz := HS9; clear zz; (with_reducible refine wpList_allocT 44 i36 (sv zeroS) hi36 hz36 ?_); intro w10 hb10 hs10 hg10)
            | (have zz := HS6; clear zz; (with_reducible refine wpList_allocT 44 i36 (sv zeroS) hi36 hz36 ?_); intro w7 hb7 hs7 hg7)
            | ((with_reducible refine wpList_allocT 44 i36 (sv zeroS) hi36 hz36 ?_); intro w3 hb3 hs3 hg3))
          go_roundw
          case rel => exact ⟨k + 1, _, x', y', by omega, by go_num, unhide HS13, unhide HTN, unhide HB13⟩
          case measure => simp [intOf]; omega
      · have hl7' : (700 : Int) < ((l.getD k []).length : Int) := by omega
        have h1 : wr.cell? ⟨b, off + k, none⟩ = some (.slice a' (l.getD k []).length c') := by rw [(unhide R5).cell (World.block_lt_of_cell? _ _ h1w)]; exact h1w
        clear h1w h2w h3
        generalize (l.getD k []).length = pl at *
        go_wp2_with (go_at_call 9; (with_reducible refine (wakesS _).mono ?_); rintro e w9 ⟨rfl, hb9⟩; have HB9 := hide (below_then (unhide R5) hb9); clear hb9)
        go_ret
        exact ⟨rfl, unhide HB9⟩
    · obtain rfl : k = l.length := by omega
      go_wp2_with (go_at_call 9; (with_reducible refine (wakesS _).mono ?_); rintro e w9 ⟨rfl, hb9⟩; have HB9 := hide (below_then (unhide R5) hb9); clear hb9)
      go_ret
      exact ⟨rfl, unhide HB9⟩
end Go.Proofs.Ytnadknmammjfiaa
