/- ConfigLimits. -/
import Derived.Test.YtbbadncdkiganaaKlimw
namespace Go.Proofs.Ytbbadncdkiganaa
open Go.RowKit
set_option linter.unusedVariables false
set_option maxRecDepth 4000

theorem CfgO.addr {w : World} {base : Nat} {c : Cfg} {A1 A2 A3 : Option Addr} {n1 n2 n3 c1 c2 c3 : Nat} (h : CfgO w base c (.slice A1 n1 c1) (.slice A2 n2 c2) (.slice A3 n3 c3)) : CfgA w c A1 A2 A3 := by
  obtain ⟨Ap', Av', As', cp', cv', cs', e1, e2, e3, h⟩ := h.open
  simp only [Value.slice.injEq] at e1 e2 e3
  obtain ⟨rfl, _⟩ := e1
  obtain ⟨rfl, _⟩ := e2
  obtain ⟨rfl, _⟩ := e3
  exact h
theorem first_q (q : Nat) (hq : q < 8) (W : World) : Calls Try.prog 11 #[.int .i64 (1 + (q : Int))] W fun e w' => ∃ Ap cp Av cv, e = .returned (.tuple #[.agg #[.int .i64 32768, .int .i64 20, .int .i64 15, .slice Ap (q + 1) cp, .slice Av 1 cv, .slice none 0 0], .int .i64 0]) ∧ CfgA w' (firstC (q + 1)) Ap Av none ∧ Below W.heap.size W w' := by
  have h := first_yes (q + 1) (by omega) (by omega) W
  rw [show ((q + 1 : Nat) : Int) = 1 + (q : Int) from by omega] at h
  refine h.mono ?_
  rintro e w' ⟨Ap, cp, Av, cv, h1, h2, h3⟩
  refine ⟨Ap, cp, Av, cv, h1, ?_, h3⟩
  exact h2.addr
set_option maxHeartbeats 16000000 in
theorem limits_walk (x y : Int) (hx : 0 ≤ x ∧ x ≤ 255) (hy : 0 ≤ y ∧ y ≤ 255) (w : World) :
    Calls Try.prog 8 #[.int .u8 x, .int .u8 y] w fun e w' => e = .returned (.bool true) ∧ Below w.heap.size w w' := by
  obtain ⟨q, hq⟩ : ∃ q : Nat, y % 8 = (q : Int) := ⟨(y % 8).toNat, by omega⟩
  obtain ⟨m, hm⟩ : ∃ m : Nat, x % 40 = (m : Int) := ⟨(x % 40).toNat, by omega⟩
  have hq8 : q < 8 := by omega
  have hm40 : m < 40 := by omega
  obtain ⟨hx1, hx2⟩ := hx
  obtain ⟨hy1, hy2⟩ := hy
  have HF := hide (first_q q hq8)
  have hg := lim_g ⟨q, hq8⟩
  simp only at hg
  obtain ⟨e1, e2, e3, e4⟩ := hg
  have G1 := hide (fun W Ap Av cp cv N hA hN => err_one (q + 1) (by omega) ⟨8, 0, 0, 1, 0, 0, 0⟩ (by simp) 14 e1 (by decide) W Ap Av cp cv N hA hN)
  have G2 := hide (fun W Ap Av cp cv N hA hN => err_one (q + 1) (by omega) ⟨8, 0, 0, 2, 0, 0, 0⟩ (by simp) 13 e2 (by decide) W Ap Av cp cv N hA hN)
  have G3 := hide (fun W Ap Av cp cv N hA hN => err_one (q + 1) (by omega) ⟨5, 1 + (q : Int), 5, 0, 0, 0, 0⟩ (by simp) 1 e3 (by decide) W Ap Av cp cv N hA hN)
  have G4 := hide (fun W Ap Av cp cv N hA hN => err_one (q + 1) (by omega) ⟨5, 0, 0, 0, 0, 0, 0⟩ (by simp) 14 e4 (by decide) W Ap Av cp cv N hA hN)
  dsimp only at G1 G2 G3 G4
  clear e1 e2 e3 e4
  obtain ⟨en, hen⟩ : ∃ en, editE (firstC (q + 1)) (lims m) = en := ⟨_, rfl⟩
  have HLC := hide (fun W Ap Av A cp cv ce hA hE => lim_call q m hq8 hm40 W Ap Av A cp cv ce hA hE en hen)
  have hcase : (m ≤ 15 ∧ en = 0) ∨ (16 ≤ m ∧ m ≤ 32 ∧ en = 14) ∨ (33 ≤ m ∧ en = 3) := by
    rcases Nat.lt_or_ge m 16 with h | h
    · exact .inl ⟨by omega, by rw [← hen]; exact (lim_a ⟨q, hq8⟩ ⟨m, h⟩).1⟩
    · rcases Nat.lt_or_ge m 33 with h5 | h5
      · have := lim_b ⟨q, hq8⟩ ⟨m - 16, by omega⟩
        simp only [show m - 16 + 16 = m from by omega] at this
        exact .inr (.inl ⟨h, by omega, by rw [← hen]; exact this⟩)
      · have := lim_c ⟨q, hq8⟩ ⟨m - 33, by omega⟩
        simp only [show m - 33 + 33 = m from by omega] at this
        exact .inr (.inr ⟨h5, by rw [← hen]; exact this⟩)
  clear hen
  have HCASE := hide hcase
  clear hcase
  obtain ⟨i0, hi0, hz0, hz1, hz2⟩ := info_parts Try.info44
  have HZ0 := hide hz0
  have HZ1 := hide hz1
  have HZ2 := hide hz2
  clear hz0 hz1 hz2
  have hmm : (m : Int) < 40 := by omega
  go_enter Try.func8, Try.ntmps8
  go_wp2_with (go_at_call 11; (with_reducible refine (unhide HF _).mono ?_); rintro e w1 ⟨Ap, cp, Av, cv, rfl, ha, hb1⟩; have HA1 := hide ha; have HB1 := hide hb1; have HC1 := hide (heap_new w1 (.cells #[.int .i64 32768, .int .i64 20, .int .i64 15, .slice Ap (q + 1) cp, .slice Av 1 cv, .slice none 0 0] 26) _ rfl); clear ha hb1)
  have HA2 := hide ((unhide HA1).below (below_alloc (Below.refl _ _) (.cells #[.int .i64 32768, .int .i64 20, .int .i64 15, .slice Ap (q + 1) cp, .slice Av 1 cv, .slice none 0 0] 26)))
  have HB2 := hide (below_alloc (unhide HB1) (.cells #[.int .i64 32768, .int .i64 20, .int .i64 15, .slice Ap (q + 1) cp, .slice Av 1 cv, .slice none 0 0] 26))
  generalize w1.alloc (.cells #[.int .i64 32768, .int .i64 20, .int .i64 15, .slice Ap (q + 1) cp, .slice Av 1 cv, .slice none 0 0] 26) = w2 at *
  generalize w1.heap.size = cb at *
  have HOW0 : Hid (w2.ownsRow w2.heap.size 44 7 (.slice none 0 0) 0 (flE (lims 0))) := hide (World.ownsRow_nil _ _ _ _)
  rw [hm]
  go_loopg [8, 10] m (fun gg s8 s10 wr => ∃ i : Nat, i ≤ m ∧ m - i ≤ gg ∧ s10 = .int .i64 i ∧ Aside (wr.ownsRow w2.heap.size 44 7 s8 i (flE (lims i))) ∧ Aside (Below w2.heap.size w2 wr))
  case atStart => exact ⟨0, by omega, by omega, rfl, unhide HOW0, Below.refl _ _⟩
  case round =>
    obtain ⟨i, hi, hgg, rfl, OW, BW⟩ := hrel
    by_cases hlt : i < m
    · have hltz : (i : Int) < (m : Int) := by omega
      have HN2 := hide (lims_next i)
      have HRX : Hid (∀ W N, W.heap[N]? = some (.cells #[.int .i64 7, .int .i64 0, .int .i64 0, .int .i64 (2 + (i : Int)), .int .u8 1, .int .u8 0, .int .u64 0] 44 (0, 0)) → RowA W (some ⟨N, 0, none⟩) (flE [⟨7, 0, 0, 2 + (i : Int), 1, 0, 0⟩])) := hide (fun W N h => rowE_of h rfl)
      go_wp2_with ((refine wpList_append_row rfl _ _ 37 rfl w2.heap.size 44 i0 _ 7 48 Try.underlying37 hi0 (unhide HZ0) (unhide HZ1) (unhide HZ2) rfl (by decide) (by decide) _ i (flE (lims i)) rfl (own_below OW.out (below_alloc (Below.refl _ _) _)) (some ⟨wr.heap.size, 0, none⟩) 1 1 (flE [⟨7, 0, 0, 2 + (i : Int), 1, 0, 0⟩]) rfl rfl (unhide HRX _ _ (heap_new _ _ _ rfl)) (flE_one _) (by omega) (by have := BW.out.size; simp; omega) ?_); intro v' w' ho' hgw hat; have HO2 := hide ho'; have HG := hide hgw; clear ho' hgw hat)
      go_roundg (m - (i + 1))
      case measure => omega
      case rel =>
        refine ⟨i + 1, by omega, by omega, by go_num, (show Aside _ from ?_), (show Aside _ from ?_)⟩
        · show World.ownsRow _ _ _ _ _ (i + 1) (flE (lims (i + 1)))
          rw [unhide HN2, flE_app]
          exact unhide HO2
        · exact (below_alloc BW.out _).grown (unhide HG) (below_alloc BW.out _).size (fun k hk => (OW.out.lt k hk).1)
    · obtain rfl : i = m := by omega
      have hltz : ¬ (i : Int) < (i : Int) := by omega
      obtain ⟨A, ce, hu, hrow⟩ := own_rowE OW.out
      subst hu
      have HRr := hide hrow
      have HAr := hide ((unhide HA2).below BW.out)
      have HBr := hide (below_then (unhide HB2) BW.out)
      have HCr := hide (heap_keep (unhide HC1) BW.out)
      obtain ⟨q0, -⟩ := heap_cell (unhide HCr) 0
      obtain ⟨q1, -⟩ := heap_cell (unhide HCr) 1
      obtain ⟨q2, -⟩ := heap_cell (unhide HCr) 2
      obtain ⟨q3, -⟩ := heap_cell (unhide HCr) 3
      obtain ⟨q4, -⟩ := heap_cell (unhide HCr) 4
      obtain ⟨q5, -⟩ := heap_cell (unhide HCr) 5
      have hbeq : ((i : Int) + 1 != 1 + (i : Int)) = false := by simp; omega
      clear hrow
      rcases unhide HCASE with ⟨hc1, rfl⟩ | ⟨hc1, hc2, rfl⟩ | ⟨hc1, rfl⟩
      · have x1 : ¬ (15 : Int) < (i : Int) := by omega
        have x2 : ¬ (32 : Int) < (i : Int) := by omega
        go_wp2_with (first
        | (go_at_call 19; (with_reducible refine (unhide HLC _ _ _ _ _ _ _ (unhide HAr) (unhide HRr)).mono ?_); rintro e w3 ⟨hb3, a, b, c, P, n1, k1, V, n2, k2, S, n3, k3, rfl, hn2⟩; obtain rfl := hn2 rfl;have HH3 := hide (heap_keep (unhide HCr) hb3); have HA3 := hide ((unhide HAr).below hb3); have HB3 := hide (below_then (unhide HBr) hb3); clear q0 q1 q2 q3 q4 q5; obtain ⟨q0, -⟩ := heap_cell (unhide HH3) 0; obtain ⟨q1, -⟩ := heap_cell (unhide HH3) 1; obtain ⟨q2, -⟩ := heap_cell (unhide HH3) 2; obtain ⟨q3, -⟩ := heap_cell (unhide HH3) 3; obtain ⟨q4, -⟩ := heap_cell (unhide HH3) 4; obtain ⟨q5, -⟩ := heap_cell (unhide HH3) 5; have r0 := cell_any q0; have r1 := cell_any q1; have r2 := cell_any q2; have r3 := cell_any q3; have r4 := cell_any q4; have r5 := cell_any q5; clear q0 q1 q2 q3 q4 q5 hb3)
        | (go_at_call 19; (with_reducible refine (unhide G1 _ _ _ _ _ _ ((unhide HA3).below (below_alloc (below_alloc (Below.refl _ _) _) _)) (heap_new _ _ _ ?_)).mono ?_); (focus (simp; done)); rintro e w4 ⟨rfl, hb4⟩; have HH4 := hide (heap_keep (heap_keep (unhide HH3) (below_alloc (below_alloc (Below.refl _ _) _) _)) hb4); have HA4 := hide ((unhide HA3).below (below_then (below_alloc (below_alloc (Below.refl _ _) _) _) hb4)); have HB4 := hide (below_then (below_alloc (below_alloc (unhide HB3) _) _) hb4); clear r0 r1 r2 r3 r4 r5; obtain ⟨q0, -⟩ := heap_cell (unhide HH4) 0; obtain ⟨q1, -⟩ := heap_cell (unhide HH4) 1; obtain ⟨q2, -⟩ := heap_cell (unhide HH4) 2; obtain ⟨q3, -⟩ := heap_cell (unhide HH4) 3; obtain ⟨q4, -⟩ := heap_cell (unhide HH4) 4; obtain ⟨q5, -⟩ := heap_cell (unhide HH4) 5; have r0 := cell_any q0; have r1 := cell_any q1; have r2 := cell_any q2; have r3 := cell_any q3; have r4 := cell_any q4; have r5 := cell_any q5; clear q0 q1 q2 q3 q4 q5 hb4)
        | (go_at_call 19; (with_reducible refine (unhide G2 _ _ _ _ _ _ ((unhide HA4).below (below_alloc (below_alloc (Below.refl _ _) _) _)) (heap_new _ _ _ ?_)).mono ?_); (focus (simp; done)); rintro e w5 ⟨rfl, hb5⟩; have HH5 := hide (heap_keep (heap_keep (unhide HH4) (below_alloc (below_alloc (Below.refl _ _) _) _)) hb5); have HA5 := hide ((unhide HA4).below (below_then (below_alloc (below_alloc (Below.refl _ _) _) _) hb5)); have HB5 := hide (below_then (below_alloc (below_alloc (unhide HB4) _) _) hb5); clear r0 r1 r2 r3 r4 r5; obtain ⟨q0, -⟩ := heap_cell (unhide HH5) 0; obtain ⟨q1, -⟩ := heap_cell (unhide HH5) 1; obtain ⟨q2, -⟩ := heap_cell (unhide HH5) 2; obtain ⟨q3, -⟩ := heap_cell (unhide HH5) 3; obtain ⟨q4, -⟩ := heap_cell (unhide HH5) 4; obtain ⟨q5, -⟩ := heap_cell (unhide HH5) 5; have r0 := cell_any q0; have r1 := cell_any q1; have r2 := cell_any q2; have r3 := cell_any q3; have r4 := cell_any q4; have r5 := cell_any q5; clear q0 q1 q2 q3 q4 q5 hb5)
        | (go_at_call 19; (with_reducible refine (unhide G3 _ _ _ _ _ _ ((unhide HA5).below (below_alloc (below_alloc (Below.refl _ _) _) _)) (heap_new _ _ _ ?_)).mono ?_); (focus (simp; done)); rintro e w6 ⟨rfl, hb6⟩; have HH6 := hide (heap_keep (heap_keep (unhide HH5) (below_alloc (below_alloc (Below.refl _ _) _) _)) hb6); have HA6 := hide ((unhide HA5).below (below_then (below_alloc (below_alloc (Below.refl _ _) _) _) hb6)); have HB6 := hide (below_then (below_alloc (below_alloc (unhide HB5) _) _) hb6); clear r0 r1 r2 r3 r4 r5; obtain ⟨q0, -⟩ := heap_cell (unhide HH6) 0; obtain ⟨q1, -⟩ := heap_cell (unhide HH6) 1; obtain ⟨q2, -⟩ := heap_cell (unhide HH6) 2; obtain ⟨q3, -⟩ := heap_cell (unhide HH6) 3; obtain ⟨q4, -⟩ := heap_cell (unhide HH6) 4; obtain ⟨q5, -⟩ := heap_cell (unhide HH6) 5; have r0 := cell_any q0; have r1 := cell_any q1; have r2 := cell_any q2; have r3 := cell_any q3; have r4 := cell_any q4; have r5 := cell_any q5; clear q0 q1 q2 q3 q4 q5 hb6)
        | (go_at_call 19; (with_reducible refine (unhide G4 _ _ _ _ _ _ ((unhide HA6).below (below_alloc (below_alloc (Below.refl _ _) _) _)) (heap_new _ _ _ ?_)).mono ?_); (focus (simp; done)); rintro e w7 ⟨rfl, hb7⟩; have HH7 := hide (heap_keep (heap_keep (unhide HH6) (below_alloc (below_alloc (Below.refl _ _) _) _)) hb7); have HA7 := hide ((unhide HA6).below (below_then (below_alloc (below_alloc (Below.refl _ _) _) _) hb7)); have HB7 := hide (below_then (below_alloc (below_alloc (unhide HB6) _) _) hb7); clear r0 r1 r2 r3 r4 r5; obtain ⟨q0, -⟩ := heap_cell (unhide HH7) 0; obtain ⟨q1, -⟩ := heap_cell (unhide HH7) 1; obtain ⟨q2, -⟩ := heap_cell (unhide HH7) 2; obtain ⟨q3, -⟩ := heap_cell (unhide HH7) 3; obtain ⟨q4, -⟩ := heap_cell (unhide HH7) 4; obtain ⟨q5, -⟩ := heap_cell (unhide HH7) 5; have r0 := cell_any q0; have r1 := cell_any q1; have r2 := cell_any q2; have r3 := cell_any q3; have r4 := cell_any q4; have r5 := cell_any q5; clear q0 q1 q2 q3 q4 q5 hb7)
        | (go_at_call 10; (with_reducible refine (wakes_any _).mono ?_); rintro e w8 ⟨rfl, hb8⟩; have HB8 := hide (below_then (below_alloc (unhide HB7) _) hb8); clear hb8))
        go_ret
        exact ⟨rfl, unhide HB8⟩
      · have x1 : (15 : Int) < (i : Int) := by omega
        have x2 : ¬ (32 : Int) < (i : Int) := by omega
        go_wp2_with (first
        | (go_at_call 19; (with_reducible refine (unhide HLC _ _ _ _ _ _ _ (unhide HAr) (unhide HRr)).mono ?_); rintro e w3 ⟨hb3, a, b, c, P, n1, k1, V, n2, k2, S, n3, k3, rfl, hn2⟩; clear hn2;have HH3 := hide (heap_keep (unhide HCr) hb3); have HA3 := hide ((unhide HAr).below hb3); have HB3 := hide (below_then (unhide HBr) hb3); clear q0 q1 q2 q3 q4 q5; obtain ⟨q0, -⟩ := heap_cell (unhide HH3) 0; obtain ⟨q1, -⟩ := heap_cell (unhide HH3) 1; obtain ⟨q2, -⟩ := heap_cell (unhide HH3) 2; obtain ⟨q3, -⟩ := heap_cell (unhide HH3) 3; obtain ⟨q4, -⟩ := heap_cell (unhide HH3) 4; obtain ⟨q5, -⟩ := heap_cell (unhide HH3) 5; have r0 := cell_any q0; have r1 := cell_any q1; have r2 := cell_any q2; have r3 := cell_any q3; have r4 := cell_any q4; have r5 := cell_any q5; clear q0 q1 q2 q3 q4 q5 hb3)
        | (go_at_call 19; (with_reducible refine (unhide G1 _ _ _ _ _ _ ((unhide HA3).below (below_alloc (below_alloc (Below.refl _ _) _) _)) (heap_new _ _ _ ?_)).mono ?_); (focus (simp; done)); rintro e w4 ⟨rfl, hb4⟩; have HH4 := hide (heap_keep (heap_keep (unhide HH3) (below_alloc (below_alloc (Below.refl _ _) _) _)) hb4); have HA4 := hide ((unhide HA3).below (below_then (below_alloc (below_alloc (Below.refl _ _) _) _) hb4)); have HB4 := hide (below_then (below_alloc (below_alloc (unhide HB3) _) _) hb4); clear r0 r1 r2 r3 r4 r5; obtain ⟨q0, -⟩ := heap_cell (unhide HH4) 0; obtain ⟨q1, -⟩ := heap_cell (unhide HH4) 1; obtain ⟨q2, -⟩ := heap_cell (unhide HH4) 2; obtain ⟨q3, -⟩ := heap_cell (unhide HH4) 3; obtain ⟨q4, -⟩ := heap_cell (unhide HH4) 4; obtain ⟨q5, -⟩ := heap_cell (unhide HH4) 5; have r0 := cell_any q0; have r1 := cell_any q1; have r2 := cell_any q2; have r3 := cell_any q3; have r4 := cell_any q4; have r5 := cell_any q5; clear q0 q1 q2 q3 q4 q5 hb4)
        | (go_at_call 19; (with_reducible refine (unhide G2 _ _ _ _ _ _ ((unhide HA4).below (below_alloc (below_alloc (Below.refl _ _) _) _)) (heap_new _ _ _ ?_)).mono ?_); (focus (simp; done)); rintro e w5 ⟨rfl, hb5⟩; have HH5 := hide (heap_keep (heap_keep (unhide HH4) (below_alloc (below_alloc (Below.refl _ _) _) _)) hb5); have HA5 := hide ((unhide HA4).below (below_then (below_alloc (below_alloc (Below.refl _ _) _) _) hb5)); have HB5 := hide (below_then (below_alloc (below_alloc (unhide HB4) _) _) hb5); clear r0 r1 r2 r3 r4 r5; obtain ⟨q0, -⟩ := heap_cell (unhide HH5) 0; obtain ⟨q1, -⟩ := heap_cell (unhide HH5) 1; obtain ⟨q2, -⟩ := heap_cell (unhide HH5) 2; obtain ⟨q3, -⟩ := heap_cell (unhide HH5) 3; obtain ⟨q4, -⟩ := heap_cell (unhide HH5) 4; obtain ⟨q5, -⟩ := heap_cell (unhide HH5) 5; have r0 := cell_any q0; have r1 := cell_any q1; have r2 := cell_any q2; have r3 := cell_any q3; have r4 := cell_any q4; have r5 := cell_any q5; clear q0 q1 q2 q3 q4 q5 hb5)
        | (go_at_call 19; (with_reducible refine (unhide G3 _ _ _ _ _ _ ((unhide HA5).below (below_alloc (below_alloc (Below.refl _ _) _) _)) (heap_new _ _ _ ?_)).mono ?_); (focus (simp; done)); rintro e w6 ⟨rfl, hb6⟩; have HH6 := hide (heap_keep (heap_keep (unhide HH5) (below_alloc (below_alloc (Below.refl _ _) _) _)) hb6); have HA6 := hide ((unhide HA5).below (below_then (below_alloc (below_alloc (Below.refl _ _) _) _) hb6)); have HB6 := hide (below_then (below_alloc (below_alloc (unhide HB5) _) _) hb6); clear r0 r1 r2 r3 r4 r5; obtain ⟨q0, -⟩ := heap_cell (unhide HH6) 0; obtain ⟨q1, -⟩ := heap_cell (unhide HH6) 1; obtain ⟨q2, -⟩ := heap_cell (unhide HH6) 2; obtain ⟨q3, -⟩ := heap_cell (unhide HH6) 3; obtain ⟨q4, -⟩ := heap_cell (unhide HH6) 4; obtain ⟨q5, -⟩ := heap_cell (unhide HH6) 5; have r0 := cell_any q0; have r1 := cell_any q1; have r2 := cell_any q2; have r3 := cell_any q3; have r4 := cell_any q4; have r5 := cell_any q5; clear q0 q1 q2 q3 q4 q5 hb6)
        | (go_at_call 19; (with_reducible refine (unhide G4 _ _ _ _ _ _ ((unhide HA6).below (below_alloc (below_alloc (Below.refl _ _) _) _)) (heap_new _ _ _ ?_)).mono ?_); (focus (simp; done)); rintro e w7 ⟨rfl, hb7⟩; have HH7 := hide (heap_keep (heap_keep (unhide HH6) (below_alloc (below_alloc (Below.refl _ _) _) _)) hb7); have HA7 := hide ((unhide HA6).below (below_then (below_alloc (below_alloc (Below.refl _ _) _) _) hb7)); have HB7 := hide (below_then (below_alloc (below_alloc (unhide HB6) _) _) hb7); clear r0 r1 r2 r3 r4 r5; obtain ⟨q0, -⟩ := heap_cell (unhide HH7) 0; obtain ⟨q1, -⟩ := heap_cell (unhide HH7) 1; obtain ⟨q2, -⟩ := heap_cell (unhide HH7) 2; obtain ⟨q3, -⟩ := heap_cell (unhide HH7) 3; obtain ⟨q4, -⟩ := heap_cell (unhide HH7) 4; obtain ⟨q5, -⟩ := heap_cell (unhide HH7) 5; have r0 := cell_any q0; have r1 := cell_any q1; have r2 := cell_any q2; have r3 := cell_any q3; have r4 := cell_any q4; have r5 := cell_any q5; clear q0 q1 q2 q3 q4 q5 hb7)
        | (go_at_call 10; (with_reducible refine (wakes_any _).mono ?_); rintro e w8 ⟨rfl, hb8⟩; have HB8 := hide (below_then (below_alloc (unhide HB7) _) hb8); clear hb8))
        go_ret
        exact ⟨rfl, unhide HB8⟩
      · have x1 : (15 : Int) < (i : Int) := by omega
        have x2 : (32 : Int) < (i : Int) := by omega
        go_wp2_with (first
        | (go_at_call 19; (with_reducible refine (unhide HLC _ _ _ _ _ _ _ (unhide HAr) (unhide HRr)).mono ?_); rintro e w3 ⟨hb3, a, b, c, P, n1, k1, V, n2, k2, S, n3, k3, rfl, hn2⟩; clear hn2;have HH3 := hide (heap_keep (unhide HCr) hb3); have HA3 := hide ((unhide HAr).below hb3); have HB3 := hide (below_then (unhide HBr) hb3); clear q0 q1 q2 q3 q4 q5; obtain ⟨q0, -⟩ := heap_cell (unhide HH3) 0; obtain ⟨q1, -⟩ := heap_cell (unhide HH3) 1; obtain ⟨q2, -⟩ := heap_cell (unhide HH3) 2; obtain ⟨q3, -⟩ := heap_cell (unhide HH3) 3; obtain ⟨q4, -⟩ := heap_cell (unhide HH3) 4; obtain ⟨q5, -⟩ := heap_cell (unhide HH3) 5; have r0 := cell_any q0; have r1 := cell_any q1; have r2 := cell_any q2; have r3 := cell_any q3; have r4 := cell_any q4; have r5 := cell_any q5; clear q0 q1 q2 q3 q4 q5 hb3)
        | (go_at_call 19; (with_reducible refine (unhide G1 _ _ _ _ _ _ ((unhide HA3).below (below_alloc (below_alloc (Below.refl _ _) _) _)) (heap_new _ _ _ ?_)).mono ?_); (focus (simp; done)); rintro e w4 ⟨rfl, hb4⟩; have HH4 := hide (heap_keep (heap_keep (unhide HH3) (below_alloc (below_alloc (Below.refl _ _) _) _)) hb4); have HA4 := hide ((unhide HA3).below (below_then (below_alloc (below_alloc (Below.refl _ _) _) _) hb4)); have HB4 := hide (below_then (below_alloc (below_alloc (unhide HB3) _) _) hb4); clear r0 r1 r2 r3 r4 r5; obtain ⟨q0, -⟩ := heap_cell (unhide HH4) 0; obtain ⟨q1, -⟩ := heap_cell (unhide HH4) 1; obtain ⟨q2, -⟩ := heap_cell (unhide HH4) 2; obtain ⟨q3, -⟩ := heap_cell (unhide HH4) 3; obtain ⟨q4, -⟩ := heap_cell (unhide HH4) 4; obtain ⟨q5, -⟩ := heap_cell (unhide HH4) 5; have r0 := cell_any q0; have r1 := cell_any q1; have r2 := cell_any q2; have r3 := cell_any q3; have r4 := cell_any q4; have r5 := cell_any q5; clear q0 q1 q2 q3 q4 q5 hb4)
        | (go_at_call 19; (with_reducible refine (unhide G2 _ _ _ _ _ _ ((unhide HA4).below (below_alloc (below_alloc (Below.refl _ _) _) _)) (heap_new _ _ _ ?_)).mono ?_); (focus (simp; done)); rintro e w5 ⟨rfl, hb5⟩; have HH5 := hide (heap_keep (heap_keep (unhide HH4) (below_alloc (below_alloc (Below.refl _ _) _) _)) hb5); have HA5 := hide ((unhide HA4).below (below_then (below_alloc (below_alloc (Below.refl _ _) _) _) hb5)); have HB5 := hide (below_then (below_alloc (below_alloc (unhide HB4) _) _) hb5); clear r0 r1 r2 r3 r4 r5; obtain ⟨q0, -⟩ := heap_cell (unhide HH5) 0; obtain ⟨q1, -⟩ := heap_cell (unhide HH5) 1; obtain ⟨q2, -⟩ := heap_cell (unhide HH5) 2; obtain ⟨q3, -⟩ := heap_cell (unhide HH5) 3; obtain ⟨q4, -⟩ := heap_cell (unhide HH5) 4; obtain ⟨q5, -⟩ := heap_cell (unhide HH5) 5; have r0 := cell_any q0; have r1 := cell_any q1; have r2 := cell_any q2; have r3 := cell_any q3; have r4 := cell_any q4; have r5 := cell_any q5; clear q0 q1 q2 q3 q4 q5 hb5)
        | (go_at_call 19; (with_reducible refine (unhide G3 _ _ _ _ _ _ ((unhide HA5).below (below_alloc (below_alloc (Below.refl _ _) _) _)) (heap_new _ _ _ ?_)).mono ?_); (focus (simp; done)); rintro e w6 ⟨rfl, hb6⟩; have HH6 := hide (heap_keep (heap_keep (unhide HH5) (below_alloc (below_alloc (Below.refl _ _) _) _)) hb6); have HA6 := hide ((unhide HA5).below (below_then (below_alloc (below_alloc (Below.refl _ _) _) _) hb6)); have HB6 := hide (below_then (below_alloc (below_alloc (unhide HB5) _) _) hb6); clear r0 r1 r2 r3 r4 r5; obtain ⟨q0, -⟩ := heap_cell (unhide HH6) 0; obtain ⟨q1, -⟩ := heap_cell (unhide HH6) 1; obtain ⟨q2, -⟩ := heap_cell (unhide HH6) 2; obtain ⟨q3, -⟩ := heap_cell (unhide HH6) 3; obtain ⟨q4, -⟩ := heap_cell (unhide HH6) 4; obtain ⟨q5, -⟩ := heap_cell (unhide HH6) 5; have r0 := cell_any q0; have r1 := cell_any q1; have r2 := cell_any q2; have r3 := cell_any q3; have r4 := cell_any q4; have r5 := cell_any q5; clear q0 q1 q2 q3 q4 q5 hb6)
        | (go_at_call 19; (with_reducible refine (unhide G4 _ _ _ _ _ _ ((unhide HA6).below (below_alloc (below_alloc (Below.refl _ _) _) _)) (heap_new _ _ _ ?_)).mono ?_); (focus (simp; done)); rintro e w7 ⟨rfl, hb7⟩; have HH7 := hide (heap_keep (heap_keep (unhide HH6) (below_alloc (below_alloc (Below.refl _ _) _) _)) hb7); have HA7 := hide ((unhide HA6).below (below_then (below_alloc (below_alloc (Below.refl _ _) _) _) hb7)); have HB7 := hide (below_then (below_alloc (below_alloc (unhide HB6) _) _) hb7); clear r0 r1 r2 r3 r4 r5; obtain ⟨q0, -⟩ := heap_cell (unhide HH7) 0; obtain ⟨q1, -⟩ := heap_cell (unhide HH7) 1; obtain ⟨q2, -⟩ := heap_cell (unhide HH7) 2; obtain ⟨q3, -⟩ := heap_cell (unhide HH7) 3; obtain ⟨q4, -⟩ := heap_cell (unhide HH7) 4; obtain ⟨q5, -⟩ := heap_cell (unhide HH7) 5; have r0 := cell_any q0; have r1 := cell_any q1; have r2 := cell_any q2; have r3 := cell_any q3; have r4 := cell_any q4; have r5 := cell_any q5; clear q0 q1 q2 q3 q4 q5 hb7)
        | (go_at_call 10; (with_reducible refine (wakes_any _).mono ?_); rintro e w8 ⟨rfl, hb8⟩; have HB8 := hide (below_then (below_alloc (unhide HB7) _) hb8); clear hb8))
        go_ret
        exact ⟨rfl, unhide HB8⟩
end Go.Proofs.Ytbbadncdkiganaa
