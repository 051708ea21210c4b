/- The walk of SectorPlays. -/
import Derived.Test.YtcakiohpkebmpaaPlaysM
namespace Go.Proofs.Ytcakiohpkebmpaa
open Go.RowKit
set_option linter.unusedVariables false
attribute [local go_sem ↓] ldS_of
attribute [local go_sem] eql36 eqGuard36 sv_is

set_option maxRecDepth 100000 in
set_option maxHeartbeats 1000000 in
theorem plays_no (n : Int) (A : Option Addr) (l : List Stp) (cap : Nat) (w : World) (hA : StepsA w A l) (hok : ∀ x ∈ l, x.ok) (hl : l.length ≤ maxLen) (hf : fairL l = false) :
    Calls Try.prog 3 #[.int .i64 n, .slice A l.length cap] w fun e w' => e = .returned (.bool true) ∧ Below w.heap.size w w' := by
  have F := hide (fair_any A l cap w hA hok hl)
  rw [hf] at F
  clear hA hok hl hf
  go_enter Try.func3, Try.ntmps3
  go_wp2_with fail
  refine (unhide F).mono ?_
  rintro e w2 ⟨rfl, rfl⟩
  go_wp2_with fail
  refine (wakes_any _).mono ?_
  rintro e w3 ⟨rfl, hb3⟩
  go_wp2
  go_ret
  exact ⟨rfl, hb3⟩

set_option maxRecDepth 100000 in
set_option maxHeartbeats 1000000 in
theorem plays_none (n : Int) (hn : n < 1 ∨ 4096 < n) (A : Option Addr) (l : List Stp) (cap : Nat) (w : World) (hA : StepsA w A l) (hok : ∀ x ∈ l, x.ok) (hl : l.length ≤ maxLen) (hf : fairL l = true) :
    Calls Try.prog 3 #[.int .i64 n, .slice A l.length cap] w fun e w' => e = .returned (.bool true) ∧ Below w.heap.size w w' := by
  have F := hide (fair_any A l cap w hA hok hl)
  rw [hf] at F
  have HN := hide hn
  have h200 := (fairL_len hf).1
  clear hA hok hl hf hn
  have key : ∀ b : Bool, decide ((0 : Int) < (l.length : Int)) = b → Calls Try.prog 3 #[.int .i64 n, .slice A l.length cap] w fun e w' => e = .returned (.bool true) ∧ Below w.heap.size w w' := by
    intro b hb
    cases b
    all_goals
      first
        | have h0' : (0 : Int) < (l.length : Int) := by simpa using hb
        | have h0' : ¬ (0 : Int) < (l.length : Int) := by simpa using hb
      clear hb
      go_enter Try.func3, Try.ntmps3
      go_wp2_with fail
      refine (unhide F).mono ?_
      rintro e w2 ⟨rfl, rfl⟩
      go_wp2_with fail
      refine (new_no n (unhide HN) _).mono ?_
      rintro e w3 ⟨rfl, rfl⟩
      go_wp2_with fail
      refine (rnew_no n (unhide HN) _).mono ?_
      rintro e w4 ⟨rfl, rfl⟩
      go_wp2_with fail
      go_loop [9] (fun t => t = .int .i64 0) (fun _ => 0)
      case atStart => rfl
      case round =>
        obtain rfl := hrel
        go_wp2_with fail
        go_loop [15] (fun t => t = .int .i64 0) (fun _ => 0)
        case atStart => rfl
        case round =>
          obtain rfl := hrel
          go_wp2_with fail
          refine (wakes_any _).mono ?_
          rintro e w3 ⟨rfl, hb3⟩
          go_wp2
          go_ret
          exact ⟨rfl, hb3⟩
  exact key _ rfl

set_option maxRecDepth 100000 in
set_option maxHeartbeats 4000000 in
theorem plays_walk (n : Nat) (hn1 : 1 ≤ n) (hn2 : n ≤ 4096) (A : Option Addr) (l : List Stp) (cap : Nat) (w : World) (hA : StepsA w A l) (hok : ∀ x ∈ l, x.ok) (hl : l.length ≤ maxLen) (hf : fairL l = true) :
    Calls Try.prog 3 #[.int .i64 n, .slice A l.length cap] w fun e w' => e = .returned (.bool true) ∧ Below w.heap.size w w' := by
  obtain ⟨i36, hi36, hz36⟩ := Try.zero36
  have F := hide (fair_any A l cap w hA hok hl)
  rw [hf] at F
  have h200 := (fairL_len hf).1
  have HA := hide hA
  have HO := hide hok
  have HF := hide (fairL_len hf).2
  clear hA hok hl hf
  go_enter Try.func3, Try.ntmps3
  go_wp2_with fail
  refine (unhide F).mono ?_
  rintro e w0 ⟨rfl, rfl⟩
  clear F
  go_wp2_with fail
  refine (new_yes n hn1 hn2 _).mono ?_
  rintro e w1 ⟨g, gs, rfl, hd1, hb1⟩
  have HD1 := hide hd1
  clear hd1
  go_wp2_with fail
  refine (rnew_yes n hn1 hn2 _).mono ?_
  rintro e w2 ⟨h, hs, rfl, hd2, hb2⟩
  have H2 : Hid (Two w0 w1.heap.size w2 g gs h hs (List.replicate n zeroS) []) := ⟨(unhide HD1).below hb2, hd2, by have := (unhide HD1).lt; have := hd2.lt; omega, hb1.size, below_then hb1 hb2⟩
  clear HD1 hd2 hb1 hb2
  generalize w1.heap.size = b2 at H2
  go_wp2_with fail
  go_loopw [9] (fun t wr => ∃ (k : Nat) (S : List Sct) (P : List (Nat × Sct)), k ≤ l.length ∧ t = .int .i64 k ∧ Two w0 b2 wr g gs h hs S P ∧ S.length = n ∧ P.length ≤ k) (fun t _ => l.length - (intOf t).toNat)
  case atStart => exact ⟨0, _, _, Nat.zero_le _, rfl, unhide H2, by simp, by simp⟩
  case round =>
    obtain ⟨k, S, P, hk, rfl, hT, hSn, hPk⟩ := hrel
    have HT := hide hT
    have HSn := hide hSn
    clear H2 hT hSn
    by_cases hlt : k < l.length
    · obtain ⟨x, hx⟩ : ∃ x, l[k]? = some x := ⟨l[k], List.getElem?_eq_getElem hlt⟩
      obtain ⟨b, off, rfl, hc⟩ := (unhide HA) (by rintro rfl; simp at hlt)
      obtain ⟨xa, xc, h1, h2, h3⟩ := hc k x hx
      have hblt : b < w0.heap.size := World.block_lt_of_cell? _ _ (h1 0 _ rfl)
      have hxok := (unhide HO) x (List.mem_of_getElem? hx)
      have hkeep := (unhide HF) x (List.mem_of_getElem? hx)
      have C := hide (fun w => sector_any x.kd x.i x.at_ x.v (.slice xa x.keep.length xc) hxok.2.2.1 hxok.2.2.2.1 w)
      have hr := range_of_block h1 ((unhide HT).bel.block b hblt)
      obtain ⟨d0, d1, d2, d3, d4⟩ := stp_cells hr
      have HB := hide h2
      have HBl := hide h3
      have HX := hide hxok
      have hlt' : (k : Int) < (l.length : Int) := by omega
      clear hc h1 h2 h3 hx hxok hr
      obtain ⟨kd, xi, xat, xv, keep⟩ := x
      simp only at d0 d1 d2 d3 d4 C hkeep HB HBl HX
      have hglt := (unhide HT).one.lt
      have hhlt := (unhide HT).two.lt
      have SV : Hid (∀ kd : Int, StpV (wr.alloc (.cells #[.int .i64 kd, .int .i64 xi, .int .i64 xat, .int .u8 xv, .slice xa keep.length xc] 34)) g gs h hs wr.heap.size ⟨kd, xi, xat, xv, keep⟩ xa xc) :=
        fun kd => ⟨fun j u hj => by rw [cell_of_row _ _ _ _ _ _ (heap_alloc_last wr _)]; simpa [scells] using hj, ⟨_, heap_alloc_last wr _⟩, by omega, by omega, by omega, by omega⟩
      have ST := hide (fun (kd : Int) => (unhide HT).below (below_alloc (Below.refl _ _) (.cells #[.int .i64 kd, .int .i64 xi, .int .i64 xat, .int .u8 xv, .slice xa keep.length xc] 34)))
      clear hglt hhlt
      have key : kd = 0 ∨ kd = 1 ∨ kd = 2 ∨ kd = 3 ∨ (¬ kd = 0 ∧ ¬ kd = 1 ∧ ¬ kd = 2 ∧ ¬ kd = 3) := by omega
      rcases key with rfl | rfl | rfl | rfl | ⟨n0, n1, n2, n3⟩
      · by_cases hin : 0 ≤ xi ∧ xi < n
        · obtain ⟨i, rfl⟩ : ∃ i : Nat, xi = (i : Int) := ⟨xi.toNat, by omega⟩
          have HiS : Hid (i < S.length) := by show _ < _; rw [unhide HSn]; omega
          clear hin
          go_wp2_with fail
          have HV3 := hide (unhide SV 0)
          have HT3 := hide (unhide ST 0)
          clear SV ST HT d0 d1 d2 d3 d4
          generalize wr.alloc (.cells #[.int .i64 0, .int .i64 (i : Int), .int .i64 xat, .int .u8 xv, .slice xa keep.length xc] 34) = w3 at HV3 HT3 ⊢
          generalize wr.heap.size = bx at HV3 ⊢
          have HTd := hide ((unhide HT3).below (Below.drew (Below.refl _ _)))
          have HVd := hide ((unhide HV3).below (Below.drew (Below.refl _ _)))
          obtain ⟨z0, z1, z2, z3, z4⟩ := (unhide HVd).cells
          simp only at z0 z1 z2 z3 z4
          clear HT3 HV3
          go_region_held3 (fun W => W.cell? ⟨bx, 0, none⟩ = some (.int .i64 0) ∧ W.cell? ⟨bx, 1, none⟩ = some (.int .i64 (i : Int)) ∧ W.cell? ⟨bx, 2, none⟩ = some (.int .i64 xat) ∧ W.cell? ⟨bx, 3, none⟩ = some (.int .u8 xv) ∧ W.cell? ⟨bx, 4, none⟩ = some (.slice xa keep.length xc))
            ((go_split_ands; exact ⟨by assumption, by assumption, by assumption, by assumption, by assumption⟩))
            (first
              | (go_at_call 14; go_split_ands; refine (rwrite_yes _ (unhide HT6).two i (unhide HiS) (stepS xv xat) (by omega)).mono ?_; rintro e w7 ⟨rfl, hd, ht⟩; have HT7 := hide ((unhide HT6).turn (unhide HT6).b2 hd ht); have HV7 := hide ((unhide HV6).turn2 ht); obtain ⟨y0, y1, y2, y3, y4⟩ := (unhide HV7).cells; clear hd ht)
              | (go_at_call 13; go_split_ands; refine (unhide C _).mono ?_; rintro e w6 ⟨rfl, hb⟩; have HT6 := hide ((unhide HT5).below hb); have HV6 := hide ((unhide HV5).below hb); obtain ⟨y0, y1, y2, y3, y4⟩ := (unhide HV6).cells; clear hb)
              | (go_at_call 12; go_split_ands; refine (write_yes _ (unhide HT4).one i (unhide HiS) (stepS xv xat) (by omega)).mono ?_; rintro e w5 ⟨rfl, hd, ht⟩; have HT5 := hide ((unhide HT4).turn hd ht); have HV5 := hide ((unhide HV4).turn1 ht); obtain ⟨y0, y1, y2, y3, y4⟩ := (unhide HV5).cells; clear hd ht)
              | (go_at_call 13; go_split_ands; refine (unhide C _).mono ?_; rintro e w4 ⟨rfl, hb⟩; have HT4 := hide ((unhide HTd).below hb); have HV4 := hide ((unhide HVd).below hb); obtain ⟨y0, y1, y2, y3, y4⟩ := (unhide HV4).cells; clear hb))
          clear HTd HVd HT4 HT5 HT6 HV4 HV5 HV6 HV7
          have HPq := hide (fun nq => pending_any (w7.drewN nq) ((unhide HT7).one.below (below_drewN (Below.refl _ _) nq)))
          have HLq := hide (fun nq => len_any (w7.drewN nq) ((unhide HT7).one.below (below_drewN (Below.refl _ _) nq)))
          obtain ⟨pv, A2, cap2, rfl, q0, q1, _⟩ := dsk_cells (unhide HT7).two
          go_wp2_with fail
          go_quiet ((first | (go_at_call 21; exact Calls.quiet_of_same (unhide HPq _)) | (go_at_call 22; exact Calls.quiet_of_same (unhide HLq _))))
          have HTz := hide ((unhide HT7).below (below_drewN (Below.refl _ _) nq))
          generalize w7.drewN nq = wz at HTz ⊢
          clear HPq HLq q0 q1
          go_wp2
          exact ⟨⟨k + 1, _, _, by omega, by go_num, unhide HTz, unhide HSn, by rw [List.length_append]; simp only [List.length_cons, List.length_nil]; omega⟩, by simp [intOf]; omega⟩
        · have hno : xi < 0 ∨ (S.length : Int) ≤ xi := by rw [unhide HSn]; omega
          have HNo := hide hno
          clear hin hno
          go_wp2_with fail
          have HV3 := hide (unhide SV 0)
          have HT3 := hide (unhide ST 0)
          clear SV ST HT d0 d1 d2 d3 d4
          generalize wr.alloc (.cells #[.int .i64 0, .int .i64 xi, .int .i64 xat, .int .u8 xv, .slice xa keep.length xc] 34) = w3 at HV3 HT3 ⊢
          generalize wr.heap.size = bx at HV3 ⊢
          obtain ⟨z0, z1, z2, z3, z4⟩ := (unhide HV3).cells
          simp only at z0 z1 z2 z3 z4
          have hbx : bx < w3.heap.size := World.block_lt_of_cell? _ _ z0
          have SS : Hid (∀ W : World, Below w3.heap.size w3 W → (Below w3.heap.size w3 W ∧ W.cell? ⟨bx, 0, none⟩ = some (.int .i64 0) ∧ W.cell? ⟨bx, 1, none⟩ = some (.int .i64 xi) ∧ W.cell? ⟨bx, 2, none⟩ = some (.int .i64 xat) ∧ W.cell? ⟨bx, 3, none⟩ = some (.int .u8 xv) ∧ W.cell? ⟨bx, 4, none⟩ = some (.slice xa keep.length xc))) :=
            fun W hW => ⟨hW, (hW.cell (p := ⟨bx, 0, none⟩) hbx).trans z0, (hW.cell (p := ⟨bx, 1, none⟩) hbx).trans z1, (hW.cell (p := ⟨bx, 2, none⟩) hbx).trans z2, (hW.cell (p := ⟨bx, 3, none⟩) hbx).trans z3, (hW.cell (p := ⟨bx, 4, none⟩) hbx).trans z4⟩
          go_region_held3 (fun W => Below w3.heap.size w3 W ∧ W.cell? ⟨bx, 0, none⟩ = some (.int .i64 0) ∧ W.cell? ⟨bx, 1, none⟩ = some (.int .i64 xi) ∧ W.cell? ⟨bx, 2, none⟩ = some (.int .i64 xat) ∧ W.cell? ⟨bx, 3, none⟩ = some (.int .u8 xv) ∧ W.cell? ⟨bx, 4, none⟩ = some (.slice xa keep.length xc))
            ((go_split_ands; exact unhide SS _ (by repeat (first | assumption | exact Below.refl _ _ | apply Below.drew | apply below_alloc))))
            (first
              | (go_at_call 13; go_split_ands; refine (unhide C _).mono ?_; rintro e w' ⟨rfl, hbl⟩; have hbl2 := below_then (by assumption) hbl; clear hbl)
              | (go_at_call 12; go_split_ands; refine (write_no _ ((unhide HT3).below (by assumption)).one xi (unhide HNo) (stepS xv xat)).mono ?_; rintro e w' ⟨rfl, hbl⟩; have hbl2 := below_then (by assumption) hbl; clear hbl)
              | (go_at_call 14; go_split_ands; refine (rwrite_no _ ((unhide HT3).below (by assumption)).two xi (unhide HNo) (stepS xv xat)).mono ?_; rintro e w' ⟨rfl, hbl⟩; have hbl2 := below_then (by assumption) hbl; clear hbl))
          all_goals
            have HT7 := hide ((unhide HT3).below (show Below w3.heap.size w3 w' by assumption))
            clear HT3 HV3 SS z0 z1 z2 z3 z4
            have HPq := hide (fun nq => pending_any (w'.drewN nq) ((unhide HT7).one.below (below_drewN (Below.refl _ _) nq)))
            have HLq := hide (fun nq => len_any (w'.drewN nq) ((unhide HT7).one.below (below_drewN (Below.refl _ _) nq)))
            obtain ⟨pv, A2, cap2, rfl, q0, q1, _⟩ := dsk_cells (unhide HT7).two
            go_wp2_with fail
            go_quiet ((first | (go_at_call 21; exact Calls.quiet_of_same (unhide HPq _)) | (go_at_call 22; exact Calls.quiet_of_same (unhide HLq _))))
            have HTz := hide ((unhide HT7).below (below_drewN (Below.refl _ _) nq))
            generalize w'.drewN nq = wz at HTz ⊢
            clear HPq HLq q0 q1
            go_wp2
            exact ⟨⟨k + 1, _, _, by omega, by go_num, unhide HTz, unhide HSn, by omega⟩, by simp [intOf]; omega⟩
      · by_cases hin : 0 ≤ xi ∧ xi < n
        · obtain ⟨i, rfl⟩ : ∃ i : Nat, xi = (i : Int) := ⟨xi.toNat, by omega⟩
          have HiS : Hid (i < S.length) := by show _ < _; rw [unhide HSn]; omega
          clear hin
          go_wp2_with fail
          have HV3 := hide (unhide SV 1)
          have HT3 := hide (unhide ST 1)
          clear SV ST HT d0 d1 d2 d3 d4
          generalize wr.alloc (.cells #[.int .i64 1, .int .i64 (i : Int), .int .i64 xat, .int .u8 xv, .slice xa keep.length xc] 34) = w3 at HV3 HT3 ⊢
          generalize wr.heap.size = bx at HV3 ⊢
          obtain ⟨z0, z1, z2, z3, z4⟩ := (unhide HV3).cells
          simp only at z0 z1 z2 z3 z4
          refine (read_yes w3 (unhide HT3).one i (unhide HiS) (by omega)).mono ?_
          rintro e w4 ⟨rfl, hb4⟩
          have HT4 := hide ((unhide HT3).below hb4)
          have HV4 := hide ((unhide HV3).below hb4)
          clear HT3 HV3 hb4 z0 z1 z2 z3 z4
          obtain ⟨y, hy⟩ : ∃ y, y = readS S P i := ⟨_, rfl⟩
          rw [← hy]
          have HY := hide hy
          clear hy
          go_wp2_with (first
            | ((with_reducible refine wpList_allocT 36 i36 (sv zeroS) hi36 hz36 ?_); intro w5 hb5 hs5 hg5)
            | ((with_reducible refine wpList_storeS Try.size36 _ _ w4.heap.size 0 y ?_ ?_ (secs_there (secs_new hg5)) ?_); (focus rfl); (focus rfl); intro w6 H6; obtain ⟨hb6, hs6, hX6⟩ := var_put hb5 hs5 hg5 H6; have HT6 := hide ((unhide HT4).below hb6); have HV6 := hide ((unhide HV4).below hb6); have HX6 := hide hX6; obtain ⟨y0, y1, y2, y3, y4⟩ := (unhide HV6).cells; simp only at y0 y1 y2 y3 y4; clear hs6 hs5 hb5 hg5 H6 hX6 hb6))
          refine (rread_yes w6 (unhide HT6).two i (unhide HiS) (by omega)).mono ?_
          rintro e w7 ⟨rfl, hb7⟩
          have HT7 := hide ((unhide HT6).below hb7)
          have HX7 := hide ((unhide HX6).below hb7)
          clear HT4 HV4 HT6 HV6 HX6 hb7 y0 y1 y2 y3 y4
          generalize w4.heap.size = bw at *
          rw [← unhide HY]
          go_wp2_with (first
            | ((with_reducible refine wpList_allocT 36 i36 (sv zeroS) hi36 hz36 ?_); intro w8 hb8 hs8 hg8)
            | ((with_reducible refine wpList_storeS Try.size36 _ _ w7.heap.size 0 y ?_ ?_ (secs_there (secs_new hg8)) ?_); (focus rfl); (focus rfl); intro w9 H9; obtain ⟨hb9, hs9, hX9⟩ := var_put hb8 hs8 hg8 H9; have HT9 := hide ((unhide HT7).below hb9); have l1 := ldS_is _ 0 y w9 (secs_range ((unhide HX7).below hb9)); have l2 := ldS_is _ 0 y w9 (secs_range hX9); clear hs9 hs8 hb8 hg8 H9 hX9 hb9))
          clear l1 l2
          have HPq := hide (fun nq => pending_any (w9.drewN nq) ((unhide HT9).one.below (below_drewN (Below.refl _ _) nq)))
          have HLq := hide (fun nq => len_any (w9.drewN nq) ((unhide HT9).one.below (below_drewN (Below.refl _ _) nq)))
          obtain ⟨pv, A2, cap2, rfl, q0, q1, _⟩ := dsk_cells (unhide HT9).two
          go_wp2_with fail
          go_quiet ((first | (go_at_call 21; exact Calls.quiet_of_same (unhide HPq _)) | (go_at_call 22; exact Calls.quiet_of_same (unhide HLq _))))
          have HTz := hide ((unhide HT9).below (below_drewN (Below.refl _ _) nq))
          generalize w9.drewN nq = wz at HTz ⊢
          clear HPq HLq q0 q1
          go_wp2
          exact ⟨⟨k + 1, _, _, by omega, by go_num, unhide HTz, unhide HSn, by omega⟩, by simp [intOf]; omega⟩
        · have hno : xi < 0 ∨ (S.length : Int) ≤ xi := by rw [unhide HSn]; omega
          have HNo := hide hno
          clear hin hno
          go_wp2_with fail
          have HV3 := hide (unhide SV 1)
          have HT3 := hide (unhide ST 1)
          clear SV ST HT d0 d1 d2 d3 d4
          generalize wr.alloc (.cells #[.int .i64 1, .int .i64 xi, .int .i64 xat, .int .u8 xv, .slice xa keep.length xc] 34) = w3 at HV3 HT3 ⊢
          generalize wr.heap.size = bx at HV3 ⊢
          obtain ⟨z0, z1, z2, z3, z4⟩ := (unhide HV3).cells
          simp only at z0 z1 z2 z3 z4
          refine (read_no w3 (unhide HT3).one xi (unhide HNo)).mono ?_
          rintro e w4 ⟨rfl, hb4⟩
          have HT4 := hide ((unhide HT3).below hb4)
          have HV4 := hide ((unhide HV3).below hb4)
          clear HT3 HV3 hb4 z0 z1 z2 z3 z4
          go_wp2_with (first
            | ((with_reducible refine wpList_allocT 36 i36 (sv zeroS) hi36 hz36 ?_); intro w5 hb5 hs5 hg5)
            | ((with_reducible refine wpList_storeS Try.size36 _ _ w4.heap.size 0 zeroS ?_ ?_ (secs_there (secs_new hg5)) ?_); (focus rfl); (focus rfl); intro w6 H6; obtain ⟨hb6, hs6, hX6⟩ := var_put hb5 hs5 hg5 H6; have HT6 := hide ((unhide HT4).below hb6); have HV6 := hide ((unhide HV4).below hb6); have HX6 := hide hX6; obtain ⟨y0, y1, y2, y3, y4⟩ := (unhide HV6).cells; simp only at y0 y1 y2 y3 y4; clear hs6 hs5 hb5 hg5 H6 hX6 hb6))
          refine (rread_no w6 (unhide HT6).two xi (unhide HNo)).mono ?_
          rintro e w7 ⟨rfl, hb7⟩
          have HT7 := hide ((unhide HT6).below hb7)
          have HX7 := hide ((unhide HX6).below hb7)
          clear HT4 HV4 HT6 HV6 HX6 hb7 y0 y1 y2 y3 y4
          generalize w4.heap.size = bw at *
          go_wp2_with (first
            | ((with_reducible refine wpList_allocT 36 i36 (sv zeroS) hi36 hz36 ?_); intro w8 hb8 hs8 hg8)
            | ((with_reducible refine wpList_storeS Try.size36 _ _ w7.heap.size 0 zeroS ?_ ?_ (secs_there (secs_new hg8)) ?_); (focus rfl); (focus rfl); intro w9 H9; obtain ⟨hb9, hs9, hX9⟩ := var_put hb8 hs8 hg8 H9; have HT9 := hide ((unhide HT7).below hb9); have l1 := ldS_is _ 0 zeroS w9 (secs_range ((unhide HX7).below hb9)); have l2 := ldS_is _ 0 zeroS w9 (secs_range hX9); clear hs9 hs8 hb8 hg8 H9 hX9 hb9))
          clear l1 l2
          have HPq := hide (fun nq => pending_any (w9.drewN nq) ((unhide HT9).one.below (below_drewN (Below.refl _ _) nq)))
          have HLq := hide (fun nq => len_any (w9.drewN nq) ((unhide HT9).one.below (below_drewN (Below.refl _ _) nq)))
          obtain ⟨pv, A2, cap2, rfl, q0, q1, _⟩ := dsk_cells (unhide HT9).two
          go_wp2_with fail
          go_quiet ((first | (go_at_call 21; exact Calls.quiet_of_same (unhide HPq _)) | (go_at_call 22; exact Calls.quiet_of_same (unhide HLq _))))
          have HTz := hide ((unhide HT9).below (below_drewN (Below.refl _ _) nq))
          generalize w9.drewN nq = wz at HTz ⊢
          clear HPq HLq q0 q1
          go_wp2
          exact ⟨⟨k + 1, _, _, by omega, by go_num, unhide HTz, unhide HSn, by omega⟩, by simp [intOf]; omega⟩
      · go_wp2_with fail
        have HV3 := hide (unhide SV 2)
        have HT3 := hide (unhide ST 2)
        clear SV ST HT d0 d1 d2 d3 d4
        generalize wr.alloc (.cells #[.int .i64 2, .int .i64 xi, .int .i64 xat, .int .u8 xv, .slice xa keep.length xc] 34) = w3 at HV3 HT3 ⊢
        generalize wr.heap.size = bx at HV3 ⊢
        refine (flush_any w3 (unhide HT3).one (by omega)).mono ?_
        rintro e w4 ⟨rfl, hd4, ht4⟩
        have HT4 := hide ((unhide HT3).turn hd4 ht4)
        clear HT3 HV3 hd4 ht4
        go_wp2_with fail
        refine (rflush_any w4 (unhide HT4).two (by omega)).mono ?_
        rintro e w5 ⟨rfl, hd5, ht5⟩
        have HT5 := hide ((unhide HT4).turn (unhide HT4).b2 hd5 ht5)
        clear HT4 hd5 ht5
        have HL5 : Hid ((flushS S P).length = n) := by show _ = _; rw [flushS_len]; exact unhide HSn
        generalize flushS S P = S' at *
        have HPq := hide (fun nq => pending_any (w5.drewN nq) ((unhide HT5).one.below (below_drewN (Below.refl _ _) nq)))
        have HLq := hide (fun nq => len_any (w5.drewN nq) ((unhide HT5).one.below (below_drewN (Below.refl _ _) nq)))
        obtain ⟨pv, A2, cap2, rfl, q0, q1, _⟩ := dsk_cells (unhide HT5).two
        go_wp2_with fail
        go_quiet ((first | (go_at_call 21; exact Calls.quiet_of_same (unhide HPq _)) | (go_at_call 22; exact Calls.quiet_of_same (unhide HLq _))))
        have HTz := hide ((unhide HT5).below (below_drewN (Below.refl _ _) nq))
        generalize w5.drewN nq = wz at HTz ⊢
        clear HPq HLq q0 q1
        go_wp2
        exact ⟨⟨k + 1, _, _, by omega, by go_num, unhide HTz, unhide HL5, by simp⟩, by simp [intOf]; omega⟩
      · have HT3 := hide (unhide ST 3)
        have HV3 := hide (unhide SV 3)
        clear SV ST
        go_wp2_with (at_builtin; refine wpList_copyB (W := wr.alloc (.cells #[.int .i64 3, .int .i64 xi, .int .i64 xat, .int .u8 xv, .slice xa keep.length xc] 34)) rfl _ _ rfl (wr.heap.size + 1) (by simp) rfl xa xc keep rfl (rowA_below (unhide HB) (unhide HT3).bel) (by omega) ?_; intro gk capk cur w4 hgk hb4 hcur hK4)
        have HT4 := hide ((unhide HT3).below hb4)
        have HV4 := hide ((unhide HV3).below hb4)
        have HSf := hide (safe_at (unhide HT3).one hgk hcur)
        clear HT3 HV3 HT d0 d1 d2 d3 d4 hb4 hcur hgk
        generalize wr.heap.size = bx at HV4 ⊢
        refine (crash_any w4 (unhide HT4).one (by omega) _ keep capk hK4 (fun _ b off e => by cases e; exact unhide HSf) (by omega)).mono ?_
        rintro e w5 ⟨rfl, hd5, ht5⟩
        have HT5 := hide ((unhide HT4).turn hd5 ht5)
        obtain ⟨z0, z1, z2, z3, z4⟩ := ((unhide HV4).turn1 ht5).cells
        simp only at z0 z1 z2 z3 z4
        clear HT4 HV4 HSf hd5 ht5 hK4
        go_wp2_with fail
        refine (rcrash_any w5 (unhide HT5).two (by omega) xa keep xc (rowA_below (unhide HB) (unhide HT5).bel) (fun hne b off e => safe_old (unhide HT5).two ((unhide HBl) hne b off e) (unhide HT5).le) (by omega)).mono ?_
        rintro e w6 ⟨rfl, hd6, ht6⟩
        have HT6 := hide ((unhide HT5).turn (unhide HT5).b2 hd6 ht6)
        clear HT5 hd6 ht6 z0 z1 z2 z3 z4
        have HL6 : Hid ((flushS S (keptP P keep)).length = n) := by show _ = _; rw [flushS_len]; exact unhide HSn
        generalize flushS S (keptP P keep) = S' at *
        have HPq := hide (fun nq => pending_any (w6.drewN nq) ((unhide HT6).one.below (below_drewN (Below.refl _ _) nq)))
        have HLq := hide (fun nq => len_any (w6.drewN nq) ((unhide HT6).one.below (below_drewN (Below.refl _ _) nq)))
        obtain ⟨pv, A2, cap2, rfl, q0, q1, _⟩ := dsk_cells (unhide HT6).two
        go_wp2_with fail
        go_quiet ((first | (go_at_call 21; exact Calls.quiet_of_same (unhide HPq _)) | (go_at_call 22; exact Calls.quiet_of_same (unhide HLq _))))
        have HTz := hide ((unhide HT6).below (below_drewN (Below.refl _ _) nq))
        generalize w6.drewN nq = wz at HTz ⊢
        clear HPq HLq q0 q1
        go_wp2
        exact ⟨⟨k + 1, _, _, by omega, by go_num, unhide HTz, unhide HL6, by simp⟩, by simp [intOf]; omega⟩
      · go_wp2_with fail
        have HT3 := hide (unhide ST kd)
        clear SV ST HT d0 d1 d2 d3 d4
        generalize wr.alloc (.cells #[.int .i64 kd, .int .i64 xi, .int .i64 xat, .int .u8 xv, .slice xa keep.length xc] 34) = w3 at HT3 ⊢
        generalize wr.heap.size = bx
        have HPq := hide (fun nq => pending_any (w3.drewN nq) ((unhide HT3).one.below (below_drewN (Below.refl _ _) nq)))
        have HLq := hide (fun nq => len_any (w3.drewN nq) ((unhide HT3).one.below (below_drewN (Below.refl _ _) nq)))
        obtain ⟨pv, A2, cap2, rfl, q0, q1, _⟩ := dsk_cells (unhide HT3).two
        go_wp2_with fail
        go_quiet ((first | (go_at_call 21; exact Calls.quiet_of_same (unhide HPq _)) | (go_at_call 22; exact Calls.quiet_of_same (unhide HLq _))))
        have HTz := hide ((unhide HT3).below (below_drewN (Below.refl _ _) nq))
        generalize w3.drewN nq = wz at HTz ⊢
        clear HPq HLq q0 q1
        go_wp2
        exact ⟨⟨k + 1, _, _, by omega, by go_num, unhide HTz, unhide HSn, by omega⟩, by simp [intOf]; omega⟩
    · go_wp2_with fail
      go_loopw [15] (fun t wr => ∃ j : Nat, j ≤ n ∧ j ≤ 40 ∧ t = .int .i64 j ∧ Two w0 b2 wr g gs h hs S P) (fun t _ => 40 - (intOf t).toNat)
      case atStart => exact ⟨0, by omega, by omega, rfl, unhide HT⟩
      case round =>
        obtain ⟨j, hjn, hj40, rfl, hT⟩ := hrel
        clear HT
        have HT := hide hT
        clear hT
        obtain ⟨pv, A2, cap2, rfl, q0, q1, _⟩ := dsk_cells (unhide HT).two
        rw [unhide HSn] at q0
        by_cases hin : j < n ∧ j < 40
        · obtain ⟨hn', h40'⟩ := hin
          have hjn' : (j : Int) < (n : Int) := by omega
          have hj40' : (j : Int) < 40 := by omega
          have HiS : Hid (j < S.length) := by show _ < _; rw [unhide HSn]; exact hn'
          go_wp2_with fail
          refine (read_yes wr (unhide HT).one j (unhide HiS) (by omega)).mono ?_
          rintro e w4 ⟨rfl, hb4⟩
          have HT4 := hide ((unhide HT).below hb4)
          clear HT hb4 q0 q1
          obtain ⟨y, hy⟩ : ∃ y, y = readS S P j := ⟨_, rfl⟩
          rw [← hy]
          have HY := hide hy
          clear hy
          go_wp2_with (first
            | ((with_reducible refine wpList_allocT 36 i36 (sv zeroS) hi36 hz36 ?_); intro w5 hb5 hs5 hg5)
            | ((with_reducible refine wpList_storeS Try.size36 _ _ w4.heap.size 0 y ?_ ?_ (secs_there (secs_new hg5)) ?_); (focus rfl); (focus rfl); intro w6 H6; obtain ⟨hb6, hs6, hX6⟩ := var_put hb5 hs5 hg5 H6; have HT6 := hide ((unhide HT4).below hb6); have HX6 := hide hX6; clear hs6 hs5 hb5 hg5 H6 hX6 hb6))
          refine (rread_yes w6 (unhide HT6).two j (unhide HiS) (by omega)).mono ?_
          rintro e w7 ⟨rfl, hb7⟩
          have HT7 := hide ((unhide HT6).below hb7)
          have HX7 := hide ((unhide HX6).below hb7)
          clear HT4 HT6 HX6 hb7
          generalize w4.heap.size = bw at *
          rw [← unhide HY]
          go_wp2_with (first
            | ((with_reducible refine wpList_allocT 36 i36 (sv zeroS) hi36 hz36 ?_); intro w8 hb8 hs8 hg8)
            | ((with_reducible refine wpList_storeS Try.size36 _ _ w7.heap.size 0 y ?_ ?_ (secs_there (secs_new hg8)) ?_); (focus rfl); (focus rfl); intro w9 H9; obtain ⟨hb9, hs9, hX9⟩ := var_put hb8 hs8 hg8 H9; have HT9 := hide ((unhide HT7).below hb9); have l1 := ldS_is _ 0 y w9 (secs_range ((unhide HX7).below hb9)); have l2 := ldS_is _ 0 y w9 (secs_range hX9); clear hs9 hs8 hb8 hg8 H9 hX9 hb9))
          exact ⟨⟨j + 1, by omega, by omega, by go_num, unhide HT9⟩, by simp [intOf]; omega⟩
        · by_cases hjn' : j < n
          · have h1 : (j : Int) < (n : Int) := by omega
            have h2 : ¬ (j : Int) < 40 := by omega
            clear hin
            go_wp2_with fail
            refine (wakes_any _).mono ?_
            rintro e w8 ⟨rfl, hb8⟩
            go_wp2
            go_ret
            exact ⟨rfl, below_then (unhide HT).bel hb8⟩
          · have h1 : ¬ (j : Int) < (n : Int) := by omega
            clear hin
            go_wp2_with fail
            refine (wakes_any _).mono ?_
            rintro e w8 ⟨rfl, hb8⟩
            go_wp2
            go_ret
            exact ⟨rfl, below_then (unhide HT).bel hb8⟩
end Go.Proofs.Ytcakiohpkebmpaa
