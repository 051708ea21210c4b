/- Contracts of the reference: Has, Write, Read. -/
import Derived.Test.YtcakiohpkebmpaaVars
namespace Go.Proofs.Ytcakiohpkebmpaa
open Go.RowKit
set_option linter.unusedVariables false

theorem Try.info67 : ∃ i, Try.prog.info? 67 = some i ∧ i.zero = some (wv (0, zeroS)) ∧ i.size = 65 ∧ i.bytes = 72 := by
  have h : (Try.prog.info? 67).map (fun i => (i.zero, i.size, i.bytes)) = some (some (.agg (.int .i64 0 :: List.replicate 64 (.int .u8 0)).toArray), 65, 72) := by kernel_rfl
  obtain ⟨i, hi, hz, hs⟩ := info_parts h
  refine ⟨i, hi, hz.trans ?_, hs⟩
  unfold wv wcells zeroS; rw [bytes_full]; rfl

theorem rbld_of (f : Nat × Operand → Nat × Value) (a b : Nat × Operand) : Instr.build 67 (Array.map f #[a, b]) = bld 67 (f a) (f b) := by
  unfold bld; simp only [List.map_toArray, List.map_cons, List.map_nil]
theorem rbld_of' (a b : Nat × Value) : Instr.build 67 #[a, b] = bld 67 a b := rfl
theorem rbsl_of (f : Nat × Operand → Nat × Value) (a : Nat × Operand) : Instr.buildSlice 48 1 (Array.map f #[a]) = bsl 48 (f a) := by
  unfold bsl; simp only [List.map_toArray, List.map_cons, List.map_nil]
theorem rbsl_of' (a : Nat × Value) : Instr.buildSlice 48 1 #[a] = bsl 48 a := rfl
theorem rbld_is (i : Nat) (s : Sct) (w : World) : (bld 67 (0, .int .i64 i) (1, .agg (bytes s).toArray)).run Try.prog w = .ok (wv (i, s)) w := by
  obtain ⟨j, hi, hz, _⟩ := Try.info67
  exact run_buildW hi hz Try.underlying67 rfl rfl Try.size3 Try.size36 (i, s) w
theorem rbsl_is (p : Nat × Sct) (w : World) : (bsl 48 (0, wv p)).run Try.prog w = .ok (.slice (some ⟨w.heap.size, 0, none⟩) 1 1) (w.alloc (.cells (wcells p).toArray 67)) := by
  obtain ⟨j, hi, hz, hs, _⟩ := Try.info67
  exact run_buildSliceW Try.underlying48 hi hz hs p w

theorem rhas_yes {base g gs : Nat} {S : List Sct} {P : List (Nat × Sct)} (w : World) (h : Dsk 50 67 w base g gs S P) (i : Nat) (hi : i < S.length) :
    Calls Try.prog 26 #[.pointer (some ⟨g, 0, none⟩), .int .i64 i] w fun e w' => e = .returned (.bool true) ∧ w' = w := by
  obtain ⟨pv, A, cap, rfl, h0, h1, _⟩ := dsk_cells h
  have hi' : (i : Int) < (S.length : Int) := by omega
  go_enter Try.func26, Try.ntmps26
  go_wp2
  go_ret
  exact ⟨rfl, rfl⟩

theorem rhas_no {base g gs : Nat} {S : List Sct} {P : List (Nat × Sct)} (w : World) (h : Dsk 50 67 w base g gs S P) (i : Int) (hi : i < 0 ∨ (S.length : Int) ≤ i) :
    Calls Try.prog 26 #[.pointer (some ⟨g, 0, none⟩), .int .i64 i] w fun e w' => e = .returned (.bool false) ∧ w' = w := by
  obtain ⟨pv, A, cap, rfl, h0, h1, _⟩ := dsk_cells h
  by_cases h0' : i < 0
  · have h1' : ¬ 0 ≤ i := by omega
    go_enter Try.func26, Try.ntmps26
    go_wp2
    go_ret
    exact ⟨rfl, rfl⟩
  · have h1' : 0 ≤ i := by omega
    have h2 := hide (show ¬ i < (S.length : Int) by omega)
    go_enter Try.func26, Try.ntmps26
    go_wp2
    go_ret
    exact ⟨ret_bool (decide_eq_false (by have := unhide h2; omega)), rfl⟩

section
attribute [local go_sem ↓] ldS_of rbld_of rbsl_of rbld_of' rbsl_of' box_sv
attribute [local go_sem] rbld_is rbsl_is

set_option maxHeartbeats 400000 in
theorem rwrite_yes {base g gs : Nat} {S : List Sct} {P : List (Nat × Sct)} (w : World) (h : Dsk 50 67 w base g gs S P) (i : Nat) (hi : i < S.length) (s : Sct) (hP : P.length ≤ 100000) :
    Calls Try.prog 14 #[.pointer (some ⟨g, 0, none⟩), .int .i64 i, sv s] w fun e w' => e = .returned (.int .i64 0) ∧ Dsk 50 67 w' base g gs S (P ++ [(i, s)]) ∧ Turned 67 base g gs w w' := by
  obtain ⟨i65, hi65, hz65, hs65, hy65⟩ := Try.info67
  have hglt := h.lt
  obtain ⟨hglt, hgslt, hbg, hbgs⟩ := hglt
  have HD := hide (h.below (below_alloc (Below.refl _ _) (.cells (bytes s).toArray 36)))
  obtain ⟨pv, A, cap, rfl, h0, h1, hPr⟩ := dsk_cells (unhide HD)
  have hi' : (i : Int) < (S.length : Int) := by omega
  have HH := hide (rhas_yes _ (unhide HD) i hi)
  have hrs := secs_range (secs_box w 36 s)
  have HP := hide hPr
  have HS := hide h
  clear h hPr h0
  go_enter Try.func14, Try.ntmps14
  go_wp2_with (go_at_call 26; refine (unhide HH).mono ?_; rintro e w' ⟨rfl, rfl⟩)
  have hbel : Below w.heap.size w (w.alloc (.cells (bytes s).toArray 36)) := below_alloc (Below.refl _ _) _
  generalize w.alloc (.cells (bytes s).toArray 36) = w1 at *
  clear HH
  have hld := ldS_is w.heap.size 0 s w1.drew (by simpa using hrs)
  have hg1 : g < w1.heap.size := (unhide HD).lt.1
  have HD2 := hide ((unhide HD).drew.below (below_alloc (Below.refl _ _) (.cells (wcells (i, s)).toArray 67)))
  have HC2 : Hid ((w1.drew.alloc (.cells (wcells (i, s)).toArray 67)).cell? ⟨g, 1, none⟩ = some (.slice A P.length cap)) := by
    show _ = _
    rw [World.cell?_alloc_lt _ _ _ hg1]; exact h1
  have HP2 := hide (own_of_block (unhide HP) (w' := w1.drew.alloc (.cells (wcells (i, s)).toArray 67)) (fun k hk => Below.heap_alloc _ _ _ (by obtain ⟨_, cur, hc⟩ := own_block (unhide HP) hk; exact lt_of_get hc)))
  have HR2 := hide (row_box w1.drew 67 (i, s))
  have hbase : base ≤ w1.heap.size := by omega
  have HZ : Hid (base ≤ (w1.drew.alloc (.cells (wcells (i, s)).toArray 67)).heap.size) := by
    show _ ≤ _
    have : (w1.drew.alloc (.cells (wcells (i, s)).toArray 67)).heap.size = w1.heap.size + 1 := by simp
    omega
  clear hrs
  go_region_law ((refine step_append_row rfl _ _ 48 rfl base 67 i65 (wv (0, zeroS)) 65 72 Try.underlying48 hi65 hz65 hs65 hy65 (by rw [wv_cells, List.size_toArray, wcells_len]) (by omega) (by omega) (.slice A P.length cap) P.length (flatP P) rfl (unhide HP2) _ 1 1 (wcells (i, s)) rfl (by rw [wcells_len]) (unhide HR2) (wcells_one _) (by omega) (unhide HZ) ?_; intro v3 w3 hown3 hgrow3 hat3; obtain ⟨A3, cap3, rfl⟩ := own_shape hown3; obtain ⟨HF, hc3, hf3⟩ := dsk_pushed (by decide) (by decide) (by decide) (unhide HD2) (unhide HC2) hown3 hgrow3 hi))
  all_goals
    go_wp2
    go_ret
    exact ⟨rfl, HF.1, (Turned.of_below hbel).trans ((Turned.of_below (below_alloc (Below.drew (Below.refl _ _)) _)).trans HF.2)⟩

theorem rwrite_no {base g gs : Nat} {S : List Sct} {P : List (Nat × Sct)} (w : World) (h : Dsk 50 67 w base g gs S P) (i : Int) (hi : i < 0 ∨ (S.length : Int) ≤ i) (s : Sct) :
    Calls Try.prog 14 #[.pointer (some ⟨g, 0, none⟩), .int .i64 i, sv s] w fun e w' => e = .returned (.int .i64 1) ∧ Below w.heap.size w w' := by
  have HD := hide (h.below (below_alloc (Below.refl _ _) (.cells (bytes s).toArray 36)))
  have HH := hide (rhas_no _ (unhide HD) i hi)
  clear hi
  go_enter Try.func14, Try.ntmps14
  go_wp2_with (go_at_call 26; refine (unhide HH).mono ?_; rintro e w' ⟨rfl, rfl⟩)
  go_ret
  exact ⟨rfl, below_alloc (Below.refl _ _) _⟩
end

theorem rread_no {base g gs : Nat} {S : List Sct} {P : List (Nat × Sct)} (w : World) (h : Dsk 50 67 w base g gs S P) (i : Int) (hi : i < 0 ∨ (S.length : Int) ≤ i) :
    Calls Try.prog 16 #[.pointer (some ⟨g, 0, none⟩), .int .i64 i] w fun e w' => e = .returned (.tuple #[sv zeroS, .int .i64 1]) ∧ Below w.heap.size w w' := by
  obtain ⟨i36, hi36, hz36⟩ := Try.zero36
  have HD0 := hide h
  have HI := hide hi
  clear h hi
  go_enter Try.func16, Try.ntmps16
  go_wp2_with (first
    | (with_reducible refine wpList_allocT 36 i36 (sv zeroS) hi36 hz36 ?_; intro w1 hb1 hs1 hg1; have HD1 := hide ((unhide HD0).below hb1))
    | (go_at_call 26; refine (rhas_no _ (unhide HD1) i (unhide HI)).mono ?_; rintro e w' ⟨rfl, rfl⟩)
    | (with_reducible refine wpList_buildZ ?_)
    | ((with_reducible refine wpList_storeS Try.size36 _ _ w.heap.size 0 zeroS ?_ ?_ (secs_there (secs_new hg1)) ?_); (focus rfl); (focus rfl); intro w3 H3))
  have hX3 := secs_store (secs_new hg1) zeroS
  rw [← unhide H3] at hX3
  refine ret_cellS2 rfl rfl rfl rfl (secs_range hX3) ⟨rfl, ?_⟩
  rw [unhide H3]
  exact below_sets hb1 _ _ _ (Nat.le_refl _)

set_option maxHeartbeats 400000 in
theorem rread_yes {base g gs : Nat} {S : List Sct} {P : List (Nat × Sct)} (w : World) (h : Dsk 50 67 w base g gs S P) (i : Nat) (hi : i < S.length) (hP : P.length ≤ 100001) :
    Calls Try.prog 16 #[.pointer (some ⟨g, 0, none⟩), .int .i64 i] w fun e w' => e = .returned (.tuple #[sv (readS S P i), .int .i64 0]) ∧ Below w.heap.size w w' := by
  obtain ⟨i36, hi36, hz36⟩ := Try.zero36
  have HD0 := hide h
  have hi' : (i : Int) < (S.length : Int) := by omega
  clear h
  obtain ⟨s0, hs0⟩ : ∃ s0, S[i]? = some s0 := ⟨S[i], List.getElem?_eq_getElem hi⟩
  have HE0 : Hid (S.getD i zeroS = s0) := by
    show _ = _
    rw [List.getD_eq_getElem?_getD, hs0]; rfl
  have HSI := hide hs0
  clear hs0
  go_enter Try.func16, Try.ntmps16
  go_wp2_with (((with_reducible refine wpList_allocT 36 i36 (sv zeroS) hi36 hz36 ?_); intro w1 hb1 hs1 hg1; have HD1 := hide ((unhide HD0).below hb1); obtain ⟨pv, A, cap, rfl, h0, h1, hPr⟩ := dsk_cells (unhide HD1); have hrS : w1.rangeAt gs (i * 64) (bytes s0) := (by obtain ⟨_, _, _, _, hS, _⟩ := unhide HD1; exact hS.2 i s0 (unhide HSI)); clear hPr))
  refine (rhas_yes _ (unhide HD1) i hi).mono ?_
  rintro e w' ⟨rfl, rfl⟩
  have HX := hide (secs_new hg1)
  clear hg1
  go_wp2_with (first
    | ((with_reducible refine wpList_loadS Try.underlying36 Try.size36 _ gs (i * 64) s0 ?_ hrS ?_); (focus rfl))
    | ((with_reducible refine wpList_allocT 36 i36 (sv zeroS) hi36 hz36 ?_); intro w2 hb2 hs2 hg2)
    | ((with_reducible refine wpList_storeS Try.size36 _ _ w'.heap.size 0 s0 ?_ ?_ (secs_there (secs_new hg2)) ?_); (focus rfl); (focus rfl); intro w3 H3))
  obtain ⟨hb3, hs3, hX3⟩ := var_put hb2 hs2 hg2 H3
  rw [hs1] at hX3 hs3
  have HD3 := hide ((unhide HD1).below hb3)
  have HB3 := hide (below_then hb1 hb3)
  have HX3 := hide ((unhide HX).below hb3)
  have HY3 := hide hX3
  clear hb2 hs2 hg2 H3 hb3 hX3 hb1 HX HD1 h0 h1 hrS
  go_loopw [7] (fun t wr => ∃ k : Nat, k ≤ P.length ∧ t = .int .i64 k ∧ Dsk 50 67 wr base g gs S P ∧ Below w.heap.size w wr ∧ SecsAt wr 36 w.heap.size [zeroS] ∧ SecsAt wr 36 (w.heap.size + 1) [readS S (P.take k) i]) (fun t _ => P.length - (intOf t).toNat)
  case atStart =>
    refine ⟨0, Nat.zero_le _, rfl, unhide HD3, unhide HB3, unhide HX3, ?_⟩
    have : readS S (P.take 0) i = s0 := unhide HE0
    rw [this]
    exact unhide HY3
  case round =>
    obtain ⟨k, hk, rfl, hd, hb, hX, hY⟩ := hrel
    have HD := hide hd
    have HB := hide hb
    have HX := hide hX
    have HY := hide hY
    obtain ⟨pv, A', cap', rfl, h0, h1, hPr⟩ := dsk_cells hd
    have HP := hide hPr
    obtain ⟨glt, gslt, _, _⟩ := (unhide HD0).lt
    clear hd hb hX hY hPr HD3 HB3 HX3 HY3
    by_cases hlt : k < P.length
    · have hlt' : (k : Int) < (P.length : Int) := by omega
      obtain ⟨p, hp⟩ : ∃ p, P[k]? = some p := ⟨P[k], List.getElem?_eq_getElem hlt⟩
      obtain ⟨gp, cap2, hpv, hgp, hcap, _, hr⟩ := own_at (unhide HP) hp
      obtain ⟨rfl, rfl⟩ : A' = some ⟨gp, 0, none⟩ ∧ cap' = cap2 := by simpa using hpv
      have hc := range_head hr
      have hrt := range_tail hr
      have HQ := hide (take_snocP hp)
      clear hpv hp hr
      by_cases hpi : p.1 = i
      · have HE : Hid (readS S (P.take (k + 1)) i = p.2) := by
          show _ = _
          rw [unhide HQ, readS_snoc, if_pos hpi]
        subst hpi
        go_wp2_with (first
          | ((with_reducible refine wpList_loadS Try.underlying36 Try.size36 _ gp (k * 65 + 1) p.2 ?_ hrt ?_); (focus rfl))
          | ((with_reducible refine wpList_storeS Try.size36 _ _ (w.heap.size + 1) 0 p.2 ?_ ?_ (secs_there (unhide HY)) ?_); (focus rfl); (focus rfl); intro w5 H5))
        go_roundw
        case rel =>
          refine ⟨k + 1, by omega, by go_num, ?_, ?_, ?_, ?_⟩
          · rw [unhide H5]
            refine (unhide HD).keep (heap_setCells_other _ _ _ _ _ (by omega)) (heap_setCells_other _ _ _ _ _ (by omega)) (fun k' cur hcur => heap_setCells_other _ _ _ _ _ ?_)
            rintro rfl
            obtain ⟨⟨cur', h', _⟩, _⟩ := unhide HY
            rw [h'] at hcur
            cases hcur
          · rw [unhide H5]; exact below_sets (unhide HB) _ _ _ (by omega)
          · rw [unhide H5]; exact (unhide HX).of_block (heap_setCells_other _ _ _ _ _ (by omega))
          · rw [unhide H5, unhide HE]; exact secs_store (unhide HY) p.2
        case measure => simp [intOf]; omega
      · have hpi' : ¬ (p.1 : Int) = (i : Int) := by omega
        have HE : Hid (readS S (P.take (k + 1)) i = readS S (P.take k) i) := by
          show _ = _
          rw [unhide HQ, readS_snoc, if_neg hpi]
        go_wp2
        go_roundw
        case rel => exact ⟨k + 1, by omega, by go_num, unhide HD, unhide HB, unhide HX, by rw [unhide HE]; exact unhide HY⟩
        case measure => simp [intOf]; omega
    · obtain rfl : k = P.length := by omega
      have HE : Hid (readS S (P.take P.length) i = readS S P i) := by show _ = _; rw [List.take_length]
      rw [unhide HE] at HY
      go_wp2_with (first
        | ((with_reducible refine wpList_loadS Try.underlying36 Try.size36 _ (w.heap.size + 1) 0 (readS S P i) ?_ (secs_range (unhide HY)) ?_); (focus rfl))
        | ((with_reducible refine wpList_storeS Try.size36 _ _ w.heap.size 0 (readS S P i) ?_ ?_ (secs_there (unhide HX)) ?_); (focus rfl); (focus rfl); intro w5 H5))
      have hX5 := secs_store (unhide HX) (readS S P i)
      rw [← unhide H5] at hX5
      refine ret_cellS2 rfl rfl rfl rfl (secs_range hX5) ⟨rfl, ?_⟩
      rw [unhide H5]
      exact below_sets (unhide HB) _ _ _ (Nat.le_refl _)
end Go.Proofs.Ytcakiohpkebmpaa
