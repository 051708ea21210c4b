/- The reference's Open where no entry stands. -/
import Derived.Test.YtfceileohkngnaaRapp
namespace Go.Proofs.Ytfceileohkngnaa
open Go.RowKit
set_option linter.unusedVariables false
set_option maxRecDepth 4000

theorem take_snocS (D : List Sct) (k : Nat) (h : k < D.length) : D.take (k + 1) = D.take k ++ [D.getD k zeroS] := by
  rw [List.take_succ_eq_append_getElem h, List.getD_eq_getElem?_getD, List.getElem?_eq_getElem h]; rfl

set_option maxRecDepth 100000 in
set_option maxHeartbeats 8000000 in
theorem ropen_none {base g gs : Nat} {S : List Sct} (w : World) (h : Dsk 74 117 w base g gs S []) (fr tt : Nat) (ep : Int) (hft : fr < tt) (hts : tt ≤ S.length) (hm : (S.getD fr zeroS).1.getD 0 0 ≠ 87) :
    Calls Try.prog 20 #[.pointer (some ⟨g, 0, none⟩), .int .i64 fr, .int .i64 tt, .int .u32 ep] w fun e w' => ∃ j, e = .returned (.tuple #[.pointer (some ⟨j, 0, none⟩), .int .i64 0]) ∧ Rj w' j g fr tt ep none 0 0 fr ∧ w.heap.size ≤ j ∧ Below w.heap.size w w' := by
  obtain ⟨i44, hi44, hz44⟩ := Try.zero75
  have hS : S.length ≤ 4096 := by obtain ⟨_, _, _, _, _, _, _, h'⟩ := h; exact h'
  obtain ⟨pv, A, cap, hpv, h0, h1, _⟩ := dsk_cells h
  have hb0 : Below w.heap.size w (w.alloc (.cells #[.pointer (some ⟨g, 0, none⟩), .int .i64 fr, .int .i64 tt, .int .u32 ep, .slice none 0 0, .int .i64 fr] 70)) := below_alloc (Below.refl _ _) _
  have hj0 : Rj (w.alloc (.cells #[.pointer (some ⟨g, 0, none⟩), .int .i64 fr, .int .i64 tt, .int .u32 ep, .slice none 0 0, .int .i64 fr] 70)) w.heap.size g fr tt ep none 0 0 fr := heap_alloc_last _ _
  obtain ⟨m, hmm⟩ : ∃ m, min 70 (tt - fr) = m := ⟨_, rfl⟩
  obtain ⟨D, hDe⟩ : ∃ D, (S.drop fr).take m = D := ⟨_, rfl⟩
  have hDl : D.length = m := by rw [← hDe, List.length_take, List.length_drop]; omega
  have HDG : Hid (∀ k, k < m → D.getD k zeroS = S.getD (fr + k) zeroS) := fun k hk => by
    rw [← hDe, List.getD_eq_getElem?_getD, List.getElem?_take, if_pos hk, List.getElem?_drop, ← List.getD_eq_getElem?_getD]
  have HD := hide h
  have HJ0 := hide hj0
  have HB0 := hide hb0
  have f1 : ¬ (fr : Int) < 0 := by omega
  have f2 : ¬ (tt : Int) ≤ (fr : Int) := by omega
  have f3 : ¬ (S.length : Int) < (tt : Int) := by omega
  have hd0 : (D.getD 0 zeroS).1.getD 0 0 ≠ 87 := by rw [unhide HDG 0 (by omega)]; exact hm
  have HDM := hide hd0
  have y5 := (heap_cell hj0 5).1
  clear h hj0 hb0 hm h1 hpv hd0
  go_enter Try.func20, Try.ntmps20
  go_wp2
  generalize w.alloc (.cells #[.pointer (some ⟨g, 0, none⟩), .int .i64 fr, .int .i64 tt, .int .u32 ep, .slice none 0 0, .int .i64 fr] 70) = w1 at *
  have HD1 := hide ((unhide HD).below (unhide HB0))
  go_loopw [12] (fun i wr => wr = w1) (fun _ _ => 0)
  case atStart => rfl
  case round =>
    have hrel' := hrel.symm
    clear hrel
    subst hrel'
    go_wp2
    go_loopw [11, 12] (fun v i wr => ∃ k : Nat, k ≤ m ∧ i = .int .i64 ((fr : Int) + (k : Int)) ∧ wr.ownsRow w1.heap.size 75 64 v (D.take k).length (flatS (D.take k)) ∧ Below w1.heap.size w1 wr) (fun _ i _ => fr + m - (intOf i).toNat)
    case atStart => exact ⟨0, Nat.zero_le _, by simp, ⟨rfl, .inl ⟨rfl, rfl⟩⟩, Below.refl _ _⟩
    case round =>
      obtain ⟨k, hk, rfl, ho, hbel⟩ := hrel
      have htk : (D.take k).length = k := by rw [List.length_take]; omega
      obtain ⟨Ao, co, rfl, hso, hco⟩ := own_scs ho
      have HOW : Hid (wr.ownsRow w1.heap.size 75 64 (.slice Ao k co) (D.take k).length (flatS (D.take k))) := by
        show wr.ownsRow _ _ _ _ _ _
        rw [show Value.slice Ao k co = Value.slice Ao (D.take k).length co by rw [htk]]
        exact ho
      have HBL := hide hbel
      have HTK := hide htk
      have HSO := hide hso
      rw [htk]
      rw [htk] at hco
      clear ho hbel hso htk
      by_cases hlt : k < m
      · have k1 : (fr : Int) + (k : Int) < (tt : Int) := by omega
        have k2 : (k : Int) < 70 := by omega
        have HRD : Hid (Calls Try.prog 47 #[.pointer (some ⟨g, 0, none⟩), .int .i64 ((fr : Int) + (k : Int))] wr fun e w' => e = .returned (.tuple #[sv (D.getD k zeroS), .int .i64 0]) ∧ Below wr.heap.size wr w') := by
          have := rread_yes wr ((unhide HD1).below (unhide HBL)) (fr + k) (by omega) (by simp)
          rw [readS_nil, ← unhide HDG k hlt, show ((fr + k : Nat) : Int) = (fr : Int) + (k : Int) by omega] at this
          exact this
        have HS1 := hide (take_snocS D k (by omega))
        generalize D.getD k zeroS = d at *
        go_wp2_with (first
          | (go_at_call 47; (with_reducible refine (unhide HRD).mono ?_); rintro e w2 ⟨rfl, hb2⟩; have HB2 := hide hb2; clear hb2)
          | ((with_reducible refine wpList_allocT 75 i44 (sv zeroS) hi44 hz44 ?_); intro w3 hb3 hs3 hg3; have HS3 := hide (secs_new hg3); have HB3 := hide (below_then (unhide HB2) hb3); clear hb3 hg3)
          | ((with_reducible refine wpList_storeS Try.size75 _ _ w2.heap.size 0 d ?_ ?_ (secs_there (unhide HS3)) ?_); (focus rfl); (focus rfl); intro w4 H4; have HS4 := hide (show SecsAt w4 75 w2.heap.size [d] from unhide H4 ▸ secs_store (unhide HS3) d); have HB4 := hide (show Below wr.heap.size wr w4 from unhide H4 ▸ below_sets (unhide HB3) w2.heap.size 0 (bytes d) (unhide HB2).size); clear H4)
          | ((with_reducible refine wpList_loadS Try.underlying75 Try.size75 _ w2.heap.size 0 d ?_ (secs_range (unhide HS4)) ?_); (focus rfl))
          | ((with_reducible refine wpList_bslS _ d ?_ ?_); (focus rfl); intro w5 hg5 hr5; have HO5 := hide (own_below (unhide HOW) (below_then (unhide HB4) (below_grown hg5))); have HB5 := hide (below_then (unhide HB4) (below_grown hg5)); have HR5 := hide (show ScsA w5 _ [d] by unfold ScsA; rw [flatS_one]; exact hr5); clear hr5 hg5)
          | ((with_reducible refine wpList_appendS _ _ w1.heap.size _ (D.take k) [d] ?_ (unhide HO5) _ 1 1 ?_ ?_ (unhide HR5) ?_ ?_ ?_); (focus rfl); (focus rfl); (focus rfl); (focus (have h1 := unhide HTK; have h2 : ([d] : List Sct).length = 1 := rfl; omega)); (focus (exact (below_then (unhide HBL) (unhide HB5)).size)); intro v7 w7 ho7 hg7; have HB7 := hide ((below_then (unhide HBL) (unhide HB5)).grown hg7 (below_then (unhide HBL) (unhide HB5)).size (fun j hj => (own_block (unhide HO5) hj).1)); rw [← unhide HS1] at ho7; have HO7 := hide ho7; clear ho7 hg7))
        go_roundw
        case rel => exact ⟨k + 1, by omega, by go_num, unhide HO7, unhide HB7⟩
        case measure => simp [intOf]; omega
      · obtain rfl : k = m := by omega
        have HDF : Hid (ScsA wr Ao D) := by
          have h := unhide HSO
          rw [List.take_of_length_le (by omega)] at h
          exact h
        have HDE := hide (rdec_mark Ao D co wr (unhide HDF) (by omega) (.inr (unhide HDM)))
        rw [hDl] at HDE
        have hkm : ¬ ((fr : Int) + (k : Int) < (tt : Int) ∧ (k : Int) < 70) := by omega
        have hj9 := hide ((unhide HJ0).below (unhide HBL))
        by_cases hc1 : (fr : Int) + (k : Int) < (tt : Int)
        · have hc2 : ¬ (k : Int) < 70 := by omega
          go_wp2_with (go_at_call 10; (with_reducible refine (unhide HDE).mono ?_); rintro e w2 ⟨rfl, hb2⟩; have HB2 := hide (below_then (unhide HBL) hb2); clear hb2)
          go_quiet (fail)
          go_wp2
          go_ret2
          refine ⟨_, rfl, ?_, Nat.le_refl _, ?_⟩
          · exact (unhide HJ0).below (below_drewN (below_alloc (unhide HB2) _) _)
          · exact below_then (unhide HB0) (below_drewN (below_alloc (unhide HB2) _) _)
        · go_wp2_with (go_at_call 10; (with_reducible refine (unhide HDE).mono ?_); rintro e w2 ⟨rfl, hb2⟩; have HB2 := hide (below_then (unhide HBL) hb2); clear hb2)
          go_quiet (fail)
          go_wp2
          go_ret2
          refine ⟨_, rfl, ?_, Nat.le_refl _, ?_⟩
          · exact (unhide HJ0).below (below_drewN (below_alloc (unhide HB2) _) _)
          · exact below_then (unhide HB0) (below_drewN (below_alloc (unhide HB2) _) _)
end Go.Proofs.Ytfceileohkngnaa
