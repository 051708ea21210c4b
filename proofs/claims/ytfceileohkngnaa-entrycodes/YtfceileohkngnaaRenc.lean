/- The reference's sectors of an entry. -/
import Derived.Test.YtfceileohkngnaaRbys
namespace Go.Proofs.Ytfceileohkngnaa
open Go.RowKit
set_option linter.unusedVariables false
set_option maxRecDepth 4000

theorem step_copyS {ops : Array Oper} {w : World} {a : Act} {K : Act → World → Prop} {Q : Exit → Act → World → Prop} {E : Prop} {dst : Option Tmp} {ty : TypeId} {pos : String} {af : Array Edge} (x y : Operand) (g dc : Nat) (A : Option Addr) (n sc : Nat) (c : List Int) (m : Int) (hn : n = c.length) (hc : c.length ≤ 63) (hB : Byt c) (hm : 0 ≤ m ∧ m ≤ 255)
    (hx : a.eval x = .slice (some ⟨g, 1, none⟩) 63 dc) (hy : a.eval y = .slice A n sc) (hA : BysA w A c) (hs : SecsAt w 75 g [mkS [m]])
    (h : ∀ w', w' = w.setCells g 1 (c.map (Value.int .u8)) → SecsAt w' 75 g [mkS (m :: c)] → K (a.put dst (goInt c.length)) w') :
    if Region.wanted ⟨dst, .call { callee := .builtin .copy, args := #[x, y], argTypes := #[23, 23] }, ty, pos, af, none⟩ (yielded ops a.tmps) = true then Oper.wp Try.prog ⟨dst, .call { callee := .builtin .copy, args := #[x, y], argTypes := #[23, 23] }, ty, pos, af, none⟩ a w K Q else E := by
  subst hn
  rw [if_pos (by simp [Region.wanted])]
  obtain ⟨w', hr, h1, h2⟩ := exec_copy (dst := dst) (ty := ty) (pos := pos) (af := af) (gd := none) x y g dc A sc c m hc hB hm hx hy hA hs
  unfold Oper.wp
  rw [hr]
  exact h w' h1 h2
theorem mk_mark (m : Int) (h : 0 ≤ m ∧ m ≤ 255) : setS zeroS 0 m h = mkS [m] := by
  refine sct_ext (fun j hj => ?_)
  rw [mkS_getD _ _ hj]
  cases j with
  | zero => show (zeroS.1.set 0 m).getD 0 0 = m % 256; rw [show m % 256 = m by omega]; rfl
  | succ j =>
    show (zeroS.1.set 0 m).getD (j + 1) 0 = ([] : List Int).getD j 0 % 256
    rw [List.getD_eq_getElem?_getD, List.getElem?_set, if_neg (by omega)]
    show ((List.replicate 64 (0 : Int))[j + 1]?).getD 0 = _
    rw [List.getElem?_replicate, if_pos hj]; rfl

theorem cut_step (E : List Int) (k : Nat) (h : k < pieces E.length) : (cutS E).take (k + 1) = (cutS E).take k ++ [secOf k (chunk E k)] := by
  have hl : k < (cutS E).length := by rw [cutS_len]; exact h
  have hg := cutS_get E k h
  rw [List.getElem?_eq_getElem hl] at hg
  rw [List.take_succ_eq_append_getElem hl, Option.some.inj hg]

set_option maxRecDepth 100000 in
set_option maxHeartbeats 8000000 in
theorem rencode_ok (k e s : Int) (hk : 0 ≤ k ∧ k ≤ 255) (he : 0 ≤ e ∧ e ≤ 4294967295) (hs : 0 ≤ s ∧ s ≤ 4294967295) (A : Option Addr) (b : List Int) (cap : Nat) (hl : b.length ≤ 4000) (hB : Byt b) (w : World) (hA : BysA w A b) :
    Calls Try.prog 8 #[.agg #[.int .i64 k, .int .u32 e, .int .u32 s, .slice A b.length cap]] w fun x w' => ∃ v, x = .returned (.tuple #[v, .int .i64 0]) ∧ w'.ownsRow w.heap.size 75 64 v (cutS (entL k e s b)).length (flatS (cutS (entL k e s b))) ∧ Below w.heap.size w w' := by
  obtain ⟨i44, hi44, hz44⟩ := Try.zero75
  have HBY := hide (fun (W : World) (hW : Below w.heap.size w W) => rfbytes_any k e s hk he hs A b cap hl hB W (bysA_below hA hW))
  have hel := entL_len k e s b
  have HEB : Hid (Byt (entL k e s b)) := entL_byt hk hB
  have hn0 : 0 < (entL k e s b).length := by omega
  have hn1 : (entL k e s b).length ≤ 4015 := by omega
  have k1 : ¬ k < 0 := by omega
  have k2 : ¬ 255 < k := by omega
  have k3 : ¬ (4000 : Int) < (b.length : Int) := by omega
  have HB0 : Hid (Below w.heap.size w (w.alloc (.cells #[.int .i64 k, .int .u32 e, .int .u32 s, .slice A b.length cap] 33))) := below_alloc (Below.refl _ _) _
  generalize entL k e s b = E at *
  have HCL : Hid ((cutS E).length = pieces E.length) := cutS_len E
  have HST := hide (cut_step E)
  clear hel hA hB hk he hs hl
  go_enter Try.func8, Try.ntmps8
  go_wp2_with (go_at_call 39; (with_reducible refine (unhide HBY _ (unhide HB0)).mono ?_); rintro x w2 ⟨v, rfl, ho2, hb2⟩; obtain ⟨g, c, rfl, hg2, hy2, hc2⟩ := own_bys1 ho2 hn0; have HY2 := hide hy2; have HB2 := hide (below_then (unhide HB0) hb2); clear ho2 hy2 hb2)
  clear HBY HB0
  go_loopw [5, 6] (fun v i wr => ∃ kk : Nat, kk ≤ pieces E.length ∧ i = .int .i64 ((63 * kk : Nat) : Int) ∧ wr.ownsRow w2.heap.size 75 64 v ((cutS E).take kk).length (flatS ((cutS E).take kk)) ∧ Below w2.heap.size w2 wr) (fun _ i _ => 63 * pieces E.length - (intOf i).toNat)
  case atStart => exact ⟨0, Nat.zero_le _, rfl, ⟨rfl, .inl ⟨rfl, rfl⟩⟩, Below.refl _ _⟩
  case round =>
    obtain ⟨kk, hkk, rfl, ho, hbel⟩ := hrel
    have hpz : pieces E.length = (E.length + 62) / 63 := rfl
    have HPZ := hide hpz
    have HBL := hide hbel
    have htk : ((cutS E).take kk).length = kk := by rw [List.length_take, unhide HCL]; omega
    obtain ⟨Ao, co, rfl, hso, _⟩ := own_scs ho
    have HOW : Hid (wr.ownsRow w2.heap.size 75 64 (.slice Ao kk co) ((cutS E).take kk).length (flatS ((cutS E).take kk))) := by
      show wr.ownsRow _ _ _ _ _ _
      rw [show Value.slice Ao kk co = Value.slice Ao ((cutS E).take kk).length co by rw [htk]]
      exact ho
    rw [htk]
    have HTK := hide htk
    clear ho hbel hso htk
    by_cases hlt : kk < pieces E.length
    · have hq : 63 * kk < E.length := by omega
      have HY := hide (bys_take (bys_drop (bysA_below (unhide HY2) (unhide HBL)) (63 * kk)) 63)
      rw [Nat.zero_add] at HY
      have HCK : Hid (chunk E kk = (E.drop (63 * kk)).take 63) := rfl
      have hcl := chunk_len E kk
      have HCB := hide (chunk_byt (unhide HEB) kk)
      rw [← unhide HCK] at HY
      have HS1 := hide (unhide HST kk hlt)
      have HSO : Hid (secOf kk (chunk E kk) = mkS (markI kk :: chunk E kk)) := rfl
      rw [unhide HSO] at HS1
      have HK0 : Hid (63 * kk = 0 ↔ kk = 0) := by show _ ↔ _; omega
      have HNX : Hid (((63 * kk : Nat) : Int) + 63 = ((63 * (kk + 1) : Nat) : Int)) := by show _ = _; omega
      have hnc : ¬ c = 63 * kk := by omega
      generalize chunk E kk = ck at *
      by_cases hk0 : kk = 0
      · have hm : markI kk = 87 := by unfold markI; rw [if_pos hk0]
        rw [hm] at HS1
        obtain ⟨q, hqe⟩ : ∃ q, 63 * kk = q := ⟨_, rfl⟩
        rw [hqe] at HY HNX hq hnc hcl ⊢
        have hqn : (q : Int) < (E.length : Int) := by omega
        obtain ⟨r, hr⟩ : ∃ r, q + ck.length = r := ⟨_, rfl⟩
        have hwq : IntKind.i64.wrap ((q : Int) + 63) = (q : Int) + 63 := by rw [IntKind.wrap_i64]; omega
        have hif : (if (E.length : Int) < (q : Int) + 63 then (E.length : Int) else (q : Int) + 63) = (r : Int) := by
          split <;> omega
        have hrc : (r : Int) ≤ (c : Int) := by omega
        have hqr : q ≤ r := by omega
        have HRL : Hid (r - q = ck.length) := by show _ = _; omega
        have hc63 : ck.length ≤ 63 := by omega
        have hq0 : ((q : Int) == 0) = true := beq_iff_eq.2 (by omega)
        clear hcl hq hr hk0
        go_wp2_with ((with_reducible refine wpList_allocT 75 i44 (sv zeroS) hi44 hz44 ?_); intro w3 hb3 hs3 hg3; have hsz3 := secs_new hg3; have f0 := hsz3.1.frozen 0; have e0 := secs_byte hsz3 0 (by omega); have HSZ3 := hide hsz3; have HB3 := hide hb3; clear hsz3 hg3 hb3)
        have hp1 := secs_poke (unhide HSZ3) 0 (by omega) 119 (by omega)
        have hp2 := secs_poke hp1 0 (by omega) 87 (by omega)
        have hme : setS (setS zeroS 0 119 (by omega)) 0 87 (by omega) = mkS [87] := by rw [← mk_mark 87 (by omega)]; exact Subtype.ext (by show (zeroS.1.set 0 119).set 0 87 = zeroS.1.set 0 87; rw [List.set_set])
        rw [hme] at hp2
        have HP := hide hp2
        have HB4 := hide (below_set (below_set (unhide HB3) wr.heap.size 0 (.int .u8 119) (Nat.le_refl _)) wr.heap.size 0 (.int .u8 87) (Nat.le_refl _))
        have hz4 : ((w3.setCell ⟨wr.heap.size, 0, none⟩ (.int .u8 119)).setCell ⟨wr.heap.size, 0, none⟩ (.int .u8 87)).heap.size = wr.heap.size + 1 := by simp only [World.setCell, Array.size_modify]; exact hs3
        clear hp1 hp2 hme
        generalize (w3.setCell ⟨wr.heap.size, 0, none⟩ (.int .u8 119)).setCell ⟨wr.heap.size, 0, none⟩ (.int .u8 87) = w4 at *
        clear f0 e0 HSZ3 HB3 hs3
        have HYD : Hid (BysA w4.drew (some ⟨g, q, none⟩) ck) := bysA_below (unhide HY) (Below.drew (unhide HB4))
        have HPD : Hid (SecsAt w4.drew 75 wr.heap.size [mkS [87]]) := (unhide HP).below (Below.drew (Below.refl _ _))
        go_region_law ((refine step_copyS _ _ wr.heap.size 63 (some ⟨g, q, none⟩) _ _ ck 87 ?_ hc63 (unhide HCB) (by omega) rfl rfl (unhide HYD) (unhide HPD) ?_); (focus (exact unhide HRL)); intro w5 hw5 hs5; have HB5 := hide (show Below wr.heap.size wr w5 from hw5 ▸ below_sets (Below.drew (unhide HB4)) wr.heap.size 1 _ (Nat.le_refl _)); have HS5 := hide hs5; clear hw5 hs5)
        all_goals
          have HO5 := hide (own_below (unhide HOW) (unhide HB5))
          go_wp2_with (first
            | ((with_reducible refine wpList_loadS Try.underlying75 Try.size75 _ wr.heap.size 0 (mkS (87 :: ck)) ?_ (secs_range (unhide HS5)) ?_); (focus rfl))
            | ((with_reducible refine wpList_bslS _ (mkS (87 :: ck)) ?_ ?_); (focus rfl); intro w6 hg6 hr6; have HO6 := hide (own_below (unhide HO5) (below_grown hg6)); have HB6 := hide (below_then (unhide HB5) (below_grown hg6)); have HR6 := hide (show ScsA w6 _ [mkS (87 :: ck)] by unfold ScsA; rw [flatS_one]; exact hr6); clear hr6 hg6)
            | ((with_reducible refine wpList_appendS _ _ w2.heap.size _ ((cutS E).take kk) [mkS (87 :: ck)] ?_ (unhide HO6) _ 1 1 ?_ ?_ (unhide HR6) ?_ ?_ ?_); (focus rfl); (focus rfl); (focus rfl); (focus (have h1 := unhide HTK; have h2 : ([mkS (87 :: ck)] : List Sct).length = 1 := rfl; omega)); (focus (exact (below_then (unhide HBL) (unhide HB6)).size)); intro v7 w7 ho7 hg7; have HB7 := hide ((below_then (unhide HBL) (unhide HB6)).grown hg7 (below_then (unhide HBL) (unhide HB6)).size (fun j hj => (own_block (unhide HO6) hj).1)); rw [← unhide HS1] at ho7; have HO7 := hide ho7; clear ho7 hg7))
          go_roundw
          case rel => exact ⟨kk + 1, by omega, by rw [← unhide HNX], unhide HO7, unhide HB7⟩
          case measure => simp [intOf]; omega
      · have hm : markI kk = 119 := by unfold markI; rw [if_neg hk0]
        rw [hm] at HS1
        obtain ⟨q, hqe⟩ : ∃ q, 63 * kk = q := ⟨_, rfl⟩
        rw [hqe] at HY HNX hq hnc hcl ⊢
        have hqn : (q : Int) < (E.length : Int) := by omega
        obtain ⟨r, hr⟩ : ∃ r, q + ck.length = r := ⟨_, rfl⟩
        have hwq : IntKind.i64.wrap ((q : Int) + 63) = (q : Int) + 63 := by rw [IntKind.wrap_i64]; omega
        have hif : (if (E.length : Int) < (q : Int) + 63 then (E.length : Int) else (q : Int) + 63) = (r : Int) := by
          split <;> omega
        have hrc : (r : Int) ≤ (c : Int) := by omega
        have hqr : q ≤ r := by omega
        have HRL : Hid (r - q = ck.length) := by show _ = _; omega
        have hc63 : ck.length ≤ 63 := by omega
        have hq0 : ((q : Int) == 0) = false := beq_eq_false_iff_ne.2 (by omega)
        clear hcl hq hr hk0
        go_wp2_with ((with_reducible refine wpList_allocT 75 i44 (sv zeroS) hi44 hz44 ?_); intro w3 hb3 hs3 hg3; have hsz3 := secs_new hg3; have f0 := hsz3.1.frozen 0; have e0 := secs_byte hsz3 0 (by omega); have HSZ3 := hide hsz3; have HB3 := hide hb3; clear hsz3 hg3 hb3)
        have hp1 := secs_poke (unhide HSZ3) 0 (by omega) 119 (by omega)
        rw [mk_mark 119 (by omega)] at hp1
        have HP := hide hp1
        have HB4 := hide (below_set (unhide HB3) wr.heap.size 0 (.int .u8 119) (Nat.le_refl _))
        have hz4 : (w3.setCell ⟨wr.heap.size, 0, none⟩ (.int .u8 119)).heap.size = wr.heap.size + 1 := by simp only [World.setCell, Array.size_modify]; exact hs3
        clear hp1
        generalize w3.setCell ⟨wr.heap.size, 0, none⟩ (.int .u8 119) = w4 at *
        clear f0 e0 HSZ3 HB3 hs3
        have HYD : Hid (BysA w4.drew (some ⟨g, q, none⟩) ck) := bysA_below (unhide HY) (Below.drew (unhide HB4))
        have HPD : Hid (SecsAt w4.drew 75 wr.heap.size [mkS [119]]) := (unhide HP).below (Below.drew (Below.refl _ _))
        go_region_law ((refine step_copyS _ _ wr.heap.size 63 (some ⟨g, q, none⟩) _ _ ck 119 ?_ hc63 (unhide HCB) (by omega) rfl rfl (unhide HYD) (unhide HPD) ?_); (focus (exact unhide HRL)); intro w5 hw5 hs5; have HB5 := hide (show Below wr.heap.size wr w5 from hw5 ▸ below_sets (Below.drew (unhide HB4)) wr.heap.size 1 _ (Nat.le_refl _)); have HS5 := hide hs5; clear hw5 hs5)
        all_goals
          have HO5 := hide (own_below (unhide HOW) (unhide HB5))
          go_wp2_with (first
            | ((with_reducible refine wpList_loadS Try.underlying75 Try.size75 _ wr.heap.size 0 (mkS (119 :: ck)) ?_ (secs_range (unhide HS5)) ?_); (focus rfl))
            | ((with_reducible refine wpList_bslS _ (mkS (119 :: ck)) ?_ ?_); (focus rfl); intro w6 hg6 hr6; have HO6 := hide (own_below (unhide HO5) (below_grown hg6)); have HB6 := hide (below_then (unhide HB5) (below_grown hg6)); have HR6 := hide (show ScsA w6 _ [mkS (119 :: ck)] by unfold ScsA; rw [flatS_one]; exact hr6); clear hr6 hg6)
            | ((with_reducible refine wpList_appendS _ _ w2.heap.size _ ((cutS E).take kk) [mkS (119 :: ck)] ?_ (unhide HO6) _ 1 1 ?_ ?_ (unhide HR6) ?_ ?_ ?_); (focus rfl); (focus rfl); (focus rfl); (focus (have h1 := unhide HTK; have h2 : ([mkS (119 :: ck)] : List Sct).length = 1 := rfl; omega)); (focus (exact (below_then (unhide HBL) (unhide HB6)).size)); intro v7 w7 ho7 hg7; have HB7 := hide ((below_then (unhide HBL) (unhide HB6)).grown hg7 (below_then (unhide HBL) (unhide HB6)).size (fun j hj => (own_block (unhide HO6) hj).1)); rw [← unhide HS1] at ho7; have HO7 := hide ho7; clear ho7 hg7))
          go_roundw
          case rel => exact ⟨kk + 1, by omega, by rw [← unhide HNX], unhide HO7, unhide HB7⟩
          case measure => simp [intOf]; omega
    · obtain rfl : kk = pieces E.length := by omega
      have hpq : E.length ≤ 63 * pieces E.length := by omega
      have hpq' : ¬ ((63 * pieces E.length : Nat) : Int) < (E.length : Int) := by omega
      have HFI : Hid (wr.ownsRow w2.heap.size 75 64 (.slice Ao (pieces E.length) co) (cutS E).length (flatS (cutS E))) := by
        have h := unhide HOW
        rw [show (cutS E).take (pieces E.length) = cutS E by rw [← unhide HCL, List.take_length]] at h
        exact h
      clear HOW HTK hpz
      generalize 63 * pieces E.length = q at *
      generalize pieces E.length = pc at *
      go_wp2
      go_ret2
      exact ⟨_, rfl, own_mono (unhide HFI) (unhide HB2).size, below_then (unhide HB2) (unhide HBL)⟩
end Go.Proofs.Ytfceileohkngnaa
