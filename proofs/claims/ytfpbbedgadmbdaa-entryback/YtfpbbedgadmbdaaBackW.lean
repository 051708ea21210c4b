/- The walk of EntryBack. -/
import Derived.Test.YtfpbbedgadmbdaaWk
namespace Go.Proofs.Ytfpbbedgadmbdaa
open Go.RowKit
set_option linter.unusedVariables false

theorem needI_in' {n : Int} (h : 0 ≤ n ∧ n ≤ 4000) : needI n = (n + 77) / 63 := by unfold needI; rw [if_neg (by omega)]
/-- Too great: the law asks its own entry alone. -/
theorem back_no (k e s : Int) (A : Option Addr) (n cap : Nat) (R : Option Addr) (m rc : Nat) (h : 1500 < n ∨ 80 < m) (hn : n ≤ maxLen) (hm : m ≤ maxLen) (w : World) :
    Calls Try.prog 4 #[.agg #[.int .i64 k, .int .u32 e, .int .u32 s, .slice A n cap], .slice R m rc] w fun x w' => x = .returned (.bool true) ∧ Below w.heap.size w w' := by
  have hml : maxLen = 9223372036854775807 := rfl
  rw [hml] at hn hm
  clear hml
  by_cases h1 : 1500 < n
  · have h1' : (1500 : Int) < (n : Int) := by omega
    go_enter Try.func4, Try.ntmps4
    go_wp2_with (go_at_call 7; refine (wakes_go _).mono ?_; rintro x w3 ⟨rfl, hb⟩)
    go_ret
    exact ⟨rfl, below_then (below_alloc (Below.refl _ _) _) hb⟩
  · have h1' : ¬ (1500 : Int) < (n : Int) := by omega
    have h2 : (80 : Int) < (m : Int) := by omega
    go_enter Try.func4, Try.ntmps4
    go_wp2_with (go_at_call 7; refine (wakes_go _).mono ?_; rintro x w3 ⟨rfl, hb⟩)
    go_ret
    exact ⟨rfl, below_then (below_alloc (Below.refl _ _) _) hb⟩

theorem bytes_same (a a' : Option Addr) (bs : List Int) (n c c' : Nat) (w : World) (hn : n = bs.length) (h : BysA w a bs) (h' : BysA w a' bs) :
    Calls Try.prog 13 #[.slice a n c, .slice a' n c'] w fun e w' => e = .returned (.bool true) ∧ w' = w := by
  subst hn
  have g1 := conv_any (cap := c) h
  have g2 := conv_any (cap := c') h'
  generalize bs.length = n at *
  generalize strOfNums bs = t at *
  clear h h'
  go_enter Try.func13, Try.ntmps13
  go_wp2
  go_ret
  exact ⟨ret_bool (by simp), rfl⟩

set_option maxRecDepth 100000 in
set_option maxHeartbeats 2000000 in
theorem back_walk (k e s : Int) (hk : -9223372036854775808 ≤ k ∧ k ≤ 9223372036854775807) (he : 0 ≤ e ∧ e ≤ 4294967295) (hs : 0 ≤ s ∧ s ≤ 4294967295) (A : Option Addr) (b : List Int) (cap : Nat) (R : Option Addr) (rest : List Sct) (rc : Nat) (hn : b.length ≤ 1500) (hm : rest.length ≤ 80) (w : World)
    (hA : BysA w A b) (hB : Byt b) (hR : ScsA w R rest) :
    Calls Try.prog 4 #[.agg #[.int .i64 k, .int .u32 e, .int .u32 s, .slice A b.length cap], .slice R rest.length rc] w fun x w' => x = .returned (.bool true) ∧ Below w.heap.size w w' := by
  have hk2 : 0 ≤ k % 256 ∧ k % 256 ≤ 255 := by omega
  have HMOD : Hid (∀ W : World, Calls Try.prog 16 #[.int .i64 k, .int .i64 256] W fun x w' => x = .returned (.int .i64 (k % 256)) ∧ w' = W) := fun W => mod_any k 256 hk (by omega) W
  generalize hkk : k % 256 = k' at *
  clear hkk
  have HEN : Hid (∀ W : World, Below w.heap.size w W → Calls Try.prog 8 #[.agg #[.int .i64 k', .int .u32 e, .int .u32 s, .slice A b.length cap]] W fun x w' => ∃ g c, x = .returned (.tuple #[.slice (some ⟨g, 0, none⟩) (cutS (entL k' e s b)).length c, .int .i64 0]) ∧ w'.ownsRow W.heap.size 44 64 (.slice (some ⟨g, 0, none⟩) (cutS (entL k' e s b)).length c) (cutS (entL k' e s b)).length (flatS (cutS (entL k' e s b))) ∧ Below W.heap.size W w') := fun W hW => encode_ok k' e s hk2 he hs A b cap (by omega) hB W (bysA_below hA hW)
  have HDE : Hid (∀ (W : World) (T : Option Addr) (N c : Nat), N = (cutS (entL k' e s b) ++ rest).length → ScsA W T (cutS (entL k' e s b) ++ rest) → N ≤ 1000 → N ≤ c → Calls Try.prog 10 #[.slice T N c] W fun x w' => ∃ B c', x = .returned (.tuple #[.agg #[.int .i64 k', .int .u32 e, .int .u32 s, .slice B b.length c'], .int .i64 (cutS (entL k' e s b)).length, .int .i64 0]) ∧ BysA w' B b ∧ Below W.heap.size W w') := fun W T N c h1 h2 h3 h4 => by
    refine (decode_ent k' e s hk2 he hs b (by omega) hB rest T N c W h1 h2 h3 h4).mono ?_
    rintro x w' ⟨B, c', rfl, ho, hb⟩
    obtain ⟨A', c'', e', hy, _⟩ := own_bys ho
    cases e'
    exact ⟨_, _, rfl, hy, hb⟩
  have HKN : Hid (needI (b.length : Int) = ((cutS (entL k' e s b)).length : Int)) := by
    show _ = _
    rw [cutS_len, pieces_ent, needI_in' (by omega)]; omega
  have HMK := hide (marks_cut (entL k' e s b))
  have hKl : (cutS (entL k' e s b)).length ≤ 100 := by rw [cutS_len, pieces_ent]; omega
  have hK0 : 0 < (cutS (entL k' e s b)).length := by rw [cutS_len, pieces_ent]; omega
  have HA := hide hA
  have HR := hide hR
  generalize cutS (entL k' e s b) = C at *
  clear hA hB hR hk he hs hk2
  have hn' : ¬ (1500 : Int) < (b.length : Int) := by omega
  have hm' : ¬ (80 : Int) < (rest.length : Int) := by omega
  have HB1 : Hid (Below w.heap.size w (w.alloc (.cells #[.int .i64 k', .int .u32 e, .int .u32 s, .slice A b.length cap] 25))) := below_alloc (Below.refl _ _) _
  have HN1 : Hid ((w.alloc (.cells #[.int .i64 k', .int .u32 e, .int .u32 s, .slice A b.length cap] 25)).heap[w.heap.size]? = some (.cells #[.int .i64 k', .int .u32 e, .int .u32 s, .slice A b.length cap] 25 (0, 0))) := heap_alloc_last _ _
  go_enter Try.func4, Try.ntmps4
  go_wp2_with (first
    | (go_at_call 16; refine (unhide HMOD _).mono ?_; rintro x w1 ⟨rfl, rfl⟩)
    | (go_at_call 8; refine (unhide HEN _ (unhide HB1)).mono ?_; rintro x w2 ⟨g, c, rfl, ho, hb2⟩; have hn2 := (hb2.block _ (lt_of_get (unhide HN1))).trans (unhide HN1); have x0 := (heap_cell hn2 0).1; have x1 := (heap_cell hn2 1).1; have x2 := (heap_cell hn2 2).1; have x3 := (heap_cell hn2 3).1; have HN2 := hide hn2; have HB2 := hide (below_then (unhide HB1) hb2); have HO2 := hide ho; clear hn2 hb2 ho)
    | (go_at_call 14; refine (need_any _ ?_ _).mono ?_; (focus omega); rintro x w3 ⟨rfl, rfl⟩; rw [unhide HKN]))
  go_loop [7] (fun i => ∃ j : Nat, j ≤ C.length ∧ i = .int .i64 j) (fun i => C.length - (intOf i).toNat)
  case atStart => exact ⟨0, Nat.zero_le _, rfl⟩
  case round =>
    obtain ⟨j, hj, rfl⟩ := hrel
    by_cases hlt : j < C.length
    · obtain ⟨sj, hsj⟩ : ∃ sj, C[j]? = some sj := ⟨C[j], List.getElem?_eq_getElem hlt⟩
      obtain ⟨A2, c2, e2, hsc, hc2⟩ := own_scs (unhide HO2)
      cases e2
      obtain ⟨b2, off2, e3, hr⟩ := hsc.range (k := 0) (by omega)
      cases e3
      have hcj := secs_cell (hr j sj hsj) 0 (by omega)
      rw [unhide HMK j sj hsj, Nat.add_zero, Nat.zero_add] at hcj
      have hlt' : (j : Int) < (C.length : Int) := by omega
      clear hr hsc hsj
      by_cases hj0 : j = 0
      · subst hj0
        have hcj0 : markI 0 = 87 := rfl
        rw [hcj0, Nat.zero_mul] at hcj
        clear hcj0
        go_wp2
        go_round
        case rel => exact ⟨1, by omega, by go_num⟩
        case measure => simp [intOf]; omega
      · have hcj0 : markI j = 119 := by unfold markI; rw [if_neg hj0]
        rw [hcj0] at hcj
        have hj1 : ¬ (j : Int) = 0 := by omega
        have hj2 : (0 : Int) < (j : Int) := by omega
        have hj3 : 0 < j := by omega
        clear hcj0
        go_wp2
        go_round
        case rel => exact ⟨j + 1, by omega, by go_num⟩
        case measure => simp [intOf]; omega
    · obtain rfl : j = C.length := by omega
      obtain ⟨A2, c2, e2, hsc, hc2⟩ := own_scs (unhide HO2)
      cases e2
      have HSA := hide (ScsA.below hsc (below_alloc (Below.refl _ _) (.cells #[] 44)))
      have HL0 := hide (own_lit0 w3)
      have HZA := hide (size_alloc_le w3 (.cells #[] 44))
      have hltx : w.heap.size < w3.heap.size := lt_of_get (unhide HN2)
      have HX := hide (fun (W : World) (h : Below w3.heap.size w3 W) => (h.block _ (lt_of_get (unhide HN2))).trans (unhide HN2))
      clear hsc hc2 HMK hlt hj
      go_wp2_with (first
        | ((with_reducible refine wpList_appendS _ _ w.heap.size _ C rest ?_ (unhide HO4) R rest.length rc ?_ ?_ (unhide HR4) ?_ (unhide HB4).size ?_); (focus rfl); (focus rfl); (focus rfl); (focus omega); intro v5 w5 hown5 hg5; have hb45 : Below w3.heap.size w3 w5 := ((unhide HB34).grown hg5 (unhide HB34).size (unhide HOB)); have HB5 := hide (below_then (unhide HB2) hb45); have HB35 := hide hb45; obtain ⟨A5, c5, rfl, hs5, hc5⟩ := own_scs hown5; have HS5 := hide hs5; rw [List.length_append] at hc5; have HC5 := hide hc5; clear hs5 hown5 hg5 hb45 hc5)
        | ((with_reducible refine wpList_appendS _ _ w3.heap.size (.slice (some ⟨w3.heap.size, 0, none⟩) 0 0) [] C ?_ (unhide HL0) (some ⟨g, 0, none⟩) C.length c ?_ ?_ (unhide HSA) ?_ (unhide HZA) ?_); (focus rfl); (focus rfl); (focus rfl); (focus (simp; omega)); intro v3 w4 hown3 hg3; have hb34 : Below w3.heap.size w3 w4 := ((below_alloc (Below.refl _ _) (.cells #[] 44)).grown hg3 (unhide HZA) (fun j hj => by simp [Value.ownBlock] at hj; omega)); have HB34 := hide hb34; have HOB := hide (fun (j : Nat) (hj : v3.ownBlock = some j) => (own_block hown3 hj).1); have HB4 := hide (below_then (unhide HB2) hb34); have HO4 := hide (own_mono hown3 (unhide HB2).size); have HR4 := hide ((unhide HR).below (unhide HB4)); clear hown3 hg3 hb34)
        | (go_at_call 10; (with_reducible refine (unhide HDE _ A5 (C.length + rest.length) c5 (List.length_append).symm (unhide HS5) ?_ (unhide HC5)).mono ?_); (focus omega); rintro x w6 ⟨B, c6, rfl, hy6, hb6⟩; have hb36 := below_then (unhide HB35) hb6; have hn6 := unhide HX w6 hb36; have x0 := (heap_cell hn6 0).1; have x1 := (heap_cell hn6 1).1; have x2 := (heap_cell hn6 2).1; have x3 := (heap_cell hn6 3).1; have hlt6 : w.heap.size < w6.heap.size := lt_of_get hn6; have HB6 := hide (below_then (unhide HB2) hb36); have HY6 := hide hy6; clear hy6 hb6 hb36 hn6)
        | (go_at_call 13; refine (bytes_same _ _ b _ _ _ _ rfl (bysA_alloc (unhide HY6) _) (bysA_alloc (bysA_below (unhide HA) (unhide HB6)) _)).mono ?_; rintro x w7 ⟨rfl, rfl⟩)
        | (go_at_call 7; refine (wakes_go _).mono ?_; rintro x w8 ⟨rfl, hb8⟩; have HB8 := hide (below_then (below_alloc (unhide HB6) _) hb8); clear hb8))
      go_ret
      exact ⟨rfl, unhide HB8⟩
end Go.Proofs.Ytfpbbedgadmbdaa
