/- The walk of EntryTurns. -/
import Derived.Test.YtpaolllkpmkgkaaTurnD
namespace Go.Proofs.Ytpaolllkpmkgkaa
open Go.RowKit
set_option linter.unusedVariables false
set_option maxRecDepth 4000

theorem flatS_at (S : List Sct) (j : Nat) (h : j / 64 < S.length) : (flatS S)[j]? = some (.int .u8 (byteS S j)) := by
  have e : S[j / 64]? = some (S.getD (j / 64) zeroS) := by rw [List.getD_eq_getElem?_getD, List.getElem?_eq_getElem h]; rfl
  have := flatS_get S (j / 64) _ (j % 64) e (by omega)
  rw [show j / 64 * 64 + j % 64 = j by omega, bytes_get _ _ (by omega)] at this
  exact this
theorem flatS_turn (S : List Sct) (k : Nat) (v : Int) (hv : 0 ≤ v ∧ v ≤ 255) (hk : k / 64 < S.length) : flatS (turnS S k v hv) = (flatS S).set k (.int .u8 v) := by
  refine List.ext_getElem? (fun j => ?_)
  by_cases hj : j / 64 < S.length
  · rw [flatS_at _ j (by rw [turnS_len]; exact hj), List.getElem?_set]
    unfold byteS
    rw [turnS_getD _ _ _ _ _ hk]
    by_cases h : k = j
    · subst h
      rw [if_pos rfl, if_pos rfl, if_pos (by rw [flatS_len]; omega), setS_getD _ _ _ _ _ (by omega), if_pos rfl]
    · rw [if_neg h, flatS_at S j hj]
      unfold byteS
      by_cases h2 : k / 64 = j / 64
      · rw [if_pos h2, setS_getD _ _ _ _ _ (by omega), if_neg (by omega), h2]
      · rw [if_neg h2]
  · rw [List.getElem?_eq_none (by rw [flatS_len, turnS_len]; omega), List.getElem?_eq_none (by rw [List.length_set, flatS_len]; omega)]

theorem scs_poke {w : World} {base g n cap : Nat} {S : List Sct} (h : w.ownsRow base 44 64 (.slice (some ⟨g, 0, none⟩) n cap) S.length (flatS S)) (k : Nat) (hk : k / 64 < S.length) :
    w.cell? ⟨g, k / 64 * 64 + k % 64, none⟩ = some (.int .u8 (byteS S k)) ∧ w.frozen? ⟨g, k / 64 * 64 + k % 64, none⟩ = false ∧ ∀ (v : Int) (hv : 0 ≤ v ∧ v ≤ 255), ScsA (w.setCell ⟨g, k / 64 * 64 + k % 64, none⟩ (.int .u8 v)).drew (some ⟨g, 0, none⟩) (turnS S k v hv) := by
  rw [show k / 64 * 64 + k % 64 = k by omega]
  rcases h.2 with ⟨h1, _⟩ | ⟨g', cap', cur, hv, hb, hg, hnc, hcm, hcs, htk⟩
  · cases h1
  · cases hv
    have hB : Blk w 44 g cur.size (flatS S) := ⟨cur, hg, rfl, by rw [flatS_len]; exact htk⟩
    refine ⟨hB.cell (flatS_at S k hk), hB.frozen k, fun v hv => ?_⟩
    have := (hB.set (j := k) (.int .u8 v) (by rw [flatS_len]; omega)).drew.row
    unfold ScsA
    rw [flatS_turn _ _ _ _ hk]
    exact this
theorem own_shape {w : World} {base : Nat} {v : Value} {S : List Sct} (h : w.ownsRow base 44 64 v S.length (flatS S)) (h0 : 0 < S.length) : ∃ g c, v = .slice (some ⟨g, 0, none⟩) S.length c ∧ base ≤ g ∧ S.length ≤ c := by
  rcases h.2 with ⟨_, h1⟩ | ⟨g, cap, cur, rfl, hb, hg, hnc, hcm, hcs, htk⟩
  · omega
  · exact ⟨g, cap, rfl, hb, hnc⟩

/-- Too great, or nothing is turned: the law asks its own entry alone. -/
theorem eturn_no (k e s : Int) (A : Option Addr) (n cap : Nat) (at_ by_ : Int) (h : 600 < n ∨ by_ = 0) (hn : n ≤ maxLen) (w : World) :
    Calls Try.prog 4 #[.agg #[.int .i64 k, .int .u32 e, .int .u32 s, .slice A n cap], .int .i64 at_, .int .u8 by_] w fun x w' => x = .returned (.bool true) ∧ Below w.heap.size w w' := by
  have hml : maxLen = 9223372036854775807 := rfl
  rw [hml] at hn
  clear hml
  by_cases h1 : 600 < n
  · have h1' : (600 : Int) < (n : Int) := by omega
    go_enter Try.func4, Try.ntmps4
    go_wp2_with (go_at_call 9; refine (wakes_go _).mono ?_; rintro x w3 ⟨rfl, hb⟩)
    go_ret
    exact ⟨rfl, below_then (below_alloc (Below.refl _ _) _) hb⟩
  · have h1' : ¬ (600 : Int) < (n : Int) := by omega
    have h2 : by_ = 0 := by omega
    subst h2
    go_enter Try.func4, Try.ntmps4
    go_wp2_with (go_at_call 9; refine (wakes_go _).mono ?_; rintro x w3 ⟨rfl, hb⟩)
    go_ret
    exact ⟨rfl, below_then (below_alloc (Below.refl _ _) _) hb⟩

set_option maxRecDepth 100000 in
set_option maxHeartbeats 2000000 in
theorem eturn_walk (k e s : Int) (hk : -9223372036854775808 ≤ k ∧ k ≤ 9223372036854775807) (he : 0 ≤ e ∧ e ≤ 4294967295) (hs : 0 ≤ s ∧ s ≤ 4294967295) (A : Option Addr) (b : List Int) (cap : Nat) (at_ by_ : Int) (ha : -9223372036854775808 ≤ at_ ∧ at_ ≤ 9223372036854775807) (hb : 0 ≤ by_ ∧ by_ ≤ 255) (hb0 : by_ ≠ 0) (hn : b.length ≤ 600) (w : World)
    (hA : BysA w A b) (hB : Byt b) :
    Calls Try.prog 4 #[.agg #[.int .i64 k, .int .u32 e, .int .u32 s, .slice A b.length cap], .int .i64 at_, .int .u8 by_] w fun x w' => x = .returned (.bool true) ∧ Below w.heap.size w w' := by
  have hk2 : 0 ≤ k % 256 ∧ k % 256 ≤ 255 := by omega
  have HMOD : Hid (∀ W : World, Calls Try.prog 18 #[.int .i64 k, .int .i64 256] W fun x w' => x = .returned (.int .i64 (k % 256)) ∧ w' = W) := fun W => mod_any k 256 hk (by omega) W
  generalize hkk : k % 256 = k' at *
  clear hkk
  have HEN : Hid (∀ W : World, Below w.heap.size w W → Calls Try.prog 10 #[.agg #[.int .i64 k', .int .u32 e, .int .u32 s, .slice A b.length cap]] W fun x w' => ∃ g c, x = .returned (.tuple #[.slice (some ⟨g, 0, none⟩) (cutS (entL k' e s b)).length c, .int .i64 0]) ∧ w'.ownsRow W.heap.size 44 64 (.slice (some ⟨g, 0, none⟩) (cutS (entL k' e s b)).length c) (cutS (entL k' e s b)).length (flatS (cutS (entL k' e s b))) ∧ Below W.heap.size W w') := fun W hW => encode_ok k' e s hk2 he hs A b cap (by omega) hB W (bysA_below hA hW)
  have HDT : Hid (∀ (i : Nat), i / 64 < (cutS (entL k' e s b)).length → i ≠ 10 → i ≠ 11 → ∀ (v : Int) (hv : 0 ≤ v ∧ v ≤ 255), v ≠ byteS (cutS (entL k' e s b)) i → ∀ (T : Option Addr) (N c : Nat) (W : World), N = (cutS (entL k' e s b)).length → ScsA W T (turnS (cutS (entL k' e s b)) i v hv) → N ≤ c → Calls Try.prog 12 #[.slice T N c] W fun x w' => x = .returned (.tuple #[.agg #[.int .i64 0, .int .u32 0, .int .u32 0, .slice none 0 0], .int .i64 0, .int .i64 11]) ∧ Below W.heap.size W w') :=
    fun i h1 h2 h3 v hv h4 T N c W h5 h6 h7 => decode_turn k' e s hk2 b (by omega) hB i h1 h2 h3 v hv h4 T N c W h5 h6 h7
  have HDF : Hid (∀ (T : Option Addr) (N c : Nat) (W : World), N + 1 = (cutS (entL k' e s b)).length → ScsA W T (cutS (entL k' e s b)) → Calls Try.prog 12 #[.slice T N c] W fun x w' => x = .returned (.tuple #[.agg #[.int .i64 0, .int .u32 0, .int .u32 0, .slice none 0 0], .int .i64 0, .int .i64 11]) ∧ Below W.heap.size W w') :=
    fun T N c W h5 h6 => decode_fewer k' e s hk2 b (by omega) hB T N c W h5 h6
  have hKl : (cutS (entL k' e s b)).length ≤ 100 := by rw [cutS_len, pieces_ent]; omega
  have hK0 : 0 < (cutS (entL k' e s b)).length := by rw [cutS_len, pieces_ent]; omega
  have HA := hide hA
  generalize cutS (entL k' e s b) = C at *
  have hm1 := Int.emod_nonneg at_ (show (C.length : Int) * 64 ≠ 0 by omega)
  have hm2 := Int.emod_lt_of_pos at_ (show 0 < (C.length : Int) * 64 by omega)
  have HMD2 : Hid (∀ W : World, Calls Try.prog 18 #[.int .i64 at_, .int .i64 ((C.length : Int) * 64)] W fun x w' => x = .returned (.int .i64 (at_ % ((C.length : Int) * 64))) ∧ w' = W) := fun W => mod_any at_ _ ha (by omega) W
  obtain ⟨m, hm⟩ : ∃ m : Nat, at_ % ((C.length : Int) * 64) = m := ⟨(at_ % ((C.length : Int) * 64)).toNat, by omega⟩
  rw [hm] at HMD2 hm1 hm2
  clear hm hm1
  have hmC : m / 64 < C.length := by omega
  have hml : m < C.length * 64 := by omega
  clear hm2
  have HXO := hide (fun (a : Int) (h : 0 ≤ a ∧ a ≤ 255) => xor_u8 a by_ h hb hb0)
  have hbyte : 0 ≤ byteS C m ∧ byteS C m ≤ 255 := sct_byte _ _ (by omega)
  clear hA hB hk he hs hk2 ha hb
  have hn' : ¬ (600 : Int) < (b.length : Int) := by omega
  have HB1 : Hid (Below w.heap.size w (w.alloc (.cells #[.int .i64 k', .int .u32 e, .int .u32 s, .slice A b.length cap] 25))) := below_alloc (Below.refl _ _) _
  by_cases h1011 : m = 10 ∨ m = 11
  · go_enter Try.func4, Try.ntmps4
    rcases h1011 with rfl | rfl
    all_goals
      go_wp2_with (first
        | (go_at_call 18; first | ((with_reducible refine (unhide HMOD _).mono ?_); rintro x w1 ⟨rfl, rfl⟩) | ((with_reducible refine (unhide HMD2 _).mono ?_); rintro x w2 ⟨rfl, rfl⟩))
        | (go_at_call 10; refine (unhide HEN _ (unhide HB1)).mono ?_; rintro x w2 ⟨g, c, rfl, ho, hb2⟩; have HB2 := hide (below_then (unhide HB1) hb2); clear hb2)
        | (go_at_call 9; refine (wakes_go _).mono ?_; rintro x w8 ⟨rfl, hb8⟩; have HB8 := hide (below_then (unhide HB2) hb8); clear hb8))
      go_ret
      exact ⟨rfl, unhide HB8⟩
  · have h10 : m ≠ 10 := fun h => h1011 (.inl h)
    have h11 : m ≠ 11 := fun h => h1011 (.inr h)
    have h10' : ((m : Int) == 10) = false := beq_eq_false_iff_ne.2 (by omega)
    have h11' : ((m : Int) == 11) = false := beq_eq_false_iff_ne.2 (by omega)
    clear h1011
    go_enter Try.func4, Try.ntmps4
    go_wp2_with (first
      | (go_at_call 18; first | ((with_reducible refine (unhide HMOD _).mono ?_); rintro x w1 ⟨rfl, rfl⟩) | ((with_reducible refine (unhide HMD2 _).mono ?_); rintro x w2 ⟨rfl, rfl⟩))
      | (go_at_call 10; refine (unhide HEN _ (unhide HB1)).mono ?_; rintro x w2 ⟨g, c, rfl, ho, hb2⟩; have HB2 := hide (below_then (unhide HB1) hb2); have HOW := hide ho; obtain ⟨A2, c2, e2, hsc, hc2⟩ := own_scs ho; cases e2; have HSC := hide hsc; have HL0 := hide (own_lit0 w2); have HZA := hide (size_alloc_le w2 (.cells #[] 44)); have HSA := hide (ScsA.below hsc (below_alloc (Below.refl _ _) (.cells #[] 44))); have HC2 := hide hc2; clear hb2 ho hsc hc2)
      | ((with_reducible refine wpList_appendS _ _ w2.heap.size (.slice (some ⟨w2.heap.size, 0, none⟩) 0 0) [] C ?_ (unhide HL0) (some ⟨g, 0, none⟩) C.length c ?_ ?_ (unhide HSA) ?_ (unhide HZA) ?_); (focus rfl); (focus rfl); (focus rfl); (focus (simp; omega)); intro v3 w4 hown3 hg3; have hb34 : Below w2.heap.size w2 w4 := ((below_alloc (Below.refl _ _) (.cells #[] 44)).grown hg3 (unhide HZA) (fun j hj => by simp [Value.ownBlock] at hj; omega)); have HB34 := hide hb34; rw [List.nil_append] at hown3; obtain ⟨g3, c3, rfl, hg3, hc3⟩ := own_shape hown3 hK0; have HO4 := hide hown3; have HC3 := hide hc3; have HG3 := hide hg3; obtain ⟨hcm, hfm, hpk⟩ := scs_poke hown3 m hmC; have HPK := hide hpk; clear hown3 hc3 hg3 hb34 hpk))

    obtain ⟨hv5, hne5⟩ := unhide HXO _ hbyte
    have HDC := hide (fun W (hW : ScsA W (some ⟨g3, 0, none⟩) (turnS C m _ hv5)) => unhide HDT m hmC h10 h11 _ hv5 hne5 (some ⟨g3, 0, none⟩) C.length c3 W rfl hW (unhide HC3))
    have HPV := hide (unhide HPK _ hv5)
    clear hne5 HDT HPK HXO
    have HB5 := hide (Below.drew (below_set (unhide HB34) g3 (m / 64 * 64 + m % 64) (.int .u8 (bits .xor .u8 (byteS C m) by_)) (unhide HG3)))
    generalize hvv : bits .xor .u8 (byteS C m) by_ = v5 at *
    go_region
    go_wp2_with (first
      | (go_at_call 12; (with_reducible refine (unhide HDC _ (unhide HPV)).mono ?_); rintro x w6 ⟨rfl, hb6⟩; have hb26 := below_then (unhide HB5) hb6; have HB6 := hide (below_then (unhide HB2) hb26); have HS6 := hide (ScsA.below (unhide HSC) (below_alloc hb26 (.cells #[.int .i64 0, .int .u32 0, .int .u32 0, .slice none 0 0] 25))); have hc2 := unhide HC2; have hcc : (C.length : Int) - 1 ≤ (c : Int) := (by omega); have hcz : (0 : Int) ≤ (C.length : Int) - 1 := (by omega); clear hb6 hb26 HPV HDC)
      | (go_at_call 12; (with_reducible refine (unhide HDF _ _ _ _ ?_ (unhide HS6)).mono ?_); (focus omega); rintro x w7 ⟨rfl, hb7⟩; have hn7 := (hb7.block w6.heap.size (by simp)).trans (heap_alloc_last w6 (.cells #[.int .i64 0, .int .u32 0, .int .u32 0, .slice none 0 0] 25)); have x3 := (heap_cell hn7 3).1; have hlt7 : w6.heap.size < w7.heap.size := lt_of_get hn7; have HB7 := hide (below_then (below_alloc (unhide HB6) _) hb7); clear hb7 hn7)
      | (go_at_call 9; refine (wakes_go _).mono ?_; rintro x w8 ⟨rfl, hb8⟩; have HB8 := hide (below_then (below_alloc (unhide HB7) _) hb8); clear hb8))
    go_ret
    exact ⟨rfl, unhide HB8⟩
end Go.Proofs.Ytpaolllkpmkgkaa
