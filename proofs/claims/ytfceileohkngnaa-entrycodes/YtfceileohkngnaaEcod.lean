/- What EntryCodes asks: both Encodes, both Decodes tell the same. -/
import Derived.Test.YtfceileohkngnaaRdec
import Derived.Test.YtfceileohkngnaaMO
namespace Go.Proofs.Ytfceileohkngnaa
open Go.RowKit
set_option linter.unusedVariables false
set_option maxRecDepth 4000

/-- Decode of sectors that begin with another mark, or of none: there is none. -/
theorem rdec_first (A : Option Addr) (S : List Sct) (cap : Nat) (w : World) (hA : ScsA w A S) (hl : S.length ≤ 1000) (h : S = [] ∨ (S.getD 0 zeroS).1.getD 0 0 ≠ 87) :
    Calls Try.prog 10 #[.slice A S.length cap] w fun x w' => x = .returned (.agg #[.int .i64 0, .int .u32 0, .int .u32 0, .slice none 0 0, .int .i64 0, .int .i64 11]) ∧ Below w.heap.size w w' := by
  by_cases h0 : S.length = 0
  · rw [h0]
    go_enter Try.func10, Try.ntmps10
    go_wp2
    exact ret_cell1 rfl rfl rfl (heap_alloc_last _ _) Try.underlying37 rfl (by kernel_rfl) ⟨rfl, below_alloc (Below.refl _ _) _⟩
  · have hc : ∃ b off, A = some ⟨b, off, none⟩ ∧ w.cell? ⟨b, off, none⟩ = some (.int .u8 ((S.getD 0 zeroS).1.getD 0 0)) := by
      obtain ⟨b, off, rfl, hr⟩ := hA.range (k := 0) (by omega)
      exact ⟨b, off, rfl, by simpa using secs_cell (hr 0 _ (getD_some' S 0 (by omega))) 0 (by omega)⟩
    obtain ⟨b, off, rfl, hc0⟩ := hc
    have hne : ¬ (S.getD 0 zeroS).1.getD 0 0 = 87 := by
      rcases h with rfl | h
      · exact absurd rfl h0
      · exact h
    have hlt := World.block_lt_of_cell? _ _ hc0
    generalize (S.getD 0 zeroS).1.getD 0 0 = x0 at *
    have hx0 : (x0 != 87) = true := bne_iff_ne.2 hne
    have hl0 : ((S.length : Int) == 0) = false := beq_eq_false_iff_ne.2 (by omega)
    generalize S.length = n at *
    clear h hA
    go_enter Try.func10, Try.ntmps10
    go_wp2
    exact ret_cell1 rfl rfl rfl (heap_alloc_last _ _) Try.underlying37 rfl (by kernel_rfl) ⟨rfl, below_alloc (Below.refl _ _) _⟩
theorem bytes_alike (A B : Option Addr) (bs : List Int) (n m c d : Nat) (w : World) (hn : n = bs.length) (hm : m = bs.length) (hA : BysA w A bs) (hB : BysA w B bs) :
    Calls Try.prog 12 #[.slice A n c, .slice B m d] w fun e w' => e = .returned (.bool true) ∧ w' = w := by
  subst hn hm
  have v1 : (convert 23 9 (.slice A bs.length c)).run Try.prog w = .ok (.string (strOfNums bs)) w := conv_any hA
  have v2 : (convert 23 9 (.slice B bs.length d)).run Try.prog w = .ok (.string (strOfNums bs)) w := conv_any hB
  clear hA hB
  generalize strOfNums bs = t at *
  generalize bs.length = pl at *
  go_enter Try.func12, Try.ntmps12
  go_wp2
  go_ret
  exact ⟨rfl, rfl⟩
theorem enc_both (k e s : Int) (he : 0 ≤ e ∧ e ≤ 4294967295) (hs : 0 ≤ s ∧ s ≤ 4294967295) (b : List Int) (hB : Byt b) (hl : b.length ≤ 5000) :
    ∃ (T : List Sct) (code : Int), T.length ≤ 100 ∧ (0 ≤ code ∧ code ≤ 100) ∧
      (∀ (W : World) (A : Option Addr) (cap : Nat), BysA W A b → Calls Try.prog 7 #[.agg #[.int .i64 k, .int .u32 e, .int .u32 s, .slice A b.length cap]] W fun x w' => ∃ v, x = .returned v ∧ ((∃ A' c, v = .tuple #[.slice A' T.length c, .int .i64 code] ∧ ScsA w' A' T) ∧ Below W.heap.size W w')) ∧
      (∀ (W : World) (A : Option Addr) (cap : Nat), BysA W A b → Calls Try.prog 8 #[.agg #[.int .i64 k, .int .u32 e, .int .u32 s, .slice A b.length cap]] W fun x w' => ∃ A' c, x = .returned (.tuple #[.slice A' T.length c, .int .i64 code]) ∧ ScsA w' A' T ∧ Below W.heap.size W w') := by
  by_cases hk : 0 ≤ k ∧ k ≤ 255
  · by_cases h4 : b.length ≤ 4000
    · refine ⟨cutS (entL k e s b), 0, by rw [cutS_len, pieces_ent]; omega, by omega, fun W A cap hA => ?_, fun W A cap hA => ?_⟩
      · refine (encode_ok k e s hk he hs A b cap h4 hB W hA).mono ?_
        rintro x w' ⟨g, c, rfl, ho, hb⟩
        obtain ⟨A', c', hv, hS, _⟩ := own_scs ho
        cases hv
        exact ⟨_, rfl, ⟨_, _, rfl, hS⟩, hb⟩
      · refine (rencode_ok k e s hk he hs A b cap h4 hB W hA).mono ?_
        rintro x w' ⟨v, rfl, ho, hb⟩
        obtain ⟨A', c', rfl, hS, _⟩ := own_scs ho
        exact ⟨_, _, rfl, hS, hb⟩
    · refine ⟨[], 2, by simp, by omega, fun W A cap hA => ?_, fun W A cap hA => ?_⟩
      · refine (encode_long k e s hk A b.length cap (by omega) W).mono ?_
        rintro x w' ⟨rfl, hb⟩
        exact ⟨_, rfl, ⟨none, 0, rfl, rowA_nil _ _⟩, hb⟩
      · refine (rencode_long k e s hk A b.length cap (by omega) W).mono ?_
        rintro x w' ⟨rfl, hb⟩
        exact ⟨none, 0, rfl, rowA_nil _ _, hb⟩
  · have hk' : k < 0 ∨ 255 < k := by omega
    refine ⟨[], 11, by simp, by omega, fun W A cap hA => ?_, fun W A cap hA => ?_⟩
    · refine (encode_form k e s hk' A b.length cap W).mono ?_
      rintro x w' ⟨rfl, hb⟩
      exact ⟨_, rfl, ⟨none, 0, rfl, rowA_nil _ _⟩, hb⟩
    · refine (rencode_form k e s hk' A b.length cap W).mono ?_
      rintro x w' ⟨rfl, hb⟩
      exact ⟨none, 0, rfl, rowA_nil _ _, hb⟩

/-- The reference's Decode of any sectors. -/
theorem rdec_any (A : Option Addr) (S : List Sct) (cap : Nat) (w : World) (hA : ScsA w A S) (hl : S.length ≤ 1000) :
    Calls Try.prog 10 #[.slice A S.length cap] w fun x w' => RGot S w x w' ∧ Below w.heap.size w w' := by
  by_cases h : S = [] ∨ (S.getD 0 zeroS).1.getD 0 0 ≠ 87
  · refine (rdec_first A S cap w hA hl h).mono ?_
    rintro x w' ⟨rfl, hb⟩
    refine ⟨.inl ⟨?_, rfl⟩, hb⟩
    cases hd : decS S with
    | none => rfl
    | some y =>
      obtain ⟨h0, h1, _⟩ := decS_some hd
      have hc := dec_cut hd
      rcases h with rfl | h
      · simp at h1; omega
      · refine absurd ?_ h
        have g : (S.take y.n)[0]? = some (S.getD 0 zeroS) := by rw [List.getElem?_take, if_pos h0, getD_some' S 0 (by omega)]
        rw [hc] at g
        exact marks_cut _ 0 _ g
  · have h0 : 0 < S.length := List.length_pos_iff.2 (fun e => h (.inl e))
    exact rdec_join A S cap w hA hl h0 (Classical.byContradiction fun hc => h (.inr hc))

theorem dec_both (S : List Sct) (hl : S.length ≤ 100) :
    ∃ (k e s n code : Int) (b : List Int), b.length ≤ 4000 ∧
      (∀ (W : World) (A : Option Addr) (cap : Nat), S.length ≤ cap → ScsA W A S → Calls Try.prog 9 #[.slice A S.length cap] W fun x w' => ∃ B c, x = .returned (.tuple #[.agg #[.int .i64 k, .int .u32 e, .int .u32 s, .slice B b.length c], .int .i64 n, .int .i64 code]) ∧ BysA w' B b ∧ Below W.heap.size W w') ∧
      (∀ (W : World) (A : Option Addr) (cap : Nat), ScsA W A S → Calls Try.prog 10 #[.slice A S.length cap] W fun x w' => ∃ B c, x = .returned (.agg #[.int .i64 k, .int .u32 e, .int .u32 s, .slice B b.length c, .int .i64 n, .int .i64 code]) ∧ BysA w' B b ∧ Below W.heap.size W w') := by
  cases hd : decS S with
  | none =>
    refine ⟨0, 0, 0, 0, 11, [], by simp, fun W A cap hc hA => ?_, fun W A cap hA => ?_⟩
    · refine (decode_none A S cap _ W rfl hA (by omega) hc hd).mono ?_
      rintro x w' ⟨rfl, hb⟩
      exact ⟨none, 0, rfl, bysA_nil _ _, hb⟩
    · refine (rdec_any A S cap W hA (by omega)).mono ?_
      rintro x w' ⟨h, hb⟩
      rcases h with ⟨_, rfl⟩ | ⟨y, B, c, h, _⟩
      · exact ⟨none, 0, rfl, bysA_nil _ _, hb⟩
      · rw [hd] at h; cases h
  | some y =>
    obtain ⟨_, _, _, _, _, _, _, hbl⟩ := decS_some hd
    refine ⟨y.k, y.e, y.s, y.n, 0, y.b, hbl, fun W A cap hc hA => ?_, fun W A cap hA => ?_⟩
    · refine (decode_some A S cap _ W rfl hA (by omega) hc y hd).mono ?_
      rintro x w' ⟨B, c, rfl, ho, hb⟩
      obtain ⟨B', c', hv, hy, _⟩ := own_bys ho
      cases hv
      exact ⟨_, _, rfl, hy, hb⟩
    · refine (rdec_any A S cap W hA (by omega)).mono ?_
      rintro x w' ⟨h, hb⟩
      rcases h with ⟨h, _⟩ | ⟨y', B, c, h, rfl, ho⟩
      · rw [hd] at h; cases h
      · rw [hd] at h
        cases h
        obtain ⟨B', c', hv, hy, _⟩ := own_bys ho
        cases hv
        exact ⟨_, _, rfl, hy, hb⟩
end Go.Proofs.Ytfceileohkngnaa
