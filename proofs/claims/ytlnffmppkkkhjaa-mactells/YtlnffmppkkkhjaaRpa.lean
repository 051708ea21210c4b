/- The reference's Parse. -/
import Derived.Test.YtlnffmppkkkhjaaPrs
namespace Go.Proofs.Ytlnffmppkkkhjaa
open Go.RowKit
set_option linter.unusedVariables false
/-- The digits of the first i signs, as one number. -/
def vv (s : ByteArray) : Nat → Nat
  | 0 => 0
  | i + 1 => if i % 3 = 2 then vv s i else vv s i * 16 + dg (cN s i)
theorem vv_17 (s : ByteArray) : vv s 17 = fo (bts s) := by
  simp only [vv, bts, bt, fo_six]; simp; omega
theorem vv_lt (s : ByteArray) (i : Nat) (h : ∀ j, j < i → j % 3 ≠ 2 → dg (cN s j) < 16) : vv s i < 16 ^ (i - i / 3) := by
  induction i with
  | zero => simp [vv]
  | succ i ih =>
    have := ih fun j hj => h j (by omega)
    unfold vv
    split
    · rw [show i + 1 - (i + 1) / 3 = i - i / 3 by omega]; exact this
    · rename_i h2
      have := h i (by omega) h2
      rw [show i + 1 - (i + 1) / 3 = i - i / 3 + 1 by omega, Nat.pow_succ]; omega
def cutD (c k : Nat) : Int := if dg c < k then (dg c : Int) else -1
theorem cut_16 (c : Nat) : cutD c 16 = dgI c := rfl
theorem cut_0 (c : Nat) : cutD c 0 = -1 := by unfold cutD; rw [if_neg (by omega)]
theorem hexD (k : Nat) (hk : k < 16) (W : World) : (Instr.index 9 (Value.string { data := #[48, 49, 50, 51, 52, 53, 54, 55, 56, 57, 97, 98, 99, 100, 101, 102] }) (Value.int IntKind.i64 k)).run Try.prog W = .ok (.int .u8 (chr k : Nat)) W := by
  have : k = 0 ∨ k = 1 ∨ k = 2 ∨ k = 3 ∨ k = 4 ∨ k = 5 ∨ k = 6 ∨ k = 7 ∨ k = 8 ∨ k = 9 ∨ k = 10 ∨ k = 11 ∨ k = 12 ∨ k = 13 ∨ k = 14 ∨ k = 15 := by omega
  rcases this with rfl | rfl | rfl | rfl | rfl | rfl | rfl | rfl | rfl | rfl | rfl | rfl | rfl | rfl | rfl | rfl <;> rfl
theorem chr_eq (k c : Nat) (hk : k < 16) : chr k = c ↔ dg c = k := by
  constructor
  · intro h; rw [← h, dg_chr k hk]
  · intro h; have := chr_dg c (by omega); rw [h] at this; exact this
theorem cut_yes (k c : Nat) (hk : k < 16) (h : chr k = c) : cutD c (k + 1) = (k : Int) := by
  have := (chr_eq k c hk).1 h; unfold cutD; rw [if_pos (by omega), this]
theorem cut_no (k c : Nat) (hk : k < 16) (h : chr k ≠ c) : cutD c (k + 1) = cutD c k := by
  have : dg c ≠ k := fun e => h ((chr_eq k c hk).2 e)
  unfold cutD
  by_cases h1 : dg c < k
  · rw [if_pos h1, if_pos (by omega)]
  · rw [if_neg h1, if_neg (by omega)]
theorem beq_no {a b : ByteArray} (h : a ≠ b) : (a.toList == b.toList) = false := by
  rw [ByteArray.toList_eq, ByteArray.toList_eq, Bool.eq_false_iff]
  intro e
  exact h (ByteArray.ext (Array.ext' (by simpa using e)))
set_option maxHeartbeats 4000000 in
theorem rparse_any (s : ByteArray) (w : World) : Calls Try.prog 12 #[.string s] w fun e w' => e = .returned (.tuple #[.int .u64 (prsN s).1, .int .i64 (prsN s).2]) ∧ Below w.heap.size w w' := by
  by_cases h17 : s.size = 17
  · have HNO := hide (fun h : ¬ okS s => prs_no s h)
    have HOK := hide (fun h : okS s => prs_ok s h)
    go_enter Try.func12, Try.ntmps12
    go_wp2
    go_loopw [4, 5, 6, 7] (fun v i _ _ W => ∃ k : Nat, k ≤ 17 ∧ i = .int .i64 k ∧ (∀ j, j < k → j % 3 ≠ 2 → dg (cN s j) < 16) ∧ v = .int .u64 (vv s k) ∧ Below w.heap.size w W) (fun _ i _ _ _ => (17 - intOf i).toNat)
    case atStart => exact ⟨0, by omega, rfl, by omega, rfl, Below.refl _ _⟩
    case round =>
      obtain ⟨k, hk, rfl, hj, rfl, hb⟩ := hrel
      have HJ := hide hj
      have HB := hide hb
      by_cases hk17 : k < 17
      · by_cases h3 : k % 3 = 2
        · have h3' : (k : Int) % 3 = 2 := by omega
          have HV : Hid (vv s (k + 1) = vv s k) := by show _ = _; unfold vv; rw [if_pos h3]; cases k <;> rfl
          clear hj hb
          go_wp2
          go_roundw
          case rel => exact ⟨k + 1, by omega, by go_num, fun j h1 h2 => unhide HJ j (by omega) h2, by rw [unhide HV], unhide HB⟩
          case measure => simp [intOf]; omega
        · have h3' : ¬ ((k : Int) % 3 = 2) := by omega
          have i1 := sidx s k (by omega) (k : Int) rfl (by omega)
          have hv : vv s k < 16 ^ 11 := Nat.lt_of_lt_of_le (vv_lt s k hj) (Nat.pow_le_pow_right (by decide) (by omega))
          clear hj hb
          go_wp2
          go_loopw [6, 7] (fun d j W => ∃ m : Nat, m ≤ 16 ∧ j = .int .i64 m ∧ d = .int .i64 (cutD (cN s k) m) ∧ Below w.heap.size w W) (fun _ j _ => (16 - intOf j).toNat)
          case atStart => exact ⟨0, by omega, rfl, by rw [cut_0], unhide HB⟩
          case round =>
            obtain ⟨m, hm, rfl, rfl, hb⟩ := hrel
            have HB2 := hide hb
            clear hb
            by_cases hm16 : m < 16
            · have i2 := hexD m hm16
              by_cases he : chr m = cN s k
              · have HC := hide (cut_yes m (cN s k) hm16 he)
                have he' : (chr m : Int) = (cN s k : Int) := by omega
                clear he
                go_wp2
                go_quiet (fail)
                go_wp2
                go_roundw
                case rel => exact ⟨m + 1, by omega, by go_num, by rw [unhide HC], below_drewN (unhide HB2) _⟩
                case measure => simp [intOf]; omega
              · have HC := hide (cut_no m (cN s k) hm16 he)
                have he' : ¬ (chr m : Int) = (cN s k : Int) := by omega
                clear he
                go_wp2
                go_quiet (fail)
                go_wp2
                go_roundw
                case rel => exact ⟨m + 1, by omega, by go_num, by rw [unhide HC], below_drewN (unhide HB2) _⟩
                case measure => simp [intOf]; omega
            · obtain rfl : m = 16 := by omega
              rw [cut_16]
              by_cases hd : dg (cN s k) < 16
              · have hd1 : dgI (cN s k) = (dg (cN s k) : Int) := if_pos hd
                have HV : Hid ((vv s (k + 1) : Int) = (vv s k : Int) * 16 + (dg (cN s k) : Int)) := by show _ = _; unfold vv; rw [if_neg h3]; cases k <;> simp [vv]
                have HN : Hid (∀ j, j < k + 1 → j % 3 ≠ 2 → dg (cN s j) < 16) := by
                  intro j h1 h2
                  by_cases h : j < k
                  · exact unhide HJ j h h2
                  · obtain rfl : j = k := by omega
                    exact hd
                rw [hd1]
                clear hd1 hm hm16
                generalize dg (cN s k) = D at *
                generalize hvk : vv s k = V at *
                go_wp2
                go_roundw
                case rel => exact ⟨k + 1, by omega, by go_num, unhide HN, by rw [unhide HV], unhide HB2⟩
                case measure => simp [intOf]; omega
              · have hd1 : dgI (cN s k) = -1 := if_neg hd
                have HP := hide (unhide HNO fun h => hd ((h.2 k hk17).2 h3))
                rw [hd1]
                clear hd1
                go_wp2
                go_ret2
                exact ⟨by rw [unhide HP]; rfl, unhide HB2⟩
      · obtain rfl : k = 17 := by omega
        have hb1 := bts_lt s hj
        have hT := fun W => rtext_any (vv s 17) (by rw [vv_17]; omega) W
        rw [show txt (vv s 17) = txtP (vv s 17) 6 from if_pos (by rw [vv_17]; omega)] at hT
        clear hj hb
        by_cases hok : okS s
        · have HP := hide (unhide HOK hok)
          have HV := hide (vv_17 s)
          rw [show str (txtP (vv s 17) 6) = s by rw [vv_17]; exact str_of_ok s hok] at hT
          have HT := hide hT
          clear hT hb1
          generalize vv s 17 = V at *
          go_wp2_with (go_at_call 22; refine (unhide HT _).mono ?_; rintro e w' ⟨rfl, hb2⟩; have HB2 := hide (below_then (unhide HB) hb2); clear hb2)
          go_ret2
          exact ⟨by rw [unhide HP, ← unhide HV]; rfl, unhide HB2⟩
        · have HP := hide (unhide HNO hok)
          have hne : str (txtP (vv s 17) 6) ≠ s := fun h => hok ((txt_ok_iff s).1 (by rw [vv_17] at h; exact h))
          have hbe : ((str (txtP (vv s 17) 6)).toList == s.toList) = false := beq_no hne
          have HT := hide hT
          clear hT hb1 hne
          generalize str (txtP (vv s 17) 6) = t at *
          generalize vv s 17 = V at *
          go_wp2_with (go_at_call 22; refine (unhide HT _).mono ?_; rintro e w' ⟨rfl, hb2⟩; have HB2 := hide (below_then (unhide HB) hb2); clear hb2)
          go_ret2
          exact ⟨by rw [unhide HP]; rfl, unhide HB2⟩
  · have e : prsN s = (0, 11) := prs_no s fun h => h17 h.1
    rw [e]
    clear e
    go_enter Try.func12, Try.ntmps12
    go_wp2
    go_ret2
    exact ⟨rfl, Below.refl _ _⟩
end Go.Proofs.Ytlnffmppkkkhjaa
