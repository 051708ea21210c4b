/- Texts and bytes, in order. -/
import Derived.Test.YtlnffmppkkkhjaaBak
namespace Go.Proofs.Ytlnffmppkkkhjaa
open Go.RowKit
set_option linter.unusedVariables false
def sixL (n : Nat) : List Nat := [byN n 0, byN n 1, byN n 2, byN n 3, byN n 4, byN n 5]
def lexN : List Nat → List Nat → Bool
  | [], [] => false
  | [], _ :: _ => true
  | _ :: _, [] => false
  | x :: xs, y :: ys => if x < y then true else if y < x then false else lexN xs ys
theorem lexN_cons (x y : Nat) (xs ys : List Nat) : lexN (x :: xs) (y :: ys) = if x < y then true else if y < x then false else lexN xs ys := rfl
theorem less_lex : ∀ (xs ys : List Nat), (∀ x ∈ xs, x < 256) → (∀ y ∈ ys, y < 256) → Op.bytesLess (xs.map UInt8.ofNat) (ys.map UInt8.ofNat) = lexN xs ys
  | [], [], _, _ => rfl
  | [], _ :: _, _, _ => rfl
  | _ :: _, [], _, _ => rfl
  | x :: xs, y :: ys, hx, hy => by
    have h1 := hx x (by simp)
    have h2 := hy y (by simp)
    have ih := less_lex xs ys (fun z hz => hx z (by simp [hz])) (fun z hz => hy z (by simp [hz]))
    have e1 : (UInt8.ofNat x).toNat = x := by rw [UInt8.toNat_ofNat']; omega
    have e2 : (UInt8.ofNat y).toNat = y := by rw [UInt8.toNat_ofNat']; omega
    simp only [List.map_cons, Op.bytesLess, lexN, ih, UInt8.lt_iff_toNat_lt, e1, e2]
    by_cases h : x < y
    · simp [h]
    · by_cases h' : y < x
      · have : (UInt8.ofNat x == UInt8.ofNat y) = false := by
          rw [Bool.eq_false_iff]; intro e; have := congrArg UInt8.toNat (eq_of_beq e); omega
        simp [h, h', this]
      · obtain rfl : x = y := by omega
        simp
theorem str_toList (xs : List Nat) : (str xs).toList = xs.map UInt8.ofNat := by rw [ByteArray.toList_eq]; rfl
theorem chr_mono (a b : Nat) (ha : a < 16) (hb : b < 16) : chr a < chr b ↔ a < b := by unfold chr; split <;> split <;> omega
theorem lex_two (B C : Nat) (hB : B < 256) (hC : C < 256) (r q : List Nat) : lexN (chr (B / 16) :: chr (B % 16) :: r) (chr (C / 16) :: chr (C % 16) :: q) = if B < C then true else if C < B then false else lexN r q := by
  rw [lexN_cons, lexN_cons]
  simp only [chr_mono (B / 16) (C / 16) (by omega) (by omega), chr_mono (C / 16) (B / 16) (by omega) (by omega), chr_mono (B % 16) (C % 16) (by omega) (by omega), chr_mono (C % 16) (B % 16) (by omega) (by omega)]
  by_cases h1 : B < C
  · rw [if_pos h1]
    by_cases h2 : B / 16 < C / 16
    · rw [if_pos h2]
    · rw [if_neg h2, if_neg (by omega), if_pos (by omega)]
  · rw [if_neg h1]
    by_cases h2 : C < B
    · rw [if_pos h2]
      by_cases h3 : C / 16 < B / 16
      · rw [if_neg (by omega), if_pos h3]
      · rw [if_neg (by omega), if_neg h3, if_neg (by omega), if_pos (by omega)]
    · rw [if_neg h2, if_neg (by omega), if_neg (by omega), if_neg (by omega), if_neg (by omega)]
theorem lex_58 (r q : List Nat) : lexN (58 :: r) (58 :: q) = lexN r q := by rw [lexN_cons]; simp
theorem lex_txt (n m : Nat) : lexN (txtP n 6) (txtP m 6) = lexN (sixL n) (sixL m) := by
  rw [txt_six, txt_six]
  unfold sixL
  simp only [lex_two _ _ (byN_lt n _) (byN_lt m _), lex_58]; simp only [lexN_cons]
theorem lex_six (n m : Nat) (hn : n < 281474976710656) (hm : m < 281474976710656) : lexN (sixL n) (sixL m) = decide (n < m) := by
  have e1 := fo_byN n hn
  have e2 := fo_byN m hm
  rw [fo_six] at e1 e2
  have b0 := byN_lt n 0; have b1 := byN_lt n 1; have b2 := byN_lt n 2; have b3 := byN_lt n 3; have b4 := byN_lt n 4; have b5 := byN_lt n 5
  have c0 := byN_lt m 0; have c1 := byN_lt m 1; have c2 := byN_lt m 2; have c3 := byN_lt m 3; have c4 := byN_lt m 4; have c5 := byN_lt m 5
  unfold sixL
  generalize byN n 0 = x0 at *; generalize byN n 1 = x1 at *; generalize byN n 2 = x2 at *; generalize byN n 3 = x3 at *; generalize byN n 4 = x4 at *; generalize byN n 5 = x5 at *
  generalize byN m 0 = y0 at *; generalize byN m 1 = y1 at *; generalize byN m 2 = y2 at *; generalize byN m 3 = y3 at *; generalize byN m 4 = y4 at *; generalize byN m 5 = y5 at *
  have st : ∀ (x y : Nat) (r q : List Nat) (p : Bool), (x < y → p = true) → (y < x → p = false) → (x = y → lexN r q = p) → lexN (x :: r) (y :: q) = p := by
    intro x y r q p h1 h2 h3
    rw [lexN_cons]
    by_cases h : x < y
    · rw [if_pos h, h1 h]
    · rw [if_neg h]
      by_cases h' : y < x
      · rw [if_pos h', h2 h']
      · rw [if_neg h', h3 (by omega)]
  refine st _ _ _ _ _ (fun h => by simp; omega) (fun h => by simp; omega) fun h0 => ?_
  refine st _ _ _ _ _ (fun h => by simp; omega) (fun h => by simp; omega) fun h1 => ?_
  refine st _ _ _ _ _ (fun h => by simp; omega) (fun h => by simp; omega) fun h2 => ?_
  refine st _ _ _ _ _ (fun h => by simp; omega) (fun h => by simp; omega) fun h3 => ?_
  refine st _ _ _ _ _ (fun h => by simp; omega) (fun h => by simp; omega) fun h4 => ?_
  refine st _ _ _ _ _ (fun h => by simp; omega) (fun h => by simp; omega) fun h5 => ?_
  show false = _
  simp; omega
theorem six_lt (n : Nat) : ∀ x ∈ sixL n, x < 256 := by
  intro x hx; simp only [sixL, List.mem_cons, List.not_mem_nil, or_false] at hx
  rcases hx with rfl | rfl | rfl | rfl | rfl | rfl <;> exact byN_lt _ _
theorem txt_lt (n : Nat) : ∀ x ∈ txtP n 6, x < 256 := by
  have b0 := byN_lt n 0; have b1 := byN_lt n 1; have b2 := byN_lt n 2; have b3 := byN_lt n 3; have b4 := byN_lt n 4; have b5 := byN_lt n 5
  intro x hx; rw [txt_six] at hx
  simp only [List.mem_cons, List.not_mem_nil, or_false] at hx
  rcases hx with rfl | rfl | rfl | rfl | rfl | rfl | rfl | rfl | rfl | rfl | rfl | rfl | rfl | rfl | rfl | rfl | rfl
  all_goals first | decide | exact chr_lt _ (by omega)
theorem less_txt (n m : Nat) (hn : n < 281474976710656) (hm : m < 281474976710656) : Op.bytesLess (str (txt n)).toList (str (txt m)).toList = decide (n < m) := by
  rw [show txt n = txtP n 6 from if_pos hn, show txt m = txtP m 6 from if_pos hm, str_toList, str_toList, less_lex _ _ (txt_lt n) (txt_lt m), lex_txt, lex_six n m hn hm]
theorem less_six (n m : Nat) (hn : n < 281474976710656) (hm : m < 281474976710656) : Op.bytesLess (str (sixL n)).toList (str (sixL m)).toList = decide (n < m) := by
  rw [str_toList, str_toList, less_lex _ _ (six_lt n) (six_lt m), lex_six n m hn hm]
end Go.Proofs.Ytlnffmppkkkhjaa
