/- Decode of an entry's sectors with one byte turned, or with one sector fewer. -/
import Derived.Test.YtpaolllkpmkgkaaNo
import Derived.Test.YtpaolllkpmkgkaaTurnM
import Derived.Test.YtpaolllkpmkgkaaWk
namespace Go.Proofs.Ytpaolllkpmkgkaa
open Go.RowKit
set_option linter.unusedVariables false
set_option maxRecDepth 4000

theorem xor_u8 (a b : Int) (ha : 0 ≤ a ∧ a ≤ 255) (hb : 0 ≤ b ∧ b ≤ 255) (h0 : b ≠ 0) : (0 ≤ bits .xor .u8 a b ∧ bits .xor .u8 a b ≤ 255) ∧ bits .xor .u8 a b ≠ a := by
  obtain ⟨x, rfl⟩ : ∃ x : Nat, a = x := ⟨a.toNat, by omega⟩
  obtain ⟨y, rfl⟩ : ∃ y : Nat, b = y := ⟨b.toNat, by omega⟩
  have hx : x ^^^ y < 2 ^ 8 := Nat.xor_lt_two_pow (by omega) (by omega)
  have h1 : (BitVec.ofInt 8 (x : Int)).toNat = x := by
    rw [BitVec.ofInt_natCast, BitVec.toNat_ofNat]; exact Nat.mod_eq_of_lt (by omega)
  have h2 : (BitVec.ofInt 8 (y : Int)).toNat = y := by
    rw [BitVec.ofInt_natCast, BitVec.toNat_ofNat]; exact Nat.mod_eq_of_lt (by omega)
  have e : bits .xor .u8 (x : Int) (y : Int) = ((x ^^^ y : Nat) : Int) := by
    show IntKind.u8.wrap ((BitVec.ofInt 8 (x : Int) ^^^ BitVec.ofInt 8 (y : Int)).toNat : Int) = _
    rw [BitVec.toNat_xor, h1, h2, IntKind.wrap_u8]
    omega
  rw [e]
  refine ⟨by omega, fun h => ?_⟩
  have h3 : x ^^^ y = x := by omega
  have h4 : x ^^^ (x ^^^ y) = y := by rw [← Nat.xor_assoc, Nat.xor_self, Nat.zero_xor]
  rw [h3, Nat.xor_self] at h4
  omega

theorem extN_head (S : List Sct) (h : 0 < S.length) : extN S = if S.length < needN (S.getD 0 zeroS) then 0 else needN (S.getD 0 zeroS) := by
  cases S with
  | nil => simp at h
  | cons s r => rfl

theorem turn_ext (S : List Sct) (i : Nat) (v : Int) (hv : 0 ≤ v ∧ v ≤ 255) (hi : i / 64 < S.length) (h10 : i ≠ 10) (h11 : i ≠ 11) : extN (turnS S i v hv) = extN S := by
  have hl := turnS_len S i v hv
  rw [extN_head _ (by omega), extN_head S (by omega), hl]
  have : lenS ((turnS S i v hv).getD 0 zeroS) = lenS (S.getD 0 zeroS) := by
    rw [turnS_getD _ _ _ _ _ hi]
    by_cases h : i / 64 = 0
    · rw [if_pos h]
      unfold lenS
      rw [setS_getD _ _ _ _ _ (by omega), setS_getD _ _ _ _ _ (by omega), if_neg (by omega), if_neg (by omega), h]
    · rw [if_neg h]
  unfold needN
  rw [this]

theorem turn_marks (S : List Sct) (i : Nat) (v : Int) (hv : 0 ≤ v ∧ v ≤ 255) (hi : i / 64 < S.length) (h0 : i % 64 ≠ 0) (hM : Marks S) : Marks (turnS S i v hv) := by
  intro j t ht
  have hj : j < S.length := by have := (List.getElem?_eq_some_iff.1 ht).1; rwa [turnS_len] at this
  have e : t = (turnS S i v hv).getD j zeroS := by rw [List.getD_eq_getElem?_getD, ht]; rfl
  have e2 : S[j]? = some (S.getD j zeroS) := by rw [List.getD_eq_getElem?_getD, List.getElem?_eq_getElem hj]; rfl
  have := hM _ _ e2
  rw [e, turnS_getD _ _ _ _ _ hi]
  by_cases h : i / 64 = j
  · rw [if_pos h, setS_getD _ _ _ _ _ (by omega), if_neg h0, h]; exact this
  · rw [if_neg h]; exact this

/-- The byte at place i of a row of sectors. -/
def byteS (S : List Sct) (i : Nat) : Int := (S.getD (i / 64) zeroS).1.getD (i % 64) 0

theorem decode_turn (k e s : Int) (hk : 0 ≤ k ∧ k ≤ 255) (b : List Int) (hl : b.length ≤ 4000) (hB : Byt b) (i : Nat) (hi : i / 64 < (cutS (entL k e s b)).length) (h10 : i ≠ 10) (h11 : i ≠ 11) (v : Int) (hv : 0 ≤ v ∧ v ≤ 255) (hne : v ≠ byteS (cutS (entL k e s b)) i)
    (A : Option Addr) (N cap : Nat) (w : World) (hN : N = (cutS (entL k e s b)).length) (hA : ScsA w A (turnS (cutS (entL k e s b)) i v hv)) (hcap : N ≤ cap) :
    Calls Try.prog 12 #[.slice A N cap] w fun x w' => x = .returned (.tuple #[.agg #[.int .i64 0, .int .u32 0, .int .u32 0, .slice none 0 0], .int .i64 0, .int .i64 11]) ∧ Below w.heap.size w w' := by
  subst hN
  have hE : Byt (entL k e s b) := entL_byt hk hB
  have hp := pieces_ent k e s b
  have hcl := cutS_len (entL k e s b)
  have hel := entL_len k e s b
  have hpl := pad_len (entL k e s b)
  have hex : extN (turnS (cutS (entL k e s b)) i v hv) = (cutS (entL k e s b)).length := by
    have := ext_cut k e s b hk hB hl []
    rw [List.append_nil] at this
    rw [turn_ext _ _ _ _ hi h10 h11, this, hcl]
  have hTl := turnS_len (cutS (entL k e s b)) i v hv
  have htk : (turnS (cutS (entL k e s b)) i v hv).take (cutS (entL k e s b)).length = turnS (cutS (entL k e s b)) i v hv := by rw [← hTl]; exact List.take_length
  have hne' := hne
  unfold byteS at hne'
  rw [← hTl]
  by_cases h0 : i % 64 = 0
  · rw [h0] at hne'
    refine decode_marks A _ cap (cutS (entL k e s b)).length w hA (by omega) (by omega) hex (by omega) (by omega) ?_
    rw [htk]
    exact turn_mark _ _ _ _ hi h0 (marks_cut _) hne'
  · have hj := turn_join (cutS (entL k e s b)) i v hv hi h0
    rw [join_cut _ hE] at hj
    have hold : (padL (entL k e s b)).getD (63 * (i / 64) + (i % 64 - 1)) 0 = byteS (cutS (entL k e s b)) i := by
      rw [← join_cut _ hE, joinL_getD _ _ _ hi (by omega)]
      unfold byteS
      rw [show i % 64 - 1 + 1 = i % 64 by omega]
    have hpi : 63 * (i / 64) + (i % 64 - 1) < (padL (entL k e s b)).length := by rw [hpl]; omega
    have h9 : 63 * (i / 64) + (i % 64 - 1) ≠ 9 := by omega
    have h9' : 63 * (i / 64) + (i % 64 - 1) ≠ 10 := by omega
    generalize 63 * (i / 64) + (i % 64 - 1) = p at *
    refine decode_sum A _ cap (cutS (entL k e s b)).length b.length ((padL (entL k e s b)).set p v) w hA (by omega) (by omega) hex (by omega) (by omega) (by omega) (by rw [htk]; exact turn_marks _ _ _ _ hi h0 (marks_cut _)) (by rw [htk]; exact hj) (by rw [List.length_set, hpl]; omega) ?_ ?_
    · have hset : lenL ((padL (entL k e s b)).set p v) = lenL (padL (entL k e s b)) := by
        unfold lenL
        rw [List.getD_eq_getElem?_getD, List.getD_eq_getElem?_getD, List.getElem?_set, List.getElem?_set, if_neg h9, if_neg h9', ← List.getD_eq_getElem?_getD, ← List.getD_eq_getElem?_getD]
      rw [hset]
      unfold padL
      rw [ent_lenL]; omega
    · rw [hpl] at hpi
      unfold padL at hold ⊢
      refine turn_whole k e s b hk hB _ p (by omega) v hv (by rw [hold]; exact hne)

/-- One sector fewer. -/
theorem decode_fewer (k e s : Int) (hk : 0 ≤ k ∧ k ≤ 255) (b : List Int) (hl : b.length ≤ 4000) (hB : Byt b) (A : Option Addr) (N cap : Nat) (w : World) (hN : N + 1 = (cutS (entL k e s b)).length) (hA : ScsA w A (cutS (entL k e s b))) :
    Calls Try.prog 12 #[.slice A N cap] w fun x w' => x = .returned (.tuple #[.agg #[.int .i64 0, .int .u32 0, .int .u32 0, .slice none 0 0], .int .i64 0, .int .i64 11]) ∧ Below w.heap.size w w' := by
  have hcl := cutS_len (entL k e s b)
  have hp := pieces_ent k e s b
  have htl : ((cutS (entL k e s b)).take N).length = N := by rw [List.length_take]; omega
  have hex := ext_cut k e s b hk hB hl []
  rw [List.append_nil] at hex
  have := decode_ext A ((cutS (entL k e s b)).take N) cap w (scsA_take hA N) (by omega) (by
    by_cases h0 : N = 0
    · subst h0; rfl
    · rw [extN_head _ (by omega)] at hex
      rw [extN_head _ (by omega), htl]
      have eh : ((cutS (entL k e s b)).take N).getD 0 zeroS = (cutS (entL k e s b)).getD 0 zeroS := by
        rw [List.getD_eq_getElem?_getD, List.getElem?_take, if_pos (by omega), ← List.getD_eq_getElem?_getD]
      rw [eh]
      split at hex
      · omega
      · rw [if_pos (by omega)])
  rw [htl] at this
  exact this
end Go.Proofs.Ytpaolllkpmkgkaa
