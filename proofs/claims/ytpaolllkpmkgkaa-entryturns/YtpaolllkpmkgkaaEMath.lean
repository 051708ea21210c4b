/- Plain mathematics of entries: bytes, pieces, sectors; no program. -/
import Derived.Test.YtpaolllkpmkgkaaEq
namespace Go.Proofs.Ytpaolllkpmkgkaa
open Go.RowKit
set_option linter.unusedVariables false

/-- A sector out of its first bytes. -/
def mkS (l : List Int) : Sct := ⟨(List.range 64).map (fun j => l.getD j 0 % 256), by simp, fun x hx => by
  obtain ⟨j, _, rfl⟩ := List.mem_map.1 hx
  have := Int.emod_nonneg (l.getD j 0) (show (256 : Int) ≠ 0 by omega)
  have := Int.emod_lt_of_pos (l.getD j 0) (show (0 : Int) < 256 by omega)
  omega⟩
theorem mkS_get (l : List Int) (j : Nat) (h : j < 64) : (mkS l).1[j]? = some (l.getD j 0 % 256) := by
  unfold mkS
  rw [List.getElem?_map, List.getElem?_range h]; rfl
theorem mkS_getD (l : List Int) (j : Nat) (h : j < 64) : (mkS l).1.getD j 0 = l.getD j 0 % 256 := by
  rw [List.getD_eq_getElem?_getD, mkS_get l j h]; rfl
theorem byt_mod {l : List Int} (h : Byt l) (j : Nat) : l.getD j 0 % 256 = l.getD j 0 := by
  have := h j
  omega
/-- Two sectors are the same where each byte is. -/
theorem sct_ext {s t : Sct} (h : ∀ j, j < 64 → s.1.getD j 0 = t.1.getD j 0) : s = t := by
  apply Subtype.ext
  have h1 := s.2.1
  have h2 := t.2.1
  apply List.ext_getElem?
  intro j
  by_cases hj : j < 64
  · have := h j hj
    rw [List.getD_eq_getElem?_getD, List.getD_eq_getElem?_getD, List.getElem?_eq_getElem (by omega), List.getElem?_eq_getElem (by omega)] at this
    rw [List.getElem?_eq_getElem (by omega), List.getElem?_eq_getElem (by omega)]
    simpa using this
  · rw [List.getElem?_eq_none (by omega), List.getElem?_eq_none (by omega)]
theorem bytes_mk (l : List Int) (j : Nat) (h : j < 64) : (bytes (mkS l))[j]? = some (.int .u8 (l.getD j 0 % 256)) := by
  rw [bytes_get _ _ h, mkS_getD l j h]

def markI (i : Nat) : Int := if i = 0 then 87 else 119
theorem markI_lim (i : Nat) : 0 ≤ markI i ∧ markI i ≤ 255 := by unfold markI; split <;> omega
def chunk (bs : List Int) (k : Nat) : List Int := (bs.drop (63 * k)).take 63
theorem chunk_len (bs : List Int) (k : Nat) : (chunk bs k).length = min 63 (bs.length - 63 * k) := by unfold chunk; simp
theorem chunk_byt {bs : List Int} (h : Byt bs) (k : Nat) : Byt (chunk bs k) := byt_take (byt_drop h _) _
theorem chunk_getD (bs : List Int) (k j : Nat) : (chunk bs k).getD j 0 = if j < 63 then bs.getD (63 * k + j) 0 else 0 := by
  unfold chunk
  rw [List.getD_eq_getElem?_getD, List.getElem?_take]
  by_cases h : j < 63
  · rw [if_pos h, if_pos h, List.getElem?_drop, List.getD_eq_getElem?_getD]
  · rw [if_neg h, if_neg h]; rfl
def secOf (i : Nat) (c : List Int) : Sct := mkS (markI i :: c)
def pieces (n : Nat) : Nat := (n + 62) / 63
/-- The sectors of bytes. -/
def cutS (bs : List Int) : List Sct := (List.range (pieces bs.length)).map (fun k => secOf k (chunk bs k))
theorem cutS_len (bs : List Int) : (cutS bs).length = pieces bs.length := by unfold cutS; simp
theorem cutS_get (bs : List Int) (k : Nat) (h : k < pieces bs.length) : (cutS bs)[k]? = some (secOf k (chunk bs k)) := by
  unfold cutS; rw [List.getElem?_map, List.getElem?_range h]; rfl
/-- What the loop has made of the pieces that came. -/
def cutF (bs : List Int) (pre : List Nat) : List Sct := pre.mapIdx (fun i k => secOf i (chunk bs k))
theorem cutF_snoc (bs : List Int) (pre : List Nat) (k : Nat) : cutF bs (pre ++ [k]) = cutF bs pre ++ [secOf pre.length (chunk bs k)] := by
  unfold cutF; rw [List.mapIdx_concat]
theorem cutF_len (bs : List Int) (pre : List Nat) : (cutF bs pre).length = pre.length := by unfold cutF; simp
theorem cutF_all (bs : List Int) : cutF bs (List.range (pieces bs.length)) = cutS bs := by
  unfold cutF cutS
  apply List.ext_getElem?
  intro j
  rw [List.getElem?_mapIdx, List.getElem?_map]
  by_cases h : j < pieces bs.length
  · rw [List.getElem?_range h]; rfl
  · rw [List.getElem?_eq_none (by simpa using h)]; rfl

def flatS (S : List Sct) : List Value := S.flatMap bytes
theorem flatS_len (S : List Sct) : (flatS S).length = S.length * 64 := by
  induction S with
  | nil => rfl
  | cons p r ih =>
    show (bytes p ++ flatS r).length = _
    rw [List.length_append, bytes_len, ih, List.length_cons]; omega
theorem flatS_app (S T : List Sct) : flatS (S ++ T) = flatS S ++ flatS T := by unfold flatS; rw [List.flatMap_append]
theorem flatS_one (s : Sct) : flatS [s] = bytes s := by unfold flatS; simp
theorem flatS_snoc (S : List Sct) (s : Sct) : flatS (S ++ [s]) = flatS S ++ bytes s := by rw [flatS_app, flatS_one]
theorem flatS_get (S : List Sct) : ∀ (k : Nat) (s : Sct) (j : Nat), S[k]? = some s → j < 64 → (flatS S)[k * 64 + j]? = (bytes s)[j]? := by
  induction S with
  | nil => intro k p j h; simp at h
  | cons q r ih =>
    intro k p j h hj
    show (bytes q ++ flatS r)[k * 64 + j]? = _
    cases k with
    | zero =>
      simp only [List.getElem?_cons_zero, Option.some.injEq] at h
      subst h
      rw [Nat.zero_mul, Nat.zero_add, List.getElem?_append_left (by rw [bytes_len]; exact hj)]
    | succ k =>
      rw [List.getElem?_cons_succ] at h
      rw [List.getElem?_append_right (by rw [bytes_len]; omega), bytes_len, show (k + 1) * 64 + j - 64 = k * 64 + j by omega]
      exact ih k p j h hj
theorem flatS_oneCell (S : List Sct) : ∀ u ∈ flatS S, u.oneCell' = true := by
  intro u hu
  obtain ⟨s, _, h⟩ := List.mem_flatMap.1 hu
  exact bytes_one s u h

/-- The sectors S lie one behind the other from A on. -/
def ScsA (w : World) (A : Option Addr) (S : List Sct) : Prop := RowA w A (flatS S)
theorem ScsA.range {w : World} {A : Option Addr} {S : List Sct} (h : ScsA w A S) {k : Nat} (hk : k < S.length) : ∃ b off, A = some ⟨b, off, none⟩ ∧ ∀ k s, S[k]? = some s → w.rangeAt b (off + k * 64) (bytes s) := by
  have hl := flatS_len S
  obtain ⟨b, off, ha, hc⟩ := h (by intro e; rw [e] at hl; simp at hl; omega)
  refine ⟨b, off, ha, fun k s hs j v hv => ?_⟩
  have hj : j < 64 := by have := (List.getElem?_eq_some_iff.1 hv).1; rwa [bytes_len] at this
  rw [Nat.add_assoc]
  exact hc _ _ (by rw [flatS_get S k s j hs hj]; exact hv)
theorem ScsA.below {w0 W : World} {A : Option Addr} {S : List Sct} (h : ScsA w0 A S) (hb : Below w0.heap.size w0 W) : ScsA W A S := rowA_below h hb
end Go.Proofs.Ytpaolllkpmkgkaa
