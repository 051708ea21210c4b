/- Parse: mathematics. -/
import Derived.Test.YtlnffmppkkkhjaaRtx
namespace Go.Proofs.Ytlnffmppkkkhjaa
open Go.RowKit
set_option linter.unusedVariables false
def dg (c : Nat) : Nat := if 48 ≤ c ∧ c ≤ 57 then c - 48 else if 97 ≤ c ∧ c ≤ 102 then c - 87 else 16
def dgI (c : Nat) : Int := if dg c < 16 then (dg c : Int) else -1
theorem dg_chr (d : Nat) (h : d < 16) : dg (chr d) = d := by unfold dg chr; split <;> split <;> (try split) <;> omega
theorem chr_dg (c : Nat) (h : dg c < 16) : chr (dg c) = c := by
  unfold dg at h ⊢
  unfold chr
  split at h
  · rename_i h1; rw [if_pos h1]; rw [if_pos (by omega)]; omega
  · split at h
    · rename_i h1 h2; rw [if_neg h1, if_pos h2]; rw [if_neg (by omega)]; omega
    · omega
theorem chr_58 (d : Nat) (h : d < 16) : chr d ≠ 58 := by unfold chr; split <;> omega
theorem first_dg (c : Nat) (h : c < 256) : firstIdx hexS (c : Int).toNat.toUInt8 = dgI c := by
  have : ∀ c : Fin 256, firstIdx hexS (c.val : Int).toNat.toUInt8 = dgI c.val := by decide +kernel
  exact this ⟨c, h⟩
def cN (s : ByteArray) (j : Nat) : Nat := (s.data.toList.getD j 0).toNat
theorem cN_lt (s : ByteArray) (j : Nat) : cN s j < 256 := by unfold cN; exact UInt8.toNat_lt _
theorem sidx (s : ByteArray) (j : Nat) (h : j < s.size) (i : Int) (hi : i = j) (hj : j < 1000) (W : World) : (Instr.index 9 (.string s) (.int .i64 i)).run Try.prog W = .ok (.int .u8 (cN s j : Nat)) W := by
  subst hi
  have hw : IntKind.i64.wrap (j : Int) = j := by rw [IntKind.wrap_i64]; omega
  unfold cN
  have hg : s[j]? = some s[j] := getElem?_pos s j h
  have h0 : (0 : Int) ≤ j := by omega
  have hd : s.data.toList.getD j 0 = s[j] := by
    have hs : j < s.data.toList.length := by simpa using h
    rw [List.getD_eq_getElem?_getD, List.getElem?_eq_getElem hs]; rfl
  rw [hd]
  simp [Instr.index, run_underlying Try.underlying9, asIntOf, Sem.run_pure, Result.andThen, hg, h0]

def okS (s : ByteArray) : Prop := s.size = 17 ∧ ∀ j, j < 17 → (j % 3 = 2 → cN s j = 58) ∧ (j % 3 ≠ 2 → dg (cN s j) < 16)
def bt (s : ByteArray) (i : Nat) : Nat := dg (cN s (3 * i)) * 16 + dg (cN s (3 * i + 1))
def bts (s : ByteArray) : List Nat := [bt s 0, bt s 1, bt s 2, bt s 3, bt s 4, bt s 5]
open Classical in
noncomputable def prsN (s : ByteArray) : Nat × Nat := if okS s then (fo (bts s), 0) else (0, 11)

theorem fo_six (a b c d e f : Nat) : fo [a, b, c, d, e, f] = ((((a * 256 + b) * 256 + c) * 256 + d) * 256 + e) * 256 + f := by simp [fo]
theorem byN_fo (a b c d e f : Nat) (ha : a < 256) (hb : b < 256) (hc : c < 256) (hd : d < 256) (he : e < 256) (hf : f < 256) :
    byN (fo [a, b, c, d, e, f]) 0 = a ∧ byN (fo [a, b, c, d, e, f]) 1 = b ∧ byN (fo [a, b, c, d, e, f]) 2 = c ∧ byN (fo [a, b, c, d, e, f]) 3 = d ∧ byN (fo [a, b, c, d, e, f]) 4 = e ∧ byN (fo [a, b, c, d, e, f]) 5 = f ∧
      fo [a, b, c, d, e, f] < 281474976710656 := by
  rw [fo_six]; simp only [byN]; simp; omega
theorem fo_byN (n : Nat) (h : n < 281474976710656) : fo [byN n 0, byN n 1, byN n 2, byN n 3, byN n 4, byN n 5] = n := by
  rw [fo_six]; simp only [byN]; simp; omega
theorem len_data (s : ByteArray) : s.data.toList.length = s.size := by rw [Array.length_toList]; rfl
theorem str_eq (s : ByteArray) (l : List Nat) (hl : s.size = l.length) (h : ∀ j, j < l.length → l.getD j 0 = cN s j) : str l = s := by
  have hd := len_data s
  apply ByteArray.ext
  apply Array.ext'
  show l.map UInt8.ofNat = s.data.toList
  refine List.ext_getElem? fun j => ?_
  by_cases hj : j < l.length
  · have h1 := h j hj
    have hj2 : j < s.data.toList.length := by omega
    rw [List.getElem?_map, List.getElem?_eq_getElem hj, List.getElem?_eq_getElem hj2]
    rw [List.getD_eq_getElem?_getD, List.getElem?_eq_getElem hj] at h1
    unfold cN at h1
    rw [List.getD_eq_getElem?_getD, List.getElem?_eq_getElem hj2] at h1
    simp only [Option.getD_some] at h1
    simp only [Option.map_some]
    rw [h1, UInt8.ofNat_toNat]
  · rw [List.getElem?_eq_none (by rw [List.length_map]; omega), List.getElem?_eq_none (by omega)]
theorem cN_str (l : List Nat) (j : Nat) (h : j < l.length) (hb : l.getD j 0 < 256) : cN (str l) j = l.getD j 0 := by
  rw [List.getD_eq_getElem?_getD, List.getElem?_eq_getElem h] at hb ⊢
  unfold cN
  show ((l.map UInt8.ofNat).getD j 0).toNat = _
  rw [List.getD_eq_getElem?_getD, List.getElem?_map, List.getElem?_eq_getElem h]
  simp only [Option.map_some, Option.getD_some] at *
  rw [UInt8.toNat_ofNat']; omega
theorem txt_six (n : Nat) : txtP n 6 = [chr (byN n 0 / 16), chr (byN n 0 % 16), 58, chr (byN n 1 / 16), chr (byN n 1 % 16), 58, chr (byN n 2 / 16), chr (byN n 2 % 16), 58, chr (byN n 3 / 16), chr (byN n 3 % 16), 58,
    chr (byN n 4 / 16), chr (byN n 4 % 16), 58, chr (byN n 5 / 16), chr (byN n 5 % 16)] := rfl
theorem j17 (j : Nat) (h : j < 17) : j = 0 ∨ j = 1 ∨ j = 2 ∨ j = 3 ∨ j = 4 ∨ j = 5 ∨ j = 6 ∨ j = 7 ∨ j = 8 ∨ j = 9 ∨ j = 10 ∨ j = 11 ∨ j = 12 ∨ j = 13 ∨ j = 14 ∨ j = 15 ∨ j = 16 := by omega
/-- All signs but the colons are digits. -/
def hexS17 (s : ByteArray) : Prop := ∀ j, j < 17 → j % 3 ≠ 2 → dg (cN s j) < 16
theorem bts_lt (s : ByteArray) (h : hexS17 s) : (∀ x ∈ bts s, x < 256) ∧ fo (bts s) < 281474976710656 := by
  have h0 := h 0 (by decide) (by decide); have h1 := h 1 (by decide) (by decide); have h3 := h 3 (by decide) (by decide); have h4 := h 4 (by decide) (by decide)
  have h6 := h 6 (by decide) (by decide); have h7 := h 7 (by decide) (by decide); have h9 := h 9 (by decide) (by decide); have h10 := h 10 (by decide) (by decide)
  have h12 := h 12 (by decide) (by decide); have h13 := h 13 (by decide) (by decide); have h15 := h 15 (by decide) (by decide); have h16 := h 16 (by decide) (by decide)
  refine ⟨?_, ?_⟩
  · intro x hx
    simp only [bts, bt, List.mem_cons, List.not_mem_nil, or_false] at hx
    rcases hx with rfl | rfl | rfl | rfl | rfl | rfl <;> simp <;> omega
  · exact (byN_fo (bt s 0) (bt s 1) (bt s 2) (bt s 3) (bt s 4) (bt s 5) (by simp [bt]; omega) (by simp [bt]; omega) (by simp [bt]; omega) (by simp [bt]; omega) (by simp [bt]; omega) (by simp [bt]; omega)).2.2.2.2.2.2
theorem str_of_ok (s : ByteArray) (h : okS s) : str (txtP (fo (bts s)) 6) = s := by
  obtain ⟨hs, hj⟩ := h
  have h0 := (hj 0 (by decide)).2 (by decide); have h1 := (hj 1 (by decide)).2 (by decide); have h3 := (hj 3 (by decide)).2 (by decide); have h4 := (hj 4 (by decide)).2 (by decide)
  have h6 := (hj 6 (by decide)).2 (by decide); have h7 := (hj 7 (by decide)).2 (by decide); have h9 := (hj 9 (by decide)).2 (by decide); have h10 := (hj 10 (by decide)).2 (by decide)
  have h12 := (hj 12 (by decide)).2 (by decide); have h13 := (hj 13 (by decide)).2 (by decide); have h15 := (hj 15 (by decide)).2 (by decide); have h16 := (hj 16 (by decide)).2 (by decide)
  have h2 := (hj 2 (by decide)).1 (by decide); have h5 := (hj 5 (by decide)).1 (by decide); have h8 := (hj 8 (by decide)).1 (by decide); have h11 := (hj 11 (by decide)).1 (by decide); have h14 := (hj 14 (by decide)).1 (by decide)
  obtain ⟨e0, e1, e2, e3, e4, e5, -⟩ := byN_fo (bt s 0) (bt s 1) (bt s 2) (bt s 3) (bt s 4) (bt s 5) (by simp [bt]; omega) (by simp [bt]; omega) (by simp [bt]; omega) (by simp [bt]; omega) (by simp [bt]; omega) (by simp [bt]; omega)
  rw [txt_six, bts, e0, e1, e2, e3, e4, e5]
  have q : ∀ a b : Nat, b < 16 → (a * 16 + b) / 16 = a ∧ (a * 16 + b) % 16 = b := fun a b h => by omega
  refine str_eq s _ (by simpa using hs) fun j hjl => ?_
  rcases j17 j (by simpa using hjl) with rfl | rfl | rfl | rfl | rfl | rfl | rfl | rfl | rfl | rfl | rfl | rfl | rfl | rfl | rfl | rfl | rfl
  · exact (congrArg chr (q _ _ h1).1).trans (chr_dg _ h0)
  · exact (congrArg chr (q _ _ h1).2).trans (chr_dg _ h1)
  · exact h2.symm
  · exact (congrArg chr (q _ _ h4).1).trans (chr_dg _ h3)
  · exact (congrArg chr (q _ _ h4).2).trans (chr_dg _ h4)
  · exact h5.symm
  · exact (congrArg chr (q _ _ h7).1).trans (chr_dg _ h6)
  · exact (congrArg chr (q _ _ h7).2).trans (chr_dg _ h7)
  · exact h8.symm
  · exact (congrArg chr (q _ _ h10).1).trans (chr_dg _ h9)
  · exact (congrArg chr (q _ _ h10).2).trans (chr_dg _ h10)
  · exact h11.symm
  · exact (congrArg chr (q _ _ h13).1).trans (chr_dg _ h12)
  · exact (congrArg chr (q _ _ h13).2).trans (chr_dg _ h13)
  · exact h14.symm
  · exact (congrArg chr (q _ _ h16).1).trans (chr_dg _ h15)
  · exact (congrArg chr (q _ _ h16).2).trans (chr_dg _ h16)
theorem cN_txt (n j : Nat) (h : j < 17) : cN (str (txtP n 6)) j = (txtP n 6).getD j 0 := by
  have hl : (txtP n 6).length = 17 := by rw [txtP_len]
  refine cN_str _ j (by omega) ?_
  rw [txt_six]
  have b0 := byN_lt n 0; have b1 := byN_lt n 1; have b2 := byN_lt n 2; have b3 := byN_lt n 3; have b4 := byN_lt n 4; have b5 := byN_lt n 5
  rcases j17 j h with rfl | rfl | rfl | rfl | rfl | rfl | rfl | rfl | rfl | rfl | rfl | rfl | rfl | rfl | rfl | rfl | rfl
  all_goals first | exact (by decide : (58 : Nat) < 256) | exact chr_lt _ (by omega)
theorem ok_txt (n : Nat) : okS (str (txtP n 6)) := by
  have b0 := byN_lt n 0; have b1 := byN_lt n 1; have b2 := byN_lt n 2; have b3 := byN_lt n 3; have b4 := byN_lt n 4; have b5 := byN_lt n 5
  refine ⟨by rw [str_size, txtP_len], fun j h => ?_⟩
  rw [cN_txt n j h, txt_six]
  have d : ∀ x, x < 16 → dg (chr x) < 16 := fun x hx => by rw [dg_chr x hx]; exact hx
  rcases j17 j h with rfl | rfl | rfl | rfl | rfl | rfl | rfl | rfl | rfl | rfl | rfl | rfl | rfl | rfl | rfl | rfl | rfl
  all_goals first
    | exact ⟨fun _ => rfl, fun h => absurd rfl h⟩
    | exact ⟨fun h => absurd h (by decide), fun _ => d _ (by omega)⟩
theorem fo_txt (n : Nat) (h : n < 281474976710656) : fo (bts (str (txtP n 6))) = n := by
  have e : ∀ i, i < 6 → bt (str (txtP n 6)) i = byN n i := by
    intro i hi
    have b := byN_lt n i
    unfold bt
    rw [cN_txt n _ (by omega), cN_txt n _ (by omega), txt_six]
    have : i = 0 ∨ i = 1 ∨ i = 2 ∨ i = 3 ∨ i = 4 ∨ i = 5 := by omega
    rcases this with rfl | rfl | rfl | rfl | rfl | rfl
    all_goals
      show dg (chr _) * 16 + dg (chr _) = _
      rw [dg_chr _ (by omega), dg_chr _ (by omega)]; omega
  unfold bts
  rw [e 0 (by decide), e 1 (by decide), e 2 (by decide), e 3 (by decide), e 4 (by decide), e 5 (by decide), fo_byN n h]
theorem prs_ok (s : ByteArray) (h : okS s) : prsN s = (fo (bts s), 0) := if_pos h
theorem prs_no (s : ByteArray) (h : ¬ okS s) : prsN s = (0, 11) := if_neg h
theorem prs_txt (n : Nat) (h : n < 281474976710656) : prsN (str (txtP n 6)) = (n, 0) := by rw [prs_ok _ (ok_txt n), fo_txt n h]
theorem txt_inj (m n : Nat) (hm : m < 281474976710656) (hn : n < 281474976710656) : str (txtP m 6) = str (txtP n 6) → m = n := fun h => by
  have := prs_txt m hm; rw [h, prs_txt n hn] at this; cases this; rfl
theorem ok_hex (s : ByteArray) (h : okS s) : hexS17 s := fun j hj h2 => (h.2 j hj).2 h2
theorem txt_ok_iff (s : ByteArray) : str (txtP (fo (bts s)) 6) = s ↔ okS s :=
  ⟨fun h => by rw [← h]; exact ok_txt _, str_of_ok s⟩
end Go.Proofs.Ytlnffmppkkkhjaa
