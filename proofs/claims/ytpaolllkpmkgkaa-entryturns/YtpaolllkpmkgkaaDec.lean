/- Contracts: how many sectors an entry has, and its bytes out of them. -/
import Derived.Test.YtpaolllkpmkgkaaEnc3
namespace Go.Proofs.Ytpaolllkpmkgkaa
open Go.RowKit
set_option linter.unusedVariables false

def lenS (s : Sct) : Int := s.1.getD 10 0 * 256 + s.1.getD 11 0
theorem lenS_lim (s : Sct) : 0 ≤ lenS s ∧ lenS s ≤ 65535 := by
  have h1 := sct_byte s 10 (by omega)
  have h2 := sct_byte s 11 (by omega)
  unfold lenS; omega
def needN (s : Sct) : Nat := (needI (lenS s)).toNat
theorem needN_is (s : Sct) : (needN s : Int) = needI (lenS s) := by
  unfold needN needI
  have := lenS_lim s
  split <;> omega
theorem needN_le (s : Sct) : needN s ≤ 64 := by
  have := lenS_lim s
  have h := needN_is s
  unfold needI at h
  split at h <;> omega
/-- How many sectors the entry at the first of S would have. -/
def extN : List Sct → Nat
  | [] => 0
  | s :: r => if r.length + 1 < needN s then 0 else needN s

/-- What lies behind the marks. -/
def tail (s : Sct) : List Int := s.1.drop 1
theorem tail_len (s : Sct) : (tail s).length = 63 := by unfold tail; rw [List.length_drop, s.2.1]
theorem tail_getD (s : Sct) (j : Nat) : (tail s).getD j 0 = s.1.getD (j + 1) 0 := by
  unfold tail; rw [List.getD_eq_getElem?_getD, List.getElem?_drop, List.getD_eq_getElem?_getD, Nat.add_comm 1 j]
theorem tail_byt (s : Sct) : Byt (tail s) := by
  unfold tail
  exact byt_drop (byt_of s.2.2) 1
theorem tail_bys {w : World} {b off : Nat} {s : Sct} (h : w.rangeAt b off (bytes s)) : BysA w (some ⟨b, off + 1, none⟩) (tail s) := by
  intro _
  refine ⟨b, off + 1, rfl, fun j hj => ?_⟩
  rw [tail_len] at hj
  rw [tail_getD, show off + 1 + j = off + (j + 1) by omega]
  exact h (j + 1) _ (bytes_get s (j + 1) (by omega))
def joinL (S : List Sct) : List Int := S.flatMap tail
theorem joinL_len (S : List Sct) : (joinL S).length = 63 * S.length := by
  induction S with
  | nil => rfl
  | cons s r ih =>
    show (tail s ++ joinL r).length = _
    rw [List.length_append, tail_len, ih, List.length_cons]; omega
theorem joinL_snoc (S : List Sct) (s : Sct) : joinL (S ++ [s]) = joinL S ++ tail s := by unfold joinL; rw [List.flatMap_append]; simp
theorem joinL_byt (S : List Sct) : Byt (joinL S) := by
  induction S with
  | nil => exact byt_nil
  | cons s r ih => exact byt_app (tail_byt s) ih
/-- Each sector begins with its mark. -/
def Marks (S : List Sct) : Prop := ∀ i s, S[i]? = some s → s.1.getD 0 0 = markI i

theorem secs_cell {w : World} {b off : Nat} {s : Sct} (h : w.rangeAt b off (bytes s)) (j : Nat) (hj : j < 64) : w.cell? ⟨b, off + j, none⟩ = some (.int .u8 (s.1.getD j 0)) := h j _ (bytes_get s j hj)

theorem length_at (b off n cap : Nat) (bs : List Int) (w : World) (hn : n = bs.length) (hb : BysA w (some ⟨b, off, none⟩) bs) (hB : Byt bs) (hl : 11 ≤ n) (hl2 : n ≤ 100000) :
    Calls Try.prog 66 #[.slice (some ⟨b, off, none⟩) n cap] w fun e w' => e = .returned (.int .i64 (bs.getD 9 0 * 256 + bs.getD 10 0)) ∧ ∃ n, w' = w.drewN n := by
  subst hn; exact length_any b off cap bs w hb hB hl hl2
theorem number_at (b off n cap : Nat) (bs : List Int) (w : World) (hn : n = bs.length) (hb : BysA w (some ⟨b, off, none⟩) bs) (hB : Byt bs) (hl : 4 ≤ n) (hl2 : n ≤ 100000) :
    Calls Try.prog 67 #[.slice (some ⟨b, off, none⟩) n cap] w fun e w' => e = .returned (.int .u32 (bs.getD 0 0 * 16777216 + bs.getD 1 0 * 65536 + bs.getD 2 0 * 256 + bs.getD 3 0)) ∧ ∃ n, w' = w.drewN n := by
  subst hn; exact number_any b off cap bs w hb hB hl hl2
theorem blank_at (a : Option Addr) (n cap : Nat) (bs : List Int) (w : World) (hn : n = bs.length) (hb : BysA w a bs) (hB : Byt bs) (hl : n ≤ 100000) :
    Calls Try.prog 68 #[.slice a n cap] w fun e w' => e = .returned (.bool (bs.all (· == 0))) ∧ w' = w := by
  subst hn; exact blank_any a bs cap w hb hB hl

set_option maxHeartbeats 400000 in
theorem extent_any (A : Option Addr) (S : List Sct) (cap : Nat) (w : World) (hA : ScsA w A S) (hl : S.length ≤ 100000) :
    Calls Try.prog 44 #[.slice A S.length cap] w fun x w' => x = .returned (.int .i64 (extN S)) ∧ ∃ n, w' = w.drewN n := by
  cases S with
  | nil =>
    go_enter Try.func44, Try.ntmps44
    go_wp2
    go_ret
    exact ⟨rfl, 0, rfl⟩
  | cons s r =>
    obtain ⟨b, off, rfl, hr⟩ := hA.range (k := 0) (by simp)
    have hr0 := hr 0 s rfl
    rw [Nat.zero_mul, Nat.add_zero] at hr0
    have HT := hide (tail_bys hr0)
    have HLN : Hid ((tail s).getD 9 0 * 256 + (tail s).getD 10 0 = lenS s) := by show _ = _; rw [tail_getD, tail_getD]; rfl
    have HLM := hide (lenS_lim s)
    have HN := hide (needN_is s)
    have hnl := needN_le s
    have HL := hide (tail_len s)
    have HTB := hide (tail_byt s)
    have HEX : Hid (extN (s :: r) = if r.length + 1 < needN s then 0 else needN s) := rfl
    have hlen : (s :: r).length = r.length + 1 := rfl
    rw [hlen] at hl ⊢
    have h0 : (0 : Int) < ((r.length + 1 : Nat) : Int) := by omega
    have hne : ¬ ((r.length + 1 : Nat) : Int) = 0 := by omega
    clear hA hr hr0 hlen
    go_enter Try.func44, Try.ntmps44
    by_cases hc : r.length + 1 < needN s
    · have hc' : ((r.length + 1 : Nat) : Int) < (needN s : Int) := by omega
      go_wp2_with (first
        | (go_at_call 66; refine (length_at b (off + 1) 63 63 (tail s) _ (unhide HL).symm (unhide HT) (unhide HTB) ?_ ?_).mono ?_; (focus omega); (focus omega); rintro x w2 ⟨rfl, n, rfl⟩; rw [unhide HLN])
        | (go_at_call 16; refine (need_any (lenS s) ?_ _).mono ?_; (focus (have := unhide HLM; omega)); rintro x w2 ⟨rfl, rfl⟩; rw [← unhide HN]))
      go_ret
      exact ⟨ret_int (by rw [unhide HEX, if_pos hc]; rfl), n, rfl⟩
    · have hc' : ¬ ((r.length + 1 : Nat) : Int) < (needN s : Int) := by omega
      go_wp2_with (first
        | (go_at_call 66; refine (length_at b (off + 1) 63 63 (tail s) _ (unhide HL).symm (unhide HT) (unhide HTB) ?_ ?_).mono ?_; (focus omega); (focus omega); rintro x w2 ⟨rfl, n, rfl⟩; rw [unhide HLN])
        | (go_at_call 16; refine (need_any (lenS s) ?_ _).mono ?_; (focus (have := unhide HLM; omega)); rintro x w2 ⟨rfl, rfl⟩; rw [← unhide HN]))
      go_ret
      exact ⟨ret_int (by rw [unhide HEX, if_neg hc]), n, rfl⟩
end Go.Proofs.Ytpaolllkpmkgkaa
