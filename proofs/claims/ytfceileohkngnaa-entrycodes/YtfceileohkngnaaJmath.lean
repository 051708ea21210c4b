/- Plain mathematics: entries one behind the other. -/
import Derived.Test.YtfceileohkngnaaJapp
namespace Go.Proofs.Ytfceileohkngnaa
open Go.RowKit
set_option linter.unusedVariables false
set_option maxRecDepth 4000

theorem scan_fuel (ep : Int) : ∀ (f : Nat) (S : List Sct) (c : Nat), S.length < f → ∀ f', S.length < f' → scanS ep f S c = scanS ep f' S c
  | 0, S, c, h, _, _ => by omega
  | f + 1, S, c, h, 0, h' => by omega
  | f + 1, S, c, h, f' + 1, h' => by
    cases hd : decS S with
    | none => rw [scan_none hd, scan_none hd]
    | some x =>
      cases hn : isN ep c x.k x.e x.s with
      | false => rw [scan_no hd hn, scan_no hd hn]
      | true =>
        obtain ⟨d1, d2, _⟩ := decS_some hd
        rw [scan_yes hd hn, scan_yes hd hn, scan_fuel ep f (S.drop x.n) (c + 1) (by rw [List.length_drop]; omega) f' (by rw [List.length_drop]; omega)]
/-- All entries of an epoch that sectors begin with, from a sequence on. -/
def scan (ep : Int) (S : List Sct) (c : Nat) : List (List Int) × Nat := scanS ep (S.length + 1) S c
theorem scan_is (ep : Int) (f : Nat) (S : List Sct) (c : Nat) (h : S.length < f) : scanS ep f S c = scan ep S c := scan_fuel ep f S c h _ (Nat.lt_succ_self _)
theorem jrn_scan (ep : Int) (S : List Sct) (fr n : Nat) : jrnL ep S fr n = (scan ep ((S.drop fr).take n) 0).1 ∧ jrnN ep S fr n = (scan ep ((S.drop fr).take n) 0).2 := by
  unfold jrnL jrnN
  rw [scan_is ep (n + 1) _ 0 (by rw [List.length_take]; omega)]
  exact ⟨rfl, rfl⟩

/-- Entries' sectors one behind the other, from a sequence on. -/
def entsS (ep : Int) : Nat → List (List Int) → List Sct
  | _, [] => []
  | c, b :: L => entS ep c b ++ entsS ep (c + 1) L
theorem entsS_snoc (ep : Int) : ∀ (L : List (List Int)) (c : Nat) (b : List Int), entsS ep c (L ++ [b]) = entsS ep c L ++ entS ep (c + L.length) b
  | [], c, b => by simp [entsS]
  | a :: L, c, b => by
    show entS ep c a ++ entsS ep (c + 1) (L ++ [b]) = (entS ep c a ++ entsS ep (c + 1) L) ++ _
    rw [entsS_snoc ep L (c + 1) b, List.append_assoc, List.length_cons, show c + 1 + L.length = c + (L.length + 1) by omega]
def Fits (L : List (List Int)) : Prop := ∀ b ∈ L, Byt b ∧ b.length ≤ 4000
theorem isN_self (ep : Int) (c : Nat) (hc : c ≤ 100000) : isN ep c 1 ep (c : Int) = true := by
  unfold isN
  rw [show (c : Int) % 4294967296 = (c : Int) by omega]
  simp
theorem scan_ents (ep : Int) (hep : 0 ≤ ep ∧ ep ≤ 4294967295) : ∀ (L : List (List Int)) (c : Nat) (R : List Sct), Fits L → c + L.length ≤ 100000 →
    scan ep (entsS ep c L ++ R) c = (L ++ (scan ep R (c + L.length)).1, (entsS ep c L).length + (scan ep R (c + L.length)).2)
  | [], c, R, _, _ => by simp [entsS]
  | b :: L, c, R, hF, hc => by
    rw [List.length_cons] at hc
    obtain ⟨hB, hl⟩ := hF b (List.mem_cons_self)
    have hd := decS_ent 1 ep c (by omega) hep (by omega) b hl hB (entsS ep (c + 1) L ++ R)
    have e : entsS ep c (b :: L) ++ R = cutS (entL 1 ep c b) ++ (entsS ep (c + 1) L ++ R) := by
      show (entS ep c b ++ entsS ep (c + 1) L) ++ R = _
      rw [List.append_assoc]; rfl
    have ih := scan_ents ep hep L (c + 1) R (fun x hx => hF x (List.mem_cons_of_mem _ hx)) (by omega)
    have hdr : (cutS (entL 1 ep c b) ++ (entsS ep (c + 1) L ++ R)).drop (cutS (entL 1 ep c b)).length = entsS ep (c + 1) L ++ R := List.drop_left' rfl
    have hpos : 0 < (cutS (entL 1 ep c b)).length := by rw [cutS_len, pieces_ent]; omega
    rw [e]
    show scanS ep ((cutS (entL 1 ep c b) ++ (entsS ep (c + 1) L ++ R)).length + 1) _ c = _
    rw [scan_yes hd (isN_self ep c (by omega))]
    simp only [hdr]
    have hla := @List.length_append _ (cutS (entL 1 ep c b)) (entsS ep (c + 1) L ++ R)
    rw [scan_is ep _ _ _ (by omega), ih]
    rw [List.length_cons, show c + (L.length + 1) = c + 1 + L.length by omega]
    show _ = (b :: (L ++ _), (entS ep c b ++ entsS ep (c + 1) L).length + _)
    rw [List.length_append]
    refine Prod.ext rfl ?_
    show (cutS (entL 1 ep c b)).length + _ = _
    unfold entS
    omega

/-- No sector claims to be the first one of an entry of that epoch. -/
def Old (ep : Int) (S : List Sct) : Prop := ∀ s ∈ S, s.1.getD 0 0 = 87 → num4 ((tail s).drop 1) ≠ ep
theorem Old.app {ep : Int} {S T : List Sct} (h : Old ep S) (k : Old ep T) : Old ep (S ++ T) := fun s hs => by
  rcases List.mem_append.1 hs with hs | hs
  · exact h s hs
  · exact k s hs
theorem Old.sub {ep : Int} {S T : List Sct} (h : Old ep S) (k : ∀ s ∈ T, s ∈ S) : Old ep T := fun s hs => h s (k s hs)
theorem Old.drop {ep : Int} {S : List Sct} (h : Old ep S) (n : Nat) : Old ep (S.drop n) := h.sub fun s hs => List.mem_of_mem_drop hs
theorem Old.take {ep : Int} {S : List Sct} (h : Old ep S) (n : Nat) : Old ep (S.take n) := h.sub fun s hs => List.mem_of_mem_take hs
theorem old_zero (ep : Int) (n : Nat) : Old ep (List.replicate n zeroS) := fun s hs h => by
  rw [List.eq_of_mem_replicate hs] at h
  exact absurd h (by decide)
theorem num4_app {l r : List Int} (h : 4 ≤ l.length) : num4 (l ++ r) = num4 l := by
  match l, h with
  | a :: b :: c :: d :: l, _ => rfl
theorem old_none {ep : Int} {S : List Sct} (h : Old ep S) (c : Nat) : scan ep S c = ([], 0) := by
  unfold scan
  cases hd : decS S with
  | none => exact scan_none hd
  | some x =>
    refine scan_no hd ?_
    cases S with
    | nil => cases hd
    | cons s r =>
      unfold decS at hd
      split at hd
      · cases hd
      · rename_i h0
        split at hd
        · rename_i hy
          cases hd
          obtain ⟨m, hm⟩ : ∃ m, extN (s :: r) = m + 1 := ⟨extN (s :: r) - 1, by omega⟩
          have hM := (marksB_iff _).1 hy.1
          rw [hm, List.take_succ_cons] at hM ⊢
          have h87 : s.1.getD 0 0 = 87 := hM 0 s rfl
          have hj : joinL (s :: r.take m) = tail s ++ joinL (r.take m) := rfl
          have hne := h s (List.mem_cons_self) h87
          rw [hj, List.drop_append_of_le_length (by rw [tail_len]; omega), num4_app (by rw [List.length_drop, tail_len]; omega)]
          unfold isN
          rw [beq_eq_false_iff_ne.2 hne]
          simp
        · cases hd
theorem old_ent {ep ep' : Int} (hep : 0 ≤ ep' ∧ ep' ≤ 4294967295) (hne : ep' ≠ ep) (c : Nat) (b : List Int) (hB : Byt b) : Old ep (entS ep' c b) := by
  intro s hs h87
  obtain ⟨i, hi⟩ := List.getElem?_of_mem hs
  have hM := marks_cut (entL 1 ep' c b) i s hi
  rw [h87] at hM
  have hi0 : i = 0 := by
    unfold markI at hM
    split at hM
    · assumption
    · omega
  subst hi0
  have hg := cutS_get (entL 1 ep' c b) 0 (by rw [pieces_ent]; omega)
  have e : s = secOf 0 (chunk (entL 1 ep' c b) 0) := by
    unfold entS at hi
    rw [hg] at hi
    exact (Option.some.inj hi).symm
  have hE : Byt (entL 1 ep' c b) := entL_byt (by omega) hB
  have hj := join_cut (entL 1 ep' c b) hE
  have h1 := ent_1 (k := 1) (s := (c : Int)) (b := b) hep (List.replicate (63 * pieces (entL 1 ep' c b).length - (entL 1 ep' c b).length) 0)
  have hcons : ∃ r, cutS (entL 1 ep' c b) = s :: r := by
    unfold entS at hi
    cases hc : cutS (entL 1 ep' c b) with
    | nil => rw [hc] at hi; cases hi
    | cons x r => rw [hc] at hi; cases hi; exact ⟨r, rfl⟩
  obtain ⟨r, hr⟩ := hcons
  rw [hr] at hj
  have hj2 : joinL (s :: r) = tail s ++ joinL r := rfl
  rw [hj2] at hj
  unfold padL at hj
  rw [← hj, List.drop_append_of_le_length (by rw [tail_len]; omega), num4_app (by rw [List.length_drop, tail_len]; omega)] at h1
  rw [h1]
  exact hne
theorem old_ents {ep ep' : Int} (hep : 0 ≤ ep' ∧ ep' ≤ 4294967295) (hne : ep' ≠ ep) : ∀ (L : List (List Int)) (c : Nat), Fits L → Old ep (entsS ep' c L)
  | [], c, _ => fun s hs => by cases hs
  | b :: L, c, hF => (old_ent hep hne c b (hF b (List.mem_cons_self)).1).app (old_ents hep hne L (c + 1) (fun x hx => hF x (List.mem_cons_of_mem _ hx)))

theorem flush_get (P : List (Nat × Sct)) : ∀ (S : List Sct) (i : Nat), i < S.length → (flushS S P)[i]? = some (readS S P i) := fun S i hi => by
  have := flush_read i P S hi
  rw [List.getD_eq_getElem?_getD, List.getElem?_eq_getElem (by rw [flushS_len]; exact hi)] at this
  rw [List.getElem?_eq_getElem (by rw [flushS_len]; exact hi)]
  exact congrArg some this
theorem wr_read (at_ : Nat) (T S : List Sct) (i : Nat) : ∀ k, readS S (wrP at_ T k) i = if at_ ≤ i ∧ i < at_ + k then T.getD (i - at_) zeroS else S.getD i zeroS
  | 0 => by rw [if_neg (by omega)]; rfl
  | k + 1 => by
    rw [wrP_succ, readS_snoc, wr_read at_ T S i k]
    by_cases h : at_ + k = i
    · rw [if_pos h, if_pos (by omega), show i - at_ = k by omega]
    · rw [if_neg h]
      by_cases h2 : at_ ≤ i ∧ i < at_ + k
      · rw [if_pos h2, if_pos (by omega)]
      · rw [if_neg h2, if_neg (by omega)]
/-- What was written over. -/
def overS (S : List Sct) (at_ : Nat) (T : List Sct) : List Sct := S.take at_ ++ T ++ S.drop (at_ + T.length)
theorem getD_some (S : List Sct) (i : Nat) (h : i < S.length) : S[i]? = some (S.getD i zeroS) := by rw [List.getD_eq_getElem?_getD, List.getElem?_eq_getElem h]; rfl
theorem over_get (S : List Sct) (at_ : Nat) (T : List Sct) (hl : at_ + T.length ≤ S.length) (i : Nat) (hi : i < S.length) : (overS S at_ T)[i]? = some (if at_ ≤ i ∧ i < at_ + T.length then T.getD (i - at_) zeroS else S.getD i zeroS) := by
  unfold overS
  by_cases h1 : i < at_
  · rw [if_neg (by omega), List.append_assoc, List.getElem?_append_left (by rw [List.length_take]; omega), List.getElem?_take, if_pos h1, getD_some S i hi]
  · rw [List.append_assoc, List.getElem?_append_right (by rw [List.length_take]; omega), List.length_take, Nat.min_eq_left (by omega)]
    by_cases h2 : i < at_ + T.length
    · rw [if_pos (by omega), List.getElem?_append_left (by omega), getD_some T _ (by omega)]
    · rw [if_neg (by omega), List.getElem?_append_right (by omega), List.getElem?_drop, show at_ + T.length + (i - at_ - T.length) = i by omega, getD_some S i hi]
theorem over_len (S : List Sct) (at_ : Nat) (T : List Sct) (hl : at_ + T.length ≤ S.length) : (overS S at_ T).length = S.length := by
  unfold overS; simp only [List.length_append, List.length_take, List.length_drop]; omega
theorem lay_over (S : List Sct) (at_ : Nat) (T : List Sct) (h0 : 0 < T.length) (hl : at_ + T.length ≤ S.length) : layS S at_ T = overS S at_ T := by
  unfold layS
  refine List.ext_getElem? (fun i => ?_)
  have htl : (T.take 1).length = 1 := by rw [List.length_take]; omega
  have hdl : (T.drop 1).length = T.length - 1 := by rw [List.length_drop]
  by_cases hi : i < S.length
  · rw [over_get S at_ T hl i hi, flush_get _ _ _ (by rw [flushS_len]; exact hi), wr_read, flush_read _ _ _ hi, wr_read, htl, hdl]
    congr 1
    by_cases h1 : i = at_
    · subst h1
      rw [if_pos (by omega), if_pos (by omega), Nat.sub_self, List.getD_eq_getElem?_getD, List.getElem?_take, if_pos (by omega), ← List.getD_eq_getElem?_getD]
    · rw [if_neg (by omega)]
      by_cases h2 : at_ + 1 ≤ i ∧ i < at_ + 1 + (T.length - 1)
      · rw [if_pos h2, if_pos (by omega), List.getD_eq_getElem?_getD, List.getElem?_drop, ← List.getD_eq_getElem?_getD, show 1 + (i - (at_ + 1)) = i - at_ by omega]
      · rw [if_neg h2, if_neg (by omega)]
  · rw [List.getElem?_eq_none (by rw [flushS_len, flushS_len]; omega), List.getElem?_eq_none (by rw [over_len _ _ _ hl]; omega)]
end Go.Proofs.Ytfceileohkngnaa
