/- Contracts: Flush, Crash. -/
import Derived.Test.YtcakiohpkebmpaaRead
namespace Go.Proofs.Ytcakiohpkebmpaa
open Go.RowKit
set_option linter.unusedVariables false

/-- No write is pending any more. -/
theorem dsk_clear {tD tW : TypeId} (t1 : tD ≠ 36) {W : World} {base g gs : Nat} {S : List Sct} {P : List (Nat × Sct)} (h : Dsk tD tW W base g gs S P) :
    Dsk tD tW (W.setCell ⟨g, 1, none⟩ (.slice none 0 0)) base g gs S [] ∧ Turned tW base g gs W (W.setCell ⟨g, 1, none⟩ (.slice none 0 0)) ∧ W.frozen? ⟨g, 1, none⟩ = false := by
  have hne := h.ne t1
  obtain ⟨pv', hg, h1, h2, hS, hP, h3, h4⟩ := h
  refine ⟨⟨.slice none 0 0, ?_, h1, h2, hS.of_block (Below.heap_setCell _ _ _ _ (fun e => hne e.symm)), World.ownsRow_nil _ _ _ _, by simp, h4⟩, ⟨rfl, rfl, rfl, by simp [World.setCell], fun b hb e1 e2 e3 => Below.heap_setCell _ _ _ _ e1⟩, by simp [World.frozen?, hg]⟩
  simp only [World.setCell, Array.getElem?_modify, if_true, hg, Option.map_some]
  rfl

theorem take_snocP {l : List (Nat × Sct)} {k : Nat} {p : Nat × Sct} (h : l[k]? = some p) : l.take (k + 1) = l.take k ++ [p] := by
  have hk := (List.getElem?_eq_some_iff.1 h).1
  rw [List.take_succ_eq_append_getElem hk]
  rw [List.getElem?_eq_getElem hk, Option.some.injEq] at h
  rw [h]

theorem flush_nil (w : World) : Calls Try.prog 17 #[.pointer none] w fun e w' => e = .returned (.int .i64 1) ∧ w' = w := by
  go_enter Try.func17, Try.ntmps17
  go_wp2
  go_ret
  exact ⟨rfl, rfl⟩

set_option maxHeartbeats 400000 in
theorem flush_any {base g gs : Nat} {S : List Sct} {P : List (Nat × Sct)} (w : World) (h : Dsk 62 65 w base g gs S P) (hP : P.length ≤ 100001) :
    Calls Try.prog 17 #[.pointer (some ⟨g, 0, none⟩)] w fun e w' => e = .returned (.int .i64 0) ∧ Dsk 62 65 w' base g gs (flushS S P) [] ∧ Turned 65 base g gs w w' := by
  obtain ⟨pv, A, cap, rfl, h0, h1, hPr⟩ := dsk_cells h
  have HD := hide h
  clear h h0 hPr
  go_enter Try.func17, Try.ntmps17
  go_wp2
  go_loopw [3, 11] (fun _ t wr => ∃ m : Nat, m ≤ P.length ∧ t = .int .i64 m ∧ Dsk 62 65 wr base g gs (flushS S (P.take m)) P ∧ Turned 65 base g gs w wr) (fun _ t _ => P.length - (intOf t).toNat)
  case atStart => exact ⟨0, Nat.zero_le _, rfl, unhide HD, Turned.refl _ _ _ _ _⟩
  case round =>
    obtain ⟨m, hm, rfl, hd, ht⟩ := hrel
    by_cases hlt : m < P.length
    · obtain ⟨p, hp⟩ : ∃ p, P[m]? = some p := ⟨P[m], List.getElem?_eq_getElem hlt⟩
      have HE : Hid (flushS S (P.take (m + 1)) = (flushS S (P.take m)).set p.1 p.2) := by
        show _ = _
        rw [take_snocP hp, flushS_snoc]
      have HC := hide (do_any _ hd m p hp)
      have HT := hide ht
      clear hp hd ht
      go_wp2_with (go_at_call 27; refine (unhide HC).mono ?_; rintro e w3 ⟨rfl, hd3, ht3⟩; have HD3 := hide hd3; clear hd3)
      go_roundw
      case rel => exact ⟨m + 1, by omega, by go_num, by rw [unhide HE]; exact unhide HD3, (unhide HT).trans ht3⟩
      case measure => simp [intOf]; omega
    · obtain rfl : m = P.length := by omega
      rw [List.take_length] at hd
      obtain ⟨d1, d2, d3⟩ := dsk_clear (by decide) hd
      obtain ⟨_, _, _, rfl, _, hc1, _⟩ := dsk_cells hd
      have H1 := hide d1
      have H2 := hide d2
      clear d1 d2 hd
      go_wp2
      go_ret
      exact ⟨rfl, unhide H1, ht.trans (unhide H2)⟩

/-- The bools K lie at ka. -/
def BoolsA (w : World) (ka : Option Addr) (K : List Bool) : Prop := RowA w ka (K.map Value.bool)
/-- A block that no call on the disk turns. -/
def Safe (tW : TypeId) (w : World) (base g gs b : Nat) : Prop := b < w.heap.size ∧ b ≠ g ∧ b ≠ gs ∧ (b < base ∨ ∀ cur fr, w.heap[b]? ≠ some (.cells cur tW fr))

theorem rowA_block {w w' : World} {A : Option Addr} {vs : List Value} (h : RowA w A vs) (k : ∀ b off, A = some ⟨b, off, none⟩ → w'.heap[b]? = w.heap[b]?) : RowA w' A vs := by
  intro hne
  obtain ⟨b, off, ha, hc⟩ := h hne
  exact ⟨b, off, ha, fun j u hj => by rw [World.cell?_of_block (w := w) (a := ⟨b, off + j, none⟩) (k b off ha)]; exact hc j u hj⟩

theorem crash_nil (w : World) (v : Value) : Calls Try.prog 19 #[.pointer none, v] w fun e w' => e = .returned (.tuple #[]) ∧ w' = w := by
  go_enter Try.func19, Try.ntmps19
  go_wp2
  exact bodyPost_ret (results_none rfl _ _ _) rfl ⟨rfl, rfl⟩

set_option maxHeartbeats 400000 in
theorem crash_any {base g gs : Nat} {S : List Sct} {P : List (Nat × Sct)} (w : World) (h : Dsk 62 65 w base g gs S P) (hP : P.length ≤ 100001) (ka : Option Addr) (K : List Bool) (kc : Nat) (hK : BoolsA w ka K) (hs : K ≠ [] → ∀ b off, ka = some ⟨b, off, none⟩ → Safe 65 w base g gs b) (hl : K.length ≤ 100001) :
    Calls Try.prog 19 #[.pointer (some ⟨g, 0, none⟩), .slice ka K.length kc] w fun e w' => e = .returned (.tuple #[]) ∧ Dsk 62 65 w' base g gs (flushS S (keptP P K)) [] ∧ Turned 65 base g gs w w' := by
  obtain ⟨pv, A, cap, rfl, h0, h1, hPr⟩ := dsk_cells h
  have HD := hide h
  have HK := hide hK
  have HS := hide hs
  clear h h0 hPr hK hs
  rcases Nat.lt_or_ge P.length K.length with hpk | hpk
  all_goals
    go_enter Try.func19, Try.ntmps19
    go_wp2
    go_loopw [4, 15] (fun _ t wr => ∃ m : Nat, m ≤ min K.length P.length ∧ t = .int .i64 m ∧ Dsk 62 65 wr base g gs (flushS S (keptP (P.take m) (K.take m))) P ∧ Turned 65 base g gs w wr) (fun _ t _ => min K.length P.length - (intOf t).toNat)
    case atStart => exact ⟨0, Nat.zero_le _, rfl, by simp only [List.take_zero]; exact unhide HD, Turned.refl _ _ _ _ _⟩
    case round =>
      obtain ⟨m, hm, rfl, hd, ht⟩ := hrel
      by_cases hlt : m < min K.length P.length
      · have hmP : m < P.length := by omega
        have hmK : m < K.length := by omega
        have hmP' : (m : Int) < (P.length : Int) := by omega
        have hmK' : (m : Int) < (K.length : Int) := by omega
        obtain ⟨p, hp⟩ : ∃ p, P[m]? = some p := ⟨P[m], List.getElem?_eq_getElem hmP⟩
        obtain ⟨b, hb⟩ : ∃ b, K[m]? = some b := ⟨K[m], List.getElem?_eq_getElem hmK⟩
        obtain ⟨kb, koff, rfl, hc0⟩ := (unhide HK) (by intro e; rw [List.map_eq_nil_iff] at e; subst e; simp at hmK)
        obtain ⟨s1, s2, s3, s4⟩ := (unhide HS) (by rintro rfl; simp at hmK) kb koff rfl
        have hcm : wr.cell? ⟨kb, koff + m, none⟩ = some (.bool b) := by
          rw [World.cell?_of_block (w := w) (a := ⟨kb, koff + m, none⟩) (ht.block kb s1 s2 s3 s4)]
          exact hc0 m (.bool b) (by rw [List.getElem?_map, hb]; rfl)
        have HE := hide (fun hbt : b = true => (kept_snoc P K m p b hp hb).trans (by rw [hbt, if_pos rfl]))
        have HE2 := hide (fun hbf : b = false => (kept_snoc P K m p b hp hb).trans (by rw [hbf, if_neg (by simp), List.append_nil]))
        have HC := hide (do_any _ hd m p hp)
        have HT := hide ht
        have HM := hide hd
        clear hp hb hd ht hc0 s4 hlt
        cases b with
        | true =>
          have HF : Hid (keptP (P.take (m + 1)) (K.take (m + 1)) = keptP (P.take m) (K.take m) ++ [p]) := unhide HE rfl
          clear HE HE2
          go_wp2_with (go_at_call 27; refine (unhide HC).mono ?_; rintro e w3 ⟨rfl, hd3, ht3⟩; have HD3 := hide hd3; clear hd3)
          go_roundw
          case rel => exact ⟨m + 1, by omega, by go_num, by rw [unhide HF, flushS_snoc]; exact unhide HD3, (unhide HT).trans ht3⟩
          case measure => simp [intOf]; omega
        | false =>
          have HF : Hid (keptP (P.take (m + 1)) (K.take (m + 1)) = keptP (P.take m) (K.take m)) := unhide HE2 rfl
          clear HE HE2
          go_wp2
          go_roundw
          case rel => exact ⟨m + 1, by omega, by go_num, by rw [unhide HF]; exact unhide HM, unhide HT⟩
          case measure => simp [intOf]; omega
      · have hx : m = min K.length P.length := by omega
        rw [kept_short P K m hx] at hd
        obtain ⟨d1, d2, d3⟩ := dsk_clear (by decide) hd
        obtain ⟨_, _, _, rfl, _, hc1, _⟩ := dsk_cells hd
        have H1 := hide d1
        have H2 := hide d2
        have HT := hide ht
        clear d1 d2 hd ht
        first
          | have hy : ¬ (m : Int) < (P.length : Int) := by omega
          | have hy : ¬ (m : Int) < (K.length : Int) := by omega
        clear hx hlt
        go_wp2
        exact bodyPost_end (results_none rfl _ _ _) rfl ⟨rfl, unhide H1, (unhide HT).trans (unhide H2)⟩
end Go.Proofs.Ytcakiohpkebmpaa
