/- Contracts of the reference: Flush, Crash. -/
import Derived.Test.YtcakiohpkebmpaaRefA
namespace Go.Proofs.Ytcakiohpkebmpaa
open Go.RowKit
set_option linter.unusedVariables false

/-- What a round reads of the disk: the headers, the k-th pending write, the place that it goes to. -/
theorem dsk_at {tD tW : TypeId} (t1 : tD ≠ 36) (t2 : tW ≠ 36) {w : World} {base g gs : Nat} {S : List Sct} {P : List (Nat × Sct)} (h : Dsk tD tW w base g gs S P) {k : Nat} {p : Nat × Sct} (hk : P[k]? = some p) :
    ∃ gp cap, w.cell? ⟨g, 0, none⟩ = some (.slice (some ⟨gs, 0, none⟩) S.length S.length) ∧ w.cell? ⟨g, 1, none⟩ = some (.slice (some ⟨gp, 0, none⟩) P.length cap) ∧ w.cell? ⟨gp, k * 65, none⟩ = some (.int .i64 p.1) ∧ w.rangeAt gp (k * 65 + 1) (bytes p.2) ∧ w.there gs (p.1 * 64) 64 ∧ p.1 < S.length ∧ g ≠ gs ∧ gp ≠ gs := by
  obtain ⟨pv, A, cap, rfl, h0, h1, hP⟩ := dsk_cells h
  obtain ⟨gp, cap', hpv, hgp, hcap, ⟨cur, hcur⟩, hr⟩ := own_at hP hk
  obtain ⟨rfl, rfl⟩ : A = some ⟨gp, 0, none⟩ ∧ cap = cap' := by simpa using hpv
  have hne := h.ne t1
  obtain ⟨_, _, _, _, hS, _, hin, _⟩ := h
  have hp := hin p (List.mem_of_getElem? hk)
  refine ⟨gp, cap, h0, h1, range_head hr, range_tail hr, hS.there hp, hp, hne, ?_⟩
  rintro rfl
  obtain ⟨⟨cur', h', _⟩, _⟩ := hS
  rw [hcur] at h'
  cases h'
  exact t2 rfl

set_option maxRecDepth 10000 in
set_option maxHeartbeats 1000000 in
theorem rflush_any {base g gs : Nat} {S : List Sct} {P : List (Nat × Sct)} (w : World) (h : Dsk 50 67 w base g gs S P) (hP : P.length ≤ 100001) :
    Calls Try.prog 18 #[.pointer (some ⟨g, 0, none⟩)] w fun e w' => e = .returned (.tuple #[]) ∧ Dsk 50 67 w' base g gs (flushS S P) [] ∧ Turned 67 base g gs w w' := by
  have HD := hide h
  clear h
  go_enter Try.func18, Try.ntmps18
  go_wp2
  go_loopw [2] (fun t wr => ∃ m : Nat, m ≤ P.length ∧ t = .int .i64 m ∧ Dsk 50 67 wr base g gs (flushS S (P.take m)) P ∧ Turned 67 base g gs w wr) (fun t _ => P.length - (intOf t).toNat)
  case atStart => exact ⟨0, Nat.zero_le _, rfl, unhide HD, Turned.refl _ _ _ _ _⟩
  case round =>
    obtain ⟨m, hm, rfl, hd, ht⟩ := hrel
    by_cases hlt : m < P.length
    · obtain ⟨p, hp⟩ : ∃ p, P[m]? = some p := ⟨P[m], List.getElem?_eq_getElem hlt⟩
      have HE : Hid (flushS S (P.take (m + 1)) = (flushS S (P.take m)).set p.1 p.2) := by
        show _ = _
        rw [take_snocP hp, flushS_snoc]
      obtain ⟨gp, cap, c0, c1, cp, rp, th, hpS, hne1, hne2⟩ := dsk_at (by decide) (by decide) hd hp
      have HT := hide ht
      have HM := hide hd
      have hm' : (m : Int) < (P.length : Int) := by omega
      have hpS' : (p.1 : Int) < ((flushS S (P.take m)).length : Int) := by omega
      have hu36 := Try.underlying36
      have hz36 : (Try.prog.info? 36).map (·.size) = some (bytes p.2).length := by rw [bytes_len]; exact Try.size36
      have hl36 := bytes_len p.2
      have ho36 := bytes_one p.2
      clear hp hd ht
      generalize flushS S (P.take m) = L at *
      go_wp2_with fail
      go_region_held3 (fun W => W.cell? ⟨g, 0, none⟩ = some (.slice (some ⟨gs, 0, none⟩) L.length L.length) ∧ W.cell? ⟨g, 1, none⟩ = some (.slice (some ⟨gp, 0, none⟩) P.length cap) ∧ W.cell? ⟨gp, m * 65, none⟩ = some (.int .i64 p.1) ∧ W.rangeAt gp (m * 65 + 1) (bytes p.2) ∧ W.there gs (p.1 * 64) 64)
        ((go_split_ands; (refine ⟨?_, ?_, ?_, ?_, ?_⟩) <;> first | assumption | (rw [cell_sets_other _ _ _ _ _ _ hne1]; assumption) | (rw [cell_sets_other _ _ _ _ _ _ hne2]; assumption) | (refine World.there_setCells ?_ _ _ _; assumption) | (refine World.rangeAt_setCells_apart ?_ _ _ _ (.inl hne2); assumption))) (fail)
      all_goals
        obtain ⟨e1, e2⟩ := Dsk.did (unhide HM).drew (by decide) (by decide) hpS p.2
        have HE1 := hide e1
        have HE2 := hide (((unhide HT).drew).trans e2)
        clear e1 e2
        go_wp2
        exact ⟨⟨m + 1, by omega, by go_num, by rw [unhide HE]; exact unhide HE1, unhide HE2⟩, by simp [intOf]; omega⟩
    · obtain rfl : m = P.length := by omega
      rw [List.take_length] at hd
      obtain ⟨d1, d2, d3⟩ := dsk_clear (by decide) hd
      obtain ⟨_, _, _, rfl, _, hc1, _⟩ := dsk_cells hd
      have H1 := hide d1
      have H2 := hide d2
      have HT := hide ht
      clear d1 d2 hd ht
      go_wp2
      exact bodyPost_end (results_none rfl _ _ _) rfl ⟨rfl, unhide H1, (unhide HT).trans (unhide H2)⟩

set_option maxRecDepth 10000 in
set_option maxHeartbeats 1000000 in
theorem rcrash_any {base g gs : Nat} {S : List Sct} {P : List (Nat × Sct)} (w : World) (h : Dsk 50 67 w base g gs S P) (hP : P.length ≤ 100001) (ka : Option Addr) (K : List Bool) (kc : Nat) (hK : BoolsA w ka K) (hs : K ≠ [] → ∀ b off, ka = some ⟨b, off, none⟩ → Safe 67 w base g gs b) (hl : K.length ≤ 100001) :
    Calls Try.prog 20 #[.pointer (some ⟨g, 0, none⟩), .slice ka K.length kc] w fun e w' => e = .returned (.tuple #[]) ∧ Dsk 50 67 w' base g gs (flushS S (keptP P K)) [] ∧ Turned 67 base g gs w w' := by
  have HD := hide h
  have HK := hide hK
  have HS := hide hs
  clear h hK hs
  go_enter Try.func20, Try.ntmps20
  go_wp2
  go_loopw [4] (fun t wr => ∃ m : Nat, m ≤ min K.length P.length ∧ t = .int .i64 m ∧ Dsk 50 67 wr base g gs (flushS S (keptP (P.take m) (K.take m))) P ∧ Turned 67 base g gs w wr) (fun t _ => min K.length P.length - (intOf t).toNat)
  case atStart => exact ⟨0, Nat.zero_le _, rfl, by simp only [List.take_zero]; exact unhide HD, Turned.refl _ _ _ _ _⟩
  case round =>
    obtain ⟨m, hm, rfl, hd, ht⟩ := hrel
    by_cases hlt : m < min K.length P.length
    · have hmP : m < P.length := by omega
      have hmK : m < K.length := by omega
      have hmP' : (m : Int) < (P.length : Int) := by omega
      have hmK' : (m : Int) < (K.length : Int) := by omega
      obtain ⟨p, hp⟩ : ∃ p, P[m]? = some p := ⟨P[m], List.getElem?_eq_getElem hmP⟩
      obtain ⟨b, hb⟩ : ∃ b, K[m]? = some b := ⟨K[m], List.getElem?_eq_getElem hmK⟩
      obtain ⟨kb, koff, rfl, hc0⟩ := (unhide HK) (by intro e; rw [List.map_eq_nil_iff] at e; subst e; simp at hmK)
      obtain ⟨s1, s2, s3, s4⟩ := (unhide HS) (by rintro rfl; simp at hmK) kb koff rfl
      have hcm : wr.cell? ⟨kb, koff + m, none⟩ = some (.bool b) := by
        rw [World.cell?_of_block (w := w) (a := ⟨kb, koff + m, none⟩) (ht.block kb s1 s2 s3 s4)]
        exact hc0 m (.bool b) (by rw [List.getElem?_map, hb]; rfl)
      have HE := hide (fun hbt : b = true => (kept_snoc P K m p b hp hb).trans (by rw [hbt, if_pos rfl]))
      have HE2 := hide (fun hbf : b = false => (kept_snoc P K m p b hp hb).trans (by rw [hbf, if_neg (by simp), List.append_nil]))
      obtain ⟨gp, cap, c0, c1, cp, rp, th, hpS, hne1, hne2⟩ := dsk_at (by decide) (by decide) hd hp
      have HT := hide ht
      have HM := hide hd
      have hu36 := Try.underlying36
      have hz36 : (Try.prog.info? 36).map (·.size) = some (bytes p.2).length := by rw [bytes_len]; exact Try.size36
      have hl36 := bytes_len p.2
      have ho36 := bytes_one p.2
      have hpS' : (p.1 : Int) < ((flushS S (keptP (P.take m) (K.take m))).length : Int) := by omega
      clear hp hb hd ht hc0 s4 hlt
      cases b with
      | true =>
        have HF : Hid (flushS S (keptP (P.take (m + 1)) (K.take (m + 1))) = (flushS S (keptP (P.take m) (K.take m))).set p.1 p.2) := by
          show _ = _
          rw [unhide HE rfl, flushS_snoc]
        clear HE HE2
        generalize flushS S (keptP (P.take m) (K.take m)) = L at *
        go_wp2_with fail
        go_region_held3 (fun W => W.cell? ⟨g, 0, none⟩ = some (.slice (some ⟨gs, 0, none⟩) L.length L.length) ∧ W.cell? ⟨g, 1, none⟩ = some (.slice (some ⟨gp, 0, none⟩) P.length cap) ∧ W.cell? ⟨gp, m * 65, none⟩ = some (.int .i64 p.1) ∧ W.rangeAt gp (m * 65 + 1) (bytes p.2) ∧ W.there gs (p.1 * 64) 64)
          ((go_split_ands; (refine ⟨?_, ?_, ?_, ?_, ?_⟩) <;> first | assumption | (rw [cell_sets_other _ _ _ _ _ _ hne1]; assumption) | (rw [cell_sets_other _ _ _ _ _ _ hne2]; assumption) | (refine World.there_setCells ?_ _ _ _; assumption) | (refine World.rangeAt_setCells_apart ?_ _ _ _ (.inl hne2); assumption))) (fail)
        all_goals
          obtain ⟨e1, e2⟩ := Dsk.did (unhide HM).drew (by decide) (by decide) hpS p.2
          have HE1 := hide e1
          have HE2 := hide (((unhide HT).drew).trans e2)
          clear e1 e2
          go_wp2
          exact ⟨⟨m + 1, by omega, by go_num, by rw [unhide HF]; exact unhide HE1, unhide HE2⟩, by simp [intOf]; omega⟩
      | false =>
        have HF : Hid (keptP (P.take (m + 1)) (K.take (m + 1)) = keptP (P.take m) (K.take m)) := unhide HE2 rfl
        clear HE HE2
        go_wp2
        go_roundw
        case rel => exact ⟨m + 1, by omega, by go_num, by rw [unhide HF]; exact unhide HM, unhide HT⟩
        case measure => simp [intOf]; omega
    · have hx : m = min K.length P.length := by omega
      rw [kept_short P K m hx] at hd
      obtain ⟨d1, d2, d3⟩ := dsk_clear (by decide) hd
      obtain ⟨_, _, _, rfl, _, hc1, _⟩ := dsk_cells hd
      have H1 := hide d1
      have H2 := hide d2
      have HT := hide ht
      clear d1 d2 hd ht
      by_cases hy : m < P.length
      · have hy' : (m : Int) < (P.length : Int) := by omega
        have hy2 : ¬ (m : Int) < (K.length : Int) := by omega
        clear hx hlt
        go_wp2
        exact bodyPost_end (results_none rfl _ _ _) rfl ⟨rfl, unhide H1, (unhide HT).trans (unhide H2)⟩
      · have hy' : ¬ (m : Int) < (P.length : Int) := by omega
        clear hx hlt
        go_wp2
        exact bodyPost_end (results_none rfl _ _ _) rfl ⟨rfl, unhide H1, (unhide HT).trans (unhide H2)⟩
end Go.Proofs.Ytcakiohpkebmpaa
