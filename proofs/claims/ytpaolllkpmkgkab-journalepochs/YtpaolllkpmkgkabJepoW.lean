/- The walk of JournalEpochs. -/
import Derived.Test.YtpaolllkpmkgkabJlist
namespace Go.Proofs.Ytpaolllkpmkgkab
open Go.RowKit
set_option linter.unusedVariables false
set_option maxRecDepth 4000

theorem jepo_no (A B : Option Addr) (n cap m c2 : Nat) (h : 10 < n ∨ 300 < m) (hn : n ≤ maxLen) (hm : m ≤ maxLen) (w : World) :
    Calls Try.prog 3 #[.slice A n cap, .slice B m c2] w fun e w' => e = .returned (.bool true) ∧ Below w.heap.size w w' := by
  have hml : maxLen = 9223372036854775807 := rfl
  rw [hml] at hn hm
  clear hml
  by_cases h1 : 10 < n
  · have h1' : (10 : Int) < (n : Int) := by omega
    go_enter Try.func3, Try.ntmps3
    go_wp2_with (go_at_call 4; refine (wakesJ _).mono ?_; rintro e w3 ⟨rfl, hb⟩)
    go_ret
    exact ⟨rfl, hb⟩
  · have h1' : ¬ (10 : Int) < (n : Int) := by omega
    have h2' : (300 : Int) < (m : Int) := by omega
    go_enter Try.func3, Try.ntmps3
    go_wp2_with (go_at_call 4; refine (wakesJ _).mono ?_; rintro e w3 ⟨rfl, hb⟩)
    go_ret
    exact ⟨rfl, hb⟩

/-- So many entries of at most 300 bytes have so many sectors. -/
theorem ents_few (ep : Int) : ∀ (L : List (List Int)) (c : Nat), (∀ b ∈ L, b.length ≤ 300) → (entsS ep c L).length ≤ 5 * L.length
  | [], _, _ => Nat.le_refl _
  | b :: L, c, h => by
    have h1 := ents_few ep L (c + 1) (fun x hx => h x (List.mem_cons_of_mem _ hx))
    have h2 := h b (List.mem_cons_self)
    show (entS ep c b ++ entsS ep (c + 1) L).length ≤ _
    rw [List.length_append, entS_len, List.length_cons]
    omega

/-- The sectors behind some Appends to a new disk of 80. -/
def epoS (L : List (List Int)) : List Sct := entsS 1 0 L ++ List.replicate (80 - (entsS 1 0 L).length) zeroS
theorem epoS_len {L : List (List Int)} (h : (entsS 1 0 L).length ≤ 80) : (epoS L).length = 80 := by unfold epoS; rw [List.length_append, List.length_replicate]; omega
theorem epoS_old {L : List (List Int)} (hF : Fits L) : Old 2 (epoS L) := (old_ents (by omega) (by decide) L 0 hF).app (old_zero 2 _)
theorem epo_snoc {L : List (List Int)} {b : List Int} (h : (entsS 1 0 L).length + (b.length + 77) / 63 ≤ 80) : overS (epoS L) (0 + (entsS 1 0 L).length) (entS 1 L.length b) = epoS (L ++ [b]) := by
  have h1 := @hold_append 1 (epoS L) 0 (0 + (entsS 1 0 L).length) L (List.replicate (80 - (entsS 1 0 L).length) zeroS) rfl b rfl (by rw [epoS_len (by omega), entS_len]; omega)
  rw [List.drop_zero] at h1
  rw [h1]
  unfold epoS
  rw [List.drop_replicate, entsS_len, entS_len, Nat.sub_sub]
/-- Behind one Append of another epoch. -/
def epoT (L : List (List Int)) (b : List Int) : List Sct := overS (epoS L) 0 (entS 2 0 b)
theorem epoT_drop {L : List (List Int)} {b : List Int} (h : (entsS 1 0 L).length ≤ 80) (hb : b.length ≤ 300) : (epoT L b).drop 0 = entsS 2 0 [b] ++ (epoS L).drop (entS 2 0 b).length :=
  @hold_append 2 (epoS L) 0 0 [] (epoS L) rfl b rfl (by rw [epoS_len h]; show 0 + (entS 2 0 b).length ≤ 80; rw [entS_len]; omega)
theorem epoT_old {L : List (List Int)} {b : List Int} (hF : Fits L) (hB : Byt b) (hb : b.length ≤ 300) (h80 : (entsS 1 0 L).length ≤ 80) : jrnL 1 (epoT L b) 0 80 = [] ∧ jrnN 1 (epoT L b) 0 80 = 0 := by
  have hd : decS (cutS (entL 1 2 ((0 : Nat) : Int) b) ++ ((epoS L).drop (entS 2 0 b).length)) = _ := decS_ent 1 2 0 (by omega) (by omega) (by omega) b (by omega) hB _
  have he : (epoT L b).drop 0 = cutS (entL 1 2 ((0 : Nat) : Int) b) ++ ((epoS L).drop (entS 2 0 b).length) := by
    rw [epoT_drop h80 hb]
    show (entS 2 0 b ++ []) ++ _ = _
    rw [List.append_nil]; rfl
  have hl : (epoT L b).length = 80 := by unfold epoT; rw [over_len _ _ _ (by rw [epoS_len h80, entS_len]; omega), epoS_len h80]
  obtain ⟨e1, e2⟩ := jrn_scan 1 (epoT L b) 0 80
  have ht : ((epoT L b).drop 0).take 80 = (epoT L b).drop 0 := List.take_of_length_le (by rw [List.length_drop, hl]; omega)
  rw [e1, e2, ht, he]
  unfold scan
  rw [scan_no hd (show isN 1 0 1 2 0 = false from by decide)]
  exact ⟨rfl, rfl⟩
theorem open_none {base g gs : Nat} {S : List Sct} (w : World) (h : Dsk 41 89 w base g gs S []) (fr tt : Nat) (ep : Int) (hep : 0 ≤ ep ∧ ep ≤ 4294967295) (hft : fr < tt) (hts : tt ≤ S.length) (ht9 : tt ≤ 900) (hn : jrnL ep S fr (tt - fr) = [] ∧ jrnN ep S fr (tt - fr) = 0) :
    Calls Try.prog 6 #[.pointer (some ⟨g, 0, none⟩), .int .i64 fr, .int .i64 tt, .int .u32 ep] w fun e w' => ∃ j, e = .returned (.tuple #[.pointer (some ⟨j, 0, none⟩), .int .i64 0]) ∧ Hold w' base g gs S j fr tt ep [] (S.drop fr) ∧ w.heap.size ≤ j ∧ Below w.heap.size w w' := by
  have hx := open_yes w h fr tt ep hft hts ht9
  rw [hn.1, hn.2] at hx
  refine hx.mono ?_
  rintro e w' ⟨j, rfl, hj, hz, hb⟩
  exact ⟨j, rfl, ⟨h.below hb, hj, hep, rfl, fun b hb => (by cases hb), Nat.zero_le _, by simp only [entsS, List.length_nil]; omega, hts, ht9⟩, hz, hb⟩

theorem rowB_below {w W : World} {B : Option Addr} {b : List Int} (h : BysA w B b) (hb : Below w.heap.size w W) : BysA W B b := bysA_below h hb

set_option maxRecDepth 100000 in
set_option maxHeartbeats 8000000 in
theorem jepo_end (A B : Option Addr) (pss : List (List Int)) (cap c2 : Nat) (one : List Int) (w : World) (hl : pss.length ≤ 10) (hB : ∀ q ∈ pss, Byt q ∧ q.length ≤ 300) (h1 : Byt one) (h3 : one.length ≤ 300) (g gs : Nat) :
    (∀ (W : World), Dsk 41 89 W w.heap.size g gs (epoS pss) [] → Calls Try.prog 6 #[.pointer (some ⟨g, 0, none⟩), .int .i64 0, .int .i64 80, .int .u32 2] W fun e w' => ∃ j, e = .returned (.tuple #[.pointer (some ⟨j, 0, none⟩), .int .i64 0]) ∧ Hold w' w.heap.size g gs (epoS pss) j 0 80 2 [] ((epoS pss).drop 0) ∧ W.heap.size ≤ j ∧ Below W.heap.size W w') ∧
    (∀ (W : World), Dsk 41 89 W w.heap.size g gs (epoS pss) [] → Calls Try.prog 6 #[.pointer (some ⟨g, 0, none⟩), .int .i64 0, .int .i64 80, .int .u32 1] W fun e w' => ∃ j R, e = .returned (.tuple #[.pointer (some ⟨j, 0, none⟩), .int .i64 0]) ∧ Hold w' w.heap.size g gs (epoS pss) j 0 80 1 pss R ∧ Below W.heap.size W w') ∧
    (∀ (W : World), Dsk 41 89 W w.heap.size g gs (epoT pss one) [] → Calls Try.prog 6 #[.pointer (some ⟨g, 0, none⟩), .int .i64 0, .int .i64 80, .int .u32 1] W fun e w' => ∃ j R, e = .returned (.tuple #[.pointer (some ⟨j, 0, none⟩), .int .i64 0]) ∧ Hold w' w.heap.size g gs (epoT pss one) j 0 80 1 [] R ∧ Below W.heap.size W w') ∧
    (∀ (W : World), Dsk 41 89 W w.heap.size g gs (epoT pss one) [] → Calls Try.prog 6 #[.pointer (some ⟨g, 0, none⟩), .int .i64 0, .int .i64 80, .int .u32 2] W fun e w' => ∃ j R, e = .returned (.tuple #[.pointer (some ⟨j, 0, none⟩), .int .i64 0]) ∧ Hold w' w.heap.size g gs (epoT pss one) j 0 80 2 [one] R ∧ Below W.heap.size W w') := by
  have hF : Fits pss := fun b hb => ⟨(hB b hb).1, by have := (hB b hb).2; omega⟩
  have hfew := ents_few 1 pss 0 (fun b hb => (hB b hb).2)
  have h80 : (entsS 1 0 pss).length ≤ 80 := by omega
  have hSl := epoS_len h80
  have hTl : (epoT pss one).length = 80 := by unfold epoT; rw [over_len _ _ _ (by rw [hSl, entS_len]; omega), hSl]
  refine ⟨fun W hd => ?_, fun W hd => ?_, fun W hd => ?_, fun W hd => ?_⟩
  · exact open_none W hd 0 80 2 (by omega) (by omega) (by omega) (by omega) (hold_none (epoS_old hF) 0 80)
  · refine (open_hold W hd 0 80 1 (by omega) (by omega) (by omega) (by omega) pss (List.replicate (80 - (entsS 1 0 pss).length) zeroS) rfl hF (by omega) (old_zero 1 _) (by omega)).mono ?_
    rintro e w' ⟨j, rfl, hh, _, hb⟩
    exact ⟨j, _, rfl, hh, hb⟩
  · refine (open_none W hd 0 80 1 (by omega) (by omega) (by omega) (by omega) (epoT_old hF h1 h3 h80)).mono ?_
    rintro e w' ⟨j, rfl, hh, _, hb⟩
    exact ⟨j, _, rfl, hh, hb⟩
  · have hel : (entsS 2 0 [one]).length = (one.length + 77) / 63 := by show (entS 2 0 one ++ []).length = _; rw [List.append_nil, entS_len]
    refine (open_hold W hd 0 80 2 (by omega) (by omega) (by omega) (by omega) [one] ((epoS pss).drop (entS 2 0 one).length) (epoT_drop h80 h3) (fun b hb => by rw [List.mem_singleton] at hb; subst hb; exact ⟨h1, by omega⟩) (by simp) ((epoS_old hF).drop _) (by omega)).mono ?_
    rintro e w' ⟨j, rfl, hh, _, hb⟩
    exact ⟨j, _, rfl, hh, hb⟩

set_option maxRecDepth 100000 in
set_option maxHeartbeats 8000000 in
theorem jepo_walk (A B : Option Addr) (pss : List (List Int)) (cap c2 : Nat) (one : List Int) (w : World) (hA : PartsA w A pss) (hl : pss.length ≤ 10) (hBy : ∀ q ∈ pss, Byt q ∧ q.length ≤ maxLen) (hO : BysA w B one) (h1 : Byt one) (h3 : one.length ≤ 300) :
    Calls Try.prog 3 #[.slice A pss.length cap, .slice B one.length c2] w fun e w' => e = .returned (.bool true) ∧ Below w.heap.size w w' := by
  have HNW : Hid (∀ W : World, Calls Try.prog 5 #[.int .i64 80] W fun e w' => ∃ g gs, e = .returned (.tuple #[.pointer (some ⟨g, 0, none⟩), .int .i64 0]) ∧ Dsk 41 89 w' W.heap.size g gs (List.replicate 80 zeroS) [] ∧ Below W.heap.size W w') := fun W => new_yes 80 (by omega) (by omega) W
  have HOP : Hid (∀ (W : World) (base g gs : Nat), Dsk 41 89 W base g gs (List.replicate 80 zeroS) [] → Calls Try.prog 6 #[.pointer (some ⟨g, 0, none⟩), .int .i64 0, .int .i64 80, .int .u32 1] W fun e w' => ∃ j R, e = .returned (.tuple #[.pointer (some ⟨j, 0, none⟩), .int .i64 0]) ∧ Hold w' base g gs (epoS []) j 0 80 1 [] R ∧ W.heap.size ≤ j ∧ Below W.heap.size W w') := fun W base g gs hd => by
    refine (open_hold W hd 0 80 1 (by omega) (by omega) (by simp) (by omega) [] (List.replicate 80 zeroS) rfl (fun b hb => by cases hb) (by simp) (old_zero 1 80) (by simp [entsS])).mono ?_
    rintro e w' ⟨j, rfl, hh, hz, hb⟩
    exact ⟨j, _, rfl, hh, hz, hb⟩
  have HA := hide hA
  have HBB := hide hBy
  have HO := hide hO
  have H1 := hide h1
  have hl' : ¬ (10 : Int) < (pss.length : Int) := by omega
  have h3' : ¬ (300 : Int) < (one.length : Int) := by omega
  clear hA hBy hO h1
  go_enter Try.func3, Try.ntmps3
  go_wp2_with (first
    | (go_at_call 5; (with_reducible refine (unhide HNW _).mono ?_); rintro e w1 ⟨g, gs, rfl, hd1, hb1⟩; have HD1 := hide hd1; have HB1 := hide hb1; clear hd1 hb1)
    | (go_at_call 6; (with_reducible refine (unhide HOP _ _ _ _ (unhide HD1)).mono ?_); rintro e w2 ⟨j, R, rfl, hh2, hz2, hb2⟩; have HH2 := hide hh2; have HB2 := hide (below_then (unhide HB1) hb2); have HJL := hide (Nat.le_trans (unhide HB1).size hz2); clear hh2 hb2))
  clear HNW HOP
  go_loopw [9] (fun i wr => ∃ (k : Nat) (R : List Sct), k ≤ pss.length ∧ i = .int .i64 k ∧ (∀ b ∈ pss.take k, Byt b ∧ b.length ≤ 300) ∧ Hold wr w.heap.size g gs (epoS (pss.take k)) j 0 80 1 (pss.take k) R ∧ Below w.heap.size w wr) (fun i _ => pss.length - (intOf i).toNat)
  case atStart => exact ⟨0, _, Nat.zero_le _, rfl, (by intro b hb; cases hb), unhide HH2, unhide HB2⟩
  case round =>
    obtain ⟨k, R', hk, rfl, hsm, hh, hbel⟩ := hrel
    have HH := hide hh
    have HBL := hide hbel
    obtain ⟨d1, d2, d3, d4⟩ := hh.dsk.lt
    have HDB := hide (And.intro d3 d4)
    have HSM := hide hsm
    clear hh hbel d1 d2 d3 d4 HH2 HB2 hsm
    by_cases hlt : k < pss.length
    · obtain ⟨b, off, rfl, hc⟩ := (unhide HA) (by rintro rfl; simp at hlt)
      obtain ⟨a', c', hck0, hby0⟩ := hc k hlt
      have hck : wr.cell? ⟨b, off + k, none⟩ = some (.slice a' (pss.getD k []).length c') := by rw [(unhide HBL).cell (World.block_lt_of_cell? _ _ hck0)]; exact hck0
      have hby := bysA_below hby0 (unhide HBL)
      obtain ⟨hBp, hlp⟩ := (unhide HBB) (pss.getD k []) (by rw [List.getD_eq_getElem?_getD, List.getElem?_eq_getElem hlt]; exact List.getElem_mem hlt)
      have hml : maxLen = 9223372036854775807 := rfl
      rw [hml] at hlp
      have hlt' : (k : Int) < (pss.length : Int) := by omega
      have HTK := hide (takes_snoc pss k hlt)
      have HLN : Hid ((pss.take k).length = k) := by show _ = _; rw [List.length_take]; omega
      generalize pss.getD k [] = p at *
      clear hc hck0 hby0 hml
      by_cases hp : 300 < p.length
      · have hp' : (300 : Int) < (p.length : Int) := by omega
        clear hby hBp
        generalize p.length = pl at *
        go_wp2_with (go_at_call 4; refine (wakesJ _).mono ?_; rintro e w3 ⟨rfl, hb3⟩; have HB3 := hide (below_then (unhide HBL) hb3); clear hb3)
        go_ret
        exact ⟨rfl, unhide HB3⟩
      · have hp' : ¬ (300 : Int) < (p.length : Int) := by omega
        have hb1 : Below wr.heap.size wr (wr.alloc (.cells #[.slice a' p.length c'] 23)) := below_alloc (Below.refl _ _) _
        have HP1 := hide (parts_hdr (W := wr.alloc (.cells #[.slice a' p.length c'] 23)) (N := wr.heap.size) (cell_at _ _ _ _ _ 0 rfl) (bysA_below hby hb1))
        have hfew := ents_few 1 (pss.take k) 0 (fun b hb => (unhide HSM b hb).2)
        rw [unhide HLN] at hfew
        have HAP : Hid (Calls Try.prog 7 #[.pointer (some ⟨j, 0, none⟩), .slice (some ⟨wr.heap.size, 0, none⟩) 1 1] (wr.alloc (.cells #[.slice a' p.length c'] 23)) fun e w' => e = .returned (.int .i64 0) ∧ ∃ R', Hold w' w.heap.size g gs (epoS (pss.take (k + 1))) j 0 80 1 (pss.take (k + 1)) R' ∧ Below w.heap.size w w') := by
          refine ((unhide HH).below hb1 |>.append _ [p] 1 1 rfl (unhide HP1) (byts_hdr hBp (by show _ ≤ 9223372036854775807; omega)) (by simp) p (flk_one p) (by omega) hBp (by omega) (by rw [unhide HLN]; omega)).mono ?_
          rintro e w' ⟨rfl, hh', ht'⟩
          rw [epo_snoc (by omega), ← unhide HTK] at hh'
          have hbw := below_then (unhide HBL) hb1
          exact ⟨rfl, _, hh', hbw.trans (ht'.below hbw.size (unhide HDB).1 (unhide HDB).2 (unhide HJL))⟩
        have HS2 : Hid (∀ b ∈ pss.take (k + 1), Byt b ∧ b.length ≤ 300) := fun b hb => by
          rw [unhide HTK] at hb
          rcases List.mem_append.1 hb with hb | hb
          · exact unhide HSM b hb
          · rw [List.mem_singleton] at hb; subst hb; exact ⟨hBp, by omega⟩
        clear hby hBp hb1 hfew
        generalize p.length = pl at *
        go_wp2_with (go_at_call 7; (with_reducible refine (unhide HAP).mono ?_); rintro e w3 ⟨rfl, R3, hh3, hb3⟩; have HH3 := hide hh3; have HB3 := hide hb3; clear hh3 hb3)
        go_roundw
        case rel => exact ⟨k + 1, R3, by omega, by go_num, unhide HS2, unhide HH3, unhide HB3⟩
        case measure => simp [intOf]; omega
    · obtain rfl : k = pss.length := by omega
      rw [List.take_length] at HH HSM
      obtain ⟨e1, e2, e3, e4⟩ := jepo_end A B pss cap c2 one w hl (unhide HSM) (unhide H1) h3 g gs
      have HE1 := hide e1
      have HE2 := hide e2
      have HE3 := hide e3
      have HE4 := hide e4
      have HD0 := hide (unhide HH).dsk
      have HAL := hide (fun (W : World) (S : List Sct) (j : Nat) (ep : Int) (R : List Sct) (h : Hold W w.heap.size g gs S j 0 80 ep [] R) => h.all)
      have HRM : Hid (∀ (W : World) (S : List Sct) (j : Nat) (R : List Sct), Hold W w.heap.size g gs S j 0 80 2 [] R → Calls Try.prog 9 #[.pointer (some ⟨j, 0, none⟩)] W fun e w' => e = .returned (.int .i64 80) ∧ Below W.heap.size W w') := fun W S j R h => h.roomy
      have HA0 : Hid (∀ (W : World) (S : List Sct) (j : Nat) (ep : Int) (R : List Sct), Hold W w.heap.size g gs S j 0 80 ep [] R → Calls Try.prog 8 #[.pointer (some ⟨j, 0, none⟩)] W fun e w' => ∃ A c, e = .returned (.slice A 0 c) ∧ Below W.heap.size W w') := fun W S j ep R h => by
        refine h.all.mono ?_
        rintro e w' ⟨A, c, rfl, _, hb⟩
        exact ⟨A, c, rfl, hb⟩
      have HAP : Hid (∀ (W : World) (j : Nat), Below w.heap.size w W → w.heap.size ≤ j → Hold W w.heap.size g gs (epoS pss) j 0 80 2 [] ((epoS pss).drop 0) → Calls Try.prog 7 #[.pointer (some ⟨j, 0, none⟩), .slice (some ⟨W.heap.size, 0, none⟩) 1 1] (W.alloc (.cells #[.slice B one.length c2] 23)) fun e w' => e = .returned (.int .i64 0) ∧ Dsk 41 89 w' w.heap.size g gs (epoT pss one) [] ∧ Below w.heap.size w w') := fun W j hW hj h => by
        have hb1 : Below W.heap.size W (W.alloc (.cells #[.slice B one.length c2] 23)) := below_alloc (Below.refl _ _) _
        have hP1 := parts_hdr (W := W.alloc (.cells #[.slice B one.length c2] 23)) (N := W.heap.size) (cell_at _ _ _ _ _ 0 rfl) (bysA_below (unhide HO) (below_then hW hb1))
        refine ((h.below hb1).append _ [one] 1 1 rfl hP1 (byts_hdr (unhide H1) (by show _ ≤ 9223372036854775807; omega)) (by simp) one (flk_one one) (by omega) (unhide H1) (by show (one.length + 77) / 63 ≤ 80 - (0 + 0); omega) (by simp)).mono ?_
        rintro e w' ⟨rfl, hh', ht'⟩
        have hbw := below_then hW hb1
        exact ⟨rfl, hh'.dsk, hbw.trans (ht'.below hbw.size (unhide HDB).1 (unhide HDB).2 hj)⟩
      have HL1 := hide (fun (W : World) (A' : Option Addr) (c : Nat) (hW : Below w.heap.size w W) (h : PartsA W A' pss) => lists_same A' A pss pss.length c cap W rfl h (partsA_below (unhide HA) hW) (by omega))
      have HL2 : Hid (∀ (W : World) (A' : Option Addr) (c : Nat), Below w.heap.size w W → PartsA W A' [one] → Calls Try.prog 10 #[.slice A' 1 c, .slice (some ⟨W.heap.size, 0, none⟩) 1 1] (W.alloc (.cells #[.slice B one.length c2] 23)) fun e w' => e = .returned (.bool true) ∧ Below (W.alloc (.cells #[.slice B one.length c2] 23)).heap.size (W.alloc (.cells #[.slice B one.length c2] 23)) w') := fun W A' c hW h => by
        have hb1 : Below W.heap.size W (W.alloc (.cells #[.slice B one.length c2] 23)) := below_alloc (Below.refl _ _) _
        exact lists_same A' _ [one] 1 c 1 _ rfl (partsA_below h hb1) (parts_hdr (cell_at _ _ _ _ _ 0 rfl) (bysA_below (unhide HO) (below_then hW hb1))) (by simp)
      have HAP2 := hide (fun (W : World) (S : List Sct) (j : Nat) (R : List Sct) (h : Hold W w.heap.size g gs S j 0 80 1 pss R) => h.all)
      have HAP3 : Hid (∀ (W : World) (S : List Sct) (j : Nat) (R : List Sct), Hold W w.heap.size g gs S j 0 80 2 [one] R → Calls Try.prog 8 #[.pointer (some ⟨j, 0, none⟩)] W fun e w' => ∃ A c, e = .returned (.slice A 1 c) ∧ PartsA w' A [one] ∧ Below W.heap.size W w') := fun W S j R h => h.all
      clear HSM HBB HAL e1 e2 e3 e4
      go_wp2_with (first
        | (go_at_call 4; (with_reducible refine (wakesJ _).mono ?_); rintro e w16 ⟨rfl, hb16⟩; have HB16 := hide (below_then (unhide HB15) hb16); clear hb16)
        | (go_at_call 10; (with_reducible refine (unhide HL2 _ _ _ (unhide HB14) (unhide HP14)).mono ?_); rintro e w15 ⟨rfl, hb15⟩; have HB15 := hide (below_then (below_alloc (unhide HB14) _) hb15); clear hb15)
        | (go_at_call 8; (with_reducible refine (unhide HAP3 _ _ _ _ (unhide HH13)).mono ?_); rintro e w14 ⟨A14, c14, rfl, hp14, hb14⟩; have HP14 := hide hp14; have HB14 := hide (below_then (unhide HB13) hb14); clear hb14 hp14)
        | (go_at_call 8; (with_reducible refine (unhide HA0 _ _ _ _ _ (unhide HO12)).mono ?_); rintro e w13 ⟨A13, c13, rfl, hb13⟩; have HH13 := hide ((unhide HH12).below hb13); have HB13 := hide (below_then (unhide HB12) hb13); clear hb13)
        | (go_at_call 6; (with_reducible refine (unhide HE4 _ (unhide HO11).dsk).mono ?_); rintro e w12 ⟨j12, R12, rfl, hh12, hb12⟩; have HH12 := hide hh12; have HO12 := hide ((unhide HO11).below hb12); have HB12 := hide (below_then (unhide HB11) hb12); clear hb12 hh12)
        | (go_at_call 6; (with_reducible refine (unhide HE3 _ (unhide HD10)).mono ?_); rintro e w11 ⟨j11, R11, rfl, hh11, hb11⟩; have HO11 := hide hh11; have HB11 := hide (below_then (unhide HB10) hb11); clear hb11 hh11)
        | (go_at_call 7; (with_reducible refine (unhide HAP _ _ (unhide HB9) (unhide HJ9) (unhide HH9)).mono ?_); rintro e w10 ⟨rfl, hd10, hb10⟩; have HD10 := hide hd10; have HB10 := hide hb10; clear hb10 hd10)
        | (go_at_call 6; (with_reducible refine (unhide HE1 _ (unhide HD8)).mono ?_); rintro e w9 ⟨j9, rfl, hh9, hz9, hb9⟩; have HH9 := hide hh9; have HJ9 := hide (Nat.le_trans (unhide HB8).size hz9); have HB9 := hide (below_then (unhide HB8) hb9); clear hb9 hh9 hz9)
        | (go_at_call 10; (with_reducible refine (unhide HL1 _ _ _ (unhide HB7) (unhide HP7)).mono ?_); rintro e w8 ⟨rfl, hb8⟩; have HD8 := hide ((unhide HD7).below hb8); have HB8 := hide (below_then (unhide HB7) hb8); clear hb8)
        | (go_at_call 8; (with_reducible refine (unhide HAP2 _ _ _ _ (unhide HH6)).mono ?_); rintro e w7 ⟨A7, c7, rfl, hp7, hb7⟩; have HP7 := hide hp7; have HD7 := hide ((unhide HH6).dsk.below hb7); have HB7 := hide (below_then (unhide HB6) hb7); clear hb7 hp7)
        | (go_at_call 6; (with_reducible refine (unhide HE2 _ (unhide HD5)).mono ?_); rintro e w6 ⟨j6, R6, rfl, hh6, hb6⟩; have HH6 := hide hh6; have HB6 := hide (below_then (unhide HB5) hb6); clear hb6 hh6)
        | (go_at_call 9; (with_reducible refine (unhide HRM _ _ _ _ (unhide HH4)).mono ?_); rintro e w5 ⟨rfl, hb5⟩; have HD5 := hide ((unhide HH4).dsk.below hb5); have HB5 := hide (below_then (unhide HB4) hb5); clear hb5)
        | (go_at_call 8; (with_reducible refine (unhide HA0 _ _ _ _ _ (unhide HH3)).mono ?_); rintro e w4 ⟨A4, c4, rfl, hb4⟩; have HH4 := hide ((unhide HH3).below hb4); have HB4 := hide (below_then (unhide HB3) hb4); clear hb4)
        | (go_at_call 6; (with_reducible refine (unhide HE1 _ (unhide HD0)).mono ?_); rintro e w3 ⟨j3, rfl, hh3, hz3, hb3⟩; have HH3 := hide hh3; have HB3 := hide (below_then (unhide HBL) hb3); clear hb3 hh3 hz3))
      go_ret
      exact ⟨rfl, unhide HB16⟩
end Go.Proofs.Ytpaolllkpmkgkab
