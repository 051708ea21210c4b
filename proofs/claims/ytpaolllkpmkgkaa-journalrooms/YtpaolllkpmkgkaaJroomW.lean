/- The walk of JournalRooms. -/
import Derived.Test.YtpaolllkpmkgkaaJlaw
namespace Go.Proofs.Ytpaolllkpmkgkaa
open Go.RowKit
set_option linter.unusedVariables false
set_option maxRecDepth 4000

theorem jroom_no (A : Option Addr) (n cap : Nat) (x : Int) (h : 60 < n) (hn : n ≤ maxLen) (w : World) :
    Calls Try.prog 8 #[.slice A n cap, .int .u8 x] w fun e w' => e = .returned (.bool true) ∧ Below w.heap.size w w' := by
  have hml : maxLen = 9223372036854775807 := rfl
  rw [hml] at hn
  clear hml
  have h' : (60 : Int) < (n : Int) := by omega
  go_enter Try.func8, Try.ntmps8
  go_wp2_with (go_at_call 20; refine (wakesJ _).mono ?_; rintro e w3 ⟨rfl, hb⟩)
  go_ret
  exact ⟨rfl, hb⟩

set_option maxRecDepth 100000 in
set_option maxHeartbeats 4000000 in
theorem jroom_walk (A : Option Addr) (pss : List (List Int)) (cap : Nat) (x : Int) (hx : 0 ≤ x ∧ x ≤ 255) (w : World) (hA : PartsA w A pss) (hl : pss.length ≤ 60) (hB : ∀ q ∈ pss, Byt q ∧ q.length ≤ maxLen) :
    Calls Try.prog 8 #[.slice A pss.length cap, .int .u8 x] w fun e w' => e = .returned (.bool true) ∧ Below w.heap.size w w' := by
  obtain ⟨sz, hsz, hs4, hs23⟩ : ∃ sz : Nat, 4 + x % 20 = (sz : Int) ∧ 4 ≤ sz ∧ sz ≤ 23 := ⟨(4 + x % 20).toNat, by omega, by omega, by omega⟩
  have HNW := hide (fun (W : World) => new_yes sz (by omega) (by omega) W)
  have HOP : Hid (∀ (W : World) (base g gs : Nat), Dsk 106 124 W base g gs (List.replicate sz zeroS) [] → Calls Try.prog 23 #[.pointer (some ⟨g, 0, none⟩), .int .i64 0, .int .i64 (sz : Int), .int .u32 3] W fun e w' => ∃ j, e = .returned (.tuple #[.pointer (some ⟨j, 0, none⟩), .int .i64 0]) ∧ Hold w' base g gs (List.replicate sz zeroS) j 0 sz 3 [] (List.replicate sz zeroS) ∧ W.heap.size ≤ j ∧ Below W.heap.size W w') := fun W base g gs hd =>
    open_hold W hd 0 sz 3 (by omega) (by omega) (by simp) (by omega) [] (List.replicate sz zeroS) rfl (fun b hb => by cases hb) (by simp) (old_zero 3 sz) (by simp [entsS])
  have HA := hide hA
  have HBB := hide hB
  have hl' : ¬ (60 : Int) < (pss.length : Int) := by omega
  clear hA hB
  go_enter Try.func8, Try.ntmps8
  go_wp2_with (first
    | (go_at_call 21; (with_reducible refine (unhide HNW _).mono ?_); rintro e w1 ⟨g, gs, rfl, hd1, hb1⟩; have HD1 := hide hd1; have HB1 := hide hb1; clear hd1 hb1)
    | (go_at_call 23; (with_reducible refine (unhide HOP _ _ _ _ (unhide HD1)).mono ?_); rintro e w2 ⟨j, rfl, hh2, hz2, hb2⟩; have HH2 := hide hh2; have HB2 := hide (below_then (unhide HB1) hb2); have HJL := hide (Nat.le_trans (unhide HB1).size hz2); clear hh2 hb2))
  clear HNW HOP hsz hx
  have hez : (entsS 3 0 []).length = 0 := rfl
  go_loopw [10, 11, 12] (fun a b i wr => ∃ (L : List (List Int)) (S R : List Sct) (k : Nat), k ≤ pss.length ∧ i = .int .i64 k ∧ b = .int .i64 L.length ∧ a = .int .i64 ((sz - (0 + (entsS 3 0 L).length) : Nat) : Int) ∧ L.length ≤ k ∧ Hold wr w.heap.size g gs S j 0 sz 3 L R ∧ Below w.heap.size w wr) (fun _ _ i _ => pss.length - (intOf i).toNat)
  case atStart => exact ⟨[], _, _, 0, Nat.zero_le _, rfl, rfl, rfl, Nat.le_refl _, unhide HH2, unhide HB2⟩
  case round =>
    obtain ⟨L, S, R, k, hk, rfl, rfl, rfl, hLk, hh, hbel⟩ := hrel
    have HH := hide hh
    have HBL := hide hbel
    obtain ⟨d1, d2, d3, d4⟩ := hh.dsk.lt
    have HDB := hide (And.intro d3 d4)
    have hrm := hh.room
    have HLK := hide hLk
    obtain ⟨r, hr⟩ : ∃ r, sz - (0 + (entsS 3 0 L).length) = r := ⟨_, rfl⟩
    clear hh hbel d1 d2 d3 d4 HH2 HB2 hez
    by_cases hlt : k < pss.length
    · obtain ⟨b, off, rfl, hc⟩ := (unhide HA) (by rintro rfl; simp at hlt)
      obtain ⟨a', c', hck0, hby0⟩ := hc k hlt
      have hck : wr.cell? ⟨b, off + k, none⟩ = some (.slice a' (pss.getD k []).length c') := by rw [(unhide HBL).cell (World.block_lt_of_cell? _ _ hck0)]; exact hck0
      have hby := bysA_below hby0 (unhide HBL)
      obtain ⟨hBp, hlp⟩ := (unhide HBB) (pss.getD k []) (by rw [List.getD_eq_getElem?_getD, List.getElem?_eq_getElem hlt]; exact List.getElem_mem hlt)
      have hml : maxLen = 9223372036854775807 := rfl
      rw [hml] at hlp
      have hlt' : (k : Int) < (pss.length : Int) := by omega
      generalize pss.getD k [] = p at *
      clear hc hck0 hby0 hml
      by_cases hp : 2000 < p.length
      · have hp' : (2000 : Int) < (p.length : Int) := by omega
        clear hby hBp
        generalize p.length = pl at *
        go_wp2_with (go_at_call 20; refine (wakesJ _).mono ?_; rintro e w3 ⟨rfl, hb3⟩; have HB3 := hide (below_then (unhide HBL) hb3); clear hb3)
        go_ret
        exact ⟨rfl, unhide HB3⟩
      · have hp' : ¬ (2000 : Int) < (p.length : Int) := by omega
        have hb1 : Below wr.heap.size wr (wr.alloc (.cells #[.slice a' p.length c'] 23)) := below_alloc (Below.refl _ _) _
        have HP1 := hide (parts_hdr (W := wr.alloc (.cells #[.slice a' p.length c'] 23)) (N := wr.heap.size) (cell_at _ _ _ _ _ 0 rfl) (bysA_below hby hb1))
        have hq : ((p.length : Int) + 15 + 62) / 63 = (((p.length + 77) / 63 : Nat) : Int) := by omega
        by_cases hfit : (p.length + 77) / 63 ≤ r
        · have HAP : Hid (Calls Try.prog 25 #[.pointer (some ⟨j, 0, none⟩), .slice (some ⟨wr.heap.size, 0, none⟩) 1 1] (wr.alloc (.cells #[.slice a' p.length c'] 23)) fun e w' => e = .returned (.int .i64 0) ∧ ∃ S' R', Hold w' w.heap.size g gs S' j 0 sz 3 (L ++ [p]) R' ∧ Below w.heap.size w w') := by
            refine ((unhide HH).below hb1 |>.append _ [p] 1 1 rfl (unhide HP1) (byts_hdr hBp (by show _ ≤ 9223372036854775807; omega)) (by simp) p (flk_one p) (by omega) hBp (by omega) (by omega)).mono ?_
            rintro e w' ⟨rfl, hh', ht'⟩
            have hbw := below_then (unhide HBL) hb1
            exact ⟨rfl, _, _, hh', hbw.trans (ht'.below hbw.size (unhide HDB).1 (unhide HDB).2 (unhide HJL))⟩
          have hel := entsS_len 3 L 0 p
          have HRL : Hid (sz - (0 + (entsS 3 0 (L ++ [p])).length) = r - (p.length + 77) / 63) := by show _ = _; rw [hel]; omega
          have HLL : Hid ((L ++ [p]).length = L.length + 1) := by show _ = _; simp
          have HRM := hide (fun (W : World) (S' R' : List Sct) (h : Hold W w.heap.size g gs S' j 0 sz 3 (L ++ [p]) R') => h.roomy)
          have HAL := hide (fun (W : World) (S' R' : List Sct) (h : Hold W w.heap.size g gs S' j 0 sz 3 (L ++ [p]) R') => h.all)
          rw [unhide HRL] at HRM
          rw [unhide HLL] at HAL
          generalize (p.length + 77) / 63 = q at *
          have hqr : (q : Int) ≤ (r : Int) := by omega
          have hrq : ((r - q : Nat) : Int) = (r : Int) - (q : Int) := by omega
          rw [hrq] at HRM
          have HRQ := hide hrq
          clear hrq
          rw [hr]
          have hr100 : r ≤ 100 := by omega
          clear hby hBp hb1 hel hr hrm
          generalize p.length = pl at *
          have hL60 : L.length ≤ 60 := by omega
          clear hLk hs4 hs23 hl
          go_wp2_with (first
            | (go_at_call 25; (with_reducible refine (unhide HAP).mono ?_); rintro e w3 ⟨rfl, S', R', hh3, hb3⟩; have HH3 := hide hh3; have HB3 := hide hb3; clear hh3 hb3)
            | (go_at_call 34; (with_reducible refine (unhide HRM _ _ _ (unhide HH3)).mono ?_); rintro e w4 ⟨rfl, hb4⟩; have HH4 := hide ((unhide HH3).below hb4); have HB4 := hide (below_then (unhide HB3) hb4); clear hb4)
            | (go_at_call 33; (with_reducible refine (unhide HAL _ _ _ (unhide HH4)).mono ?_); rintro e w5 ⟨A5, c5, rfl, hp5, hb5⟩; have HH5 := hide ((unhide HH4).below hb5); have HB5 := hide (below_then (unhide HB4) hb5); clear hb5 hp5))
          go_roundw
          case rel => exact ⟨L ++ [p], S', R', k + 1, by omega, by go_num, by rw [unhide HLL]; go_num, by rw [unhide HRL, unhide HRQ], by rw [unhide HLL]; have := unhide HLK; omega, unhide HH5, unhide HB5⟩
          case measure => simp [intOf]; omega
        · have HAP : Hid (Calls Try.prog 25 #[.pointer (some ⟨j, 0, none⟩), .slice (some ⟨wr.heap.size, 0, none⟩) 1 1] (wr.alloc (.cells #[.slice a' p.length c'] 23)) fun e w' => e = .returned (.int .i64 12) ∧ Hold w' w.heap.size g gs S j 0 sz 3 L R ∧ Below w.heap.size w w') := by
            refine ((unhide HH).below hb1 |>.full _ [p] 1 1 rfl (unhide HP1) (by simp) p (flk_one p) (by omega) (by omega)).mono ?_
            rintro e w' ⟨rfl, hb'⟩
            exact ⟨rfl, ((unhide HH).below hb1).below hb', below_then (below_then (unhide HBL) hb1) hb'⟩
          have HRM := hide (fun (W : World) (h : Hold W w.heap.size g gs S j 0 sz 3 L R) => h.roomy)
          have HAL := hide (fun (W : World) (h : Hold W w.heap.size g gs S j 0 sz 3 L R) => h.all)
          have HR := hide hr
          rw [hr] at HRM
          generalize (p.length + 77) / 63 = q at *
          have hqr : ¬ (q : Int) ≤ (r : Int) := by omega
          rw [hr]
          have hr100 : r ≤ 100 := by omega
          clear hby hBp hb1 hr hrm
          generalize p.length = pl at *
          have hL60 : L.length ≤ 60 := by omega
          clear hLk hs4 hs23 hl
          go_wp2_with (first
            | (go_at_call 25; (with_reducible refine (unhide HAP).mono ?_); rintro e w3 ⟨rfl, hh3, hb3⟩; have HH3 := hide hh3; have HB3 := hide hb3; clear hh3 hb3)
            | (go_at_call 34; (with_reducible refine (unhide HRM _ (unhide HH3)).mono ?_); rintro e w4 ⟨rfl, hb4⟩; have HH4 := hide ((unhide HH3).below hb4); have HB4 := hide (below_then (unhide HB3) hb4); clear hb4)
            | (go_at_call 33; (with_reducible refine (unhide HAL _ (unhide HH4)).mono ?_); rintro e w5 ⟨A5, c5, rfl, hp5, hb5⟩; have HH5 := hide ((unhide HH4).below hb5); have HB5 := hide (below_then (unhide HB4) hb5); clear hb5 hp5))
          go_roundw
          case rel => exact ⟨L, S, R, k + 1, by omega, by go_num, rfl, by rw [unhide HR], by have := unhide HLK; omega, unhide HH5, unhide HB5⟩
          case measure => simp [intOf]; omega
    · obtain rfl : k = pss.length := by omega
      have HNX : Hid (Calls Try.prog 28 #[.pointer (some ⟨j, 0, none⟩), .int .u32 4] wr fun e w' => e = .returned (.tuple #[]) ∧ Hold w' w.heap.size g gs S j 0 sz 4 [] (S.drop 0) ∧ Below w.heap.size w w') := by
        refine ((unhide HH).next 4 (by omega) (unhide HJL)).mono ?_
        rintro e w' ⟨rfl, hh', ht'⟩
        exact ⟨rfl, hh', (unhide HBL).trans (ht'.below (unhide HBL).size (unhide HDB).1 (unhide HDB).2 (unhide HJL))⟩
      have HRM : Hid (∀ (W : World), Hold W w.heap.size g gs S j 0 sz 4 [] (S.drop 0) → Calls Try.prog 34 #[.pointer (some ⟨j, 0, none⟩)] W fun e w' => e = .returned (.int .i64 (sz : Int)) ∧ Below W.heap.size W w') := fun W h => h.roomy
      have HAL : Hid (∀ (W : World), Hold W w.heap.size g gs S j 0 sz 4 [] (S.drop 0) → Calls Try.prog 33 #[.pointer (some ⟨j, 0, none⟩)] W fun e w' => ∃ A c, e = .returned (.slice A 0 c) ∧ Below W.heap.size W w') := fun W h => by
        refine h.all.mono ?_
        rintro e w' ⟨A, c, rfl, _, hb⟩
        exact ⟨A, c, rfl, hb⟩
      clear hr
      go_wp2_with (first
        | (go_at_call 28; (with_reducible refine (unhide HNX).mono ?_); rintro e w3 ⟨rfl, hh3, hb3⟩; have HH3 := hide hh3; have HB3 := hide hb3; clear hh3 hb3)
        | (go_at_call 34; (with_reducible refine (unhide HRM _ (unhide HH3)).mono ?_); rintro e w4 ⟨rfl, hb4⟩; have HH4 := hide ((unhide HH3).below hb4); have HB4 := hide (below_then (unhide HB3) hb4); clear hb4)
        | (go_at_call 33; (with_reducible refine (unhide HAL _ (unhide HH4)).mono ?_); rintro e w5 ⟨A5, c5, rfl, hb5⟩; have HB5 := hide (below_then (unhide HB4) hb5); clear hb5)
        | (go_at_call 20; refine (wakesJ _).mono ?_; rintro e w6 ⟨rfl, hb6⟩; have HB6 := hide (below_then (unhide HB5) hb6); clear hb6))
      go_ret
      exact ⟨rfl, unhide HB6⟩
end Go.Proofs.Ytpaolllkpmkgkaa
