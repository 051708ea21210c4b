/- What the laws' own 'wakes' of layer 4 comes to. -/
import Derived.Test.YtfceileohkngnaaJmath
namespace Go.Proofs.Ytfceileohkngnaa
open Go.RowKit
set_option linter.unusedVariables false
set_option maxRecDepth 4000

theorem scan_nil (ep : Int) (c : Nat) : scan ep [] c = ([], 0) := old_none (fun s hs => by cases hs) c
theorem jrn_zero (ep : Int) (S : List Sct) (fr : Nat) : jrnL ep S fr 0 = [] := by rw [(jrn_scan ep S fr 0).1, List.take_zero, scan_nil]
theorem hold_all {ep : Int} (hep : 0 ≤ ep ∧ ep ≤ 4294967295) {S : List Sct} {fr : Nat} {L : List (List Int)} {R : List Sct} (h : S.drop fr = entsS ep 0 L ++ R) (hF : Fits L) (hl : L.length ≤ 100000) (n : Nat) (hn : n = (entsS ep 0 L).length) : jrnL ep S fr n = L := by
  subst hn
  rw [(jrn_scan ep S fr _).1, h, List.take_left' rfl]
  have := scan_ents ep hep L 0 [] hF (by omega)
  rw [List.append_nil, scan_nil] at this
  rw [this]
  exact List.append_nil _
theorem hold_open {ep : Int} (hep : 0 ≤ ep ∧ ep ≤ 4294967295) {S : List Sct} {fr : Nat} {L : List (List Int)} {R : List Sct} (h : S.drop fr = entsS ep 0 L ++ R) (hF : Fits L) (hl : L.length ≤ 100000) (hO : Old ep R) (n : Nat) (hn : (entsS ep 0 L).length ≤ n) : jrnL ep S fr n = L ∧ jrnN ep S fr n = (entsS ep 0 L).length := by
  obtain ⟨e1, e2⟩ := jrn_scan ep S fr n
  have ht : (S.drop fr).take n = entsS ep 0 L ++ R.take (n - (entsS ep 0 L).length) := by
    rw [h, List.take_append, List.take_of_length_le hn]
  have := scan_ents ep hep L 0 (R.take (n - (entsS ep 0 L).length)) hF (by omega)
  rw [old_none (hO.take _)] at this
  rw [e1, e2, ht, this]
  exact ⟨List.append_nil _, rfl⟩
theorem hold_none {ep : Int} {S : List Sct} (hO : Old ep S) (fr n : Nat) : jrnL ep S fr n = [] ∧ jrnN ep S fr n = 0 := by
  obtain ⟨e1, e2⟩ := jrn_scan ep S fr n
  rw [e1, e2, old_none ((hO.drop fr).take n)]
  exact ⟨rfl, rfl⟩
theorem over_drop {S : List Sct} {fr at_ : Nat} {T X R : List Sct} (h : S.drop fr = X ++ R) (ha : at_ = fr + X.length) (hl : at_ + T.length ≤ S.length) : (overS S at_ T).drop fr = X ++ T ++ R.drop T.length := by
  subst ha
  unfold overS
  have h1 : S.take (fr + X.length) = S.take fr ++ X := by
    rw [List.take_add, h, List.take_left' rfl]
  have h2 : S.drop (fr + X.length + T.length) = R.drop T.length := by
    rw [Nat.add_assoc, ← List.drop_drop, h, ← List.drop_drop, List.drop_left' rfl]
  rw [h1, h2, List.append_assoc, List.append_assoc, List.drop_left' (by rw [List.length_take]; omega), List.append_assoc]
theorem hold_append {ep : Int} {S : List Sct} {fr at_ : Nat} {L : List (List Int)} {R : List Sct} (h : S.drop fr = entsS ep 0 L ++ R) (b : List Int) (ha : at_ = fr + (entsS ep 0 L).length) (hl : at_ + (entS ep L.length b).length ≤ S.length) :
    (overS S at_ (entS ep L.length b)).drop fr = entsS ep 0 (L ++ [b]) ++ R.drop (entS ep L.length b).length := by
  rw [over_drop h ha hl, entsS_snoc, Nat.zero_add]
theorem entsS_len (ep : Int) : ∀ (L : List (List Int)) (c : Nat) (b : List Int), (entsS ep c (L ++ [b])).length = (entsS ep c L).length + (b.length + 77) / 63 := by
  intro L c b
  rw [entsS_snoc, List.length_append, entS_len]

/-- The disk of 'wakes' behind its Append. -/
def wkS : List Sct := overS (List.replicate 8 zeroS) 2 (entS 5 0 [97, 98])
theorem byt_ab : Byt [97, 98] := byt_of (by simp)
theorem wk_len : (entS 5 0 [97, 98]).length = 1 := by rw [entS_len]; rfl
theorem fits_ab : Fits [[97, 98]] := fun b hb => by rw [List.mem_singleton] at hb; subst hb; exact ⟨byt_ab, by decide⟩
theorem wk_drop : wkS.drop 2 = entsS 5 0 [[97, 98]] ++ List.replicate 5 zeroS := by
  have h : (List.replicate 8 zeroS).drop 2 = entsS 5 0 [] ++ List.replicate 6 zeroS := by rw [List.drop_replicate]; rfl
  have := hold_append h [97, 98] (at_ := 2) rfl (by rw [List.length_replicate]; show 2 + (entS 5 0 [97, 98]).length ≤ 8; rw [wk_len]; omega)
  unfold wkS
  refine this.trans ?_
  show entsS 5 0 [[97, 98]] ++ (List.replicate 6 zeroS).drop (entS 5 0 [97, 98]).length = _
  rw [wk_len, List.drop_replicate]
theorem wk_Slen : wkS.length = 8 := by unfold wkS; rw [over_len _ _ _ (by rw [wk_len, List.length_replicate]; omega), List.length_replicate]
theorem wk_ents : (entsS 5 0 [[97, 98]]).length = 1 := by show (entS 5 0 [97, 98] ++ []).length = 1; rw [List.append_nil, wk_len]
theorem wk_5 : jrnL 5 wkS 2 4 = [[97, 98]] ∧ jrnN 5 wkS 2 4 = 1 := by
  have := hold_open (ep := 5) (by omega) wk_drop fits_ab (by decide) (old_zero 5 5) 4 (by rw [wk_ents]; omega)
  rw [wk_ents] at this
  exact this
theorem wk_51 : jrnL 5 wkS 2 1 = [[97, 98]] := hold_all (by omega) wk_drop fits_ab (by decide) 1 wk_ents.symm
theorem wk_6 : jrnL 6 wkS 2 4 = [] ∧ jrnN 6 wkS 2 4 = 0 := by
  refine hold_none ?_ 2 4
  unfold wkS overS
  exact (((old_zero 6 8).take 2).app (old_ent (by omega) (by decide) 0 [97, 98] byt_ab)).app ((old_zero 6 8).drop _)
theorem wk_0 : jrnL 5 (List.replicate 8 zeroS) 2 4 = [] ∧ jrnN 5 (List.replicate 8 zeroS) 2 4 = 0 := hold_none (old_zero 5 8) 2 4
theorem wk_flk : flk [[97], [98]] 2 = [97, 98] := rfl
theorem ab_str : strOfNums [97, 98] = ⟨#[97, 98]⟩ := by decide +kernel

theorem parts_two {W : World} {N a b ca cb : Nat} (h0 : W.cell? ⟨N, 0, none⟩ = some (.slice (some ⟨a, 0, none⟩) 1 ca)) (h1 : W.cell? ⟨N, 1, none⟩ = some (.slice (some ⟨b, 0, none⟩) 1 cb)) (ha : BysA W (some ⟨a, 0, none⟩) [97]) (hb : BysA W (some ⟨b, 0, none⟩) [98]) : PartsA W (some ⟨N, 0, none⟩) [[97], [98]] := by
  intro _
  refine ⟨N, 0, rfl, fun i hi => ?_⟩
  match i, hi with
  | 0, _ => exact ⟨_, _, h0, ha⟩
  | 1, _ => exact ⟨_, _, h1, hb⟩
  | i + 2, hi => exact absurd hi (by simp only [List.length_cons, List.length_nil]; omega)
theorem byts_ab2 : Byts [[97], [98]] := fun i => by
  match i with
  | 0 => exact ⟨byt_of (by simp), by decide⟩
  | 1 => exact ⟨byt_of (by simp), by decide⟩
  | i + 2 => exact ⟨byt_of (by simp), Nat.zero_le _⟩
theorem cell_new (w : World) (c : Array Value) (t : TypeId) (r : Nat × Nat) (i : Nat) : (w.alloc (.cells c t r)).cell? ⟨w.heap.size, i, none⟩ = c[i]? := cell_of_row _ _ _ _ _ _ (heap_alloc_last w _)
theorem parts_lit (w : World) : PartsA (((w.alloc (.cells #[.int .u8 97] 5 (1, 2))).alloc (.cells #[.int .u8 98] 5 (1, 2))).alloc (.cells #[.slice (some ⟨w.heap.size, 0, none⟩) 1 1, .slice (some ⟨w.heap.size + 1, 0, none⟩) 1 1] 23)) (some ⟨w.heap.size + 1 + 1, 0, none⟩) [[97], [98]] := by
  have e1 : (w.alloc (.cells #[.int .u8 97] 5 (1, 2))).heap.size = w.heap.size + 1 := by simp
  have e2 : ((w.alloc (.cells #[.int .u8 97] 5 (1, 2))).alloc (.cells #[.int .u8 98] 5 (1, 2))).heap.size = w.heap.size + 1 + 1 := by simp
  have a1 := cell_new w #[.int .u8 97] 5 (1, 2) 0
  have a2 := cell_new (w.alloc (.cells #[.int .u8 97] 5 (1, 2))) #[.int .u8 98] 5 (1, 2) 0
  have a3 := cell_new ((w.alloc (.cells #[.int .u8 97] 5 (1, 2))).alloc (.cells #[.int .u8 98] 5 (1, 2))) #[.slice (some ⟨w.heap.size, 0, none⟩) 1 1, .slice (some ⟨w.heap.size + 1, 0, none⟩) 1 1] 23 (0, 0)
  rw [e2] at a3
  rw [e1] at a2
  have b1 : BysA (w.alloc (.cells #[.int .u8 97] 5 (1, 2))) (some ⟨w.heap.size, 0, none⟩) [97] := bysA_block fun i hi => by
    obtain rfl : i = 0 := by simp at hi; exact hi
    exact a1
  have b2 : BysA ((w.alloc (.cells #[.int .u8 97] 5 (1, 2))).alloc (.cells #[.int .u8 98] 5 (1, 2))) (some ⟨w.heap.size + 1, 0, none⟩) [98] := bysA_block fun i hi => by
    obtain rfl : i = 0 := by simp at hi; exact hi
    exact a2
  exact parts_two (a3 0) (a3 1) (bysA_alloc (bysA_alloc b1 _) _) (bysA_alloc b2 _)

theorem conv_ab {w : World} {B : Option Addr} (h : BysA w B [97, 98]) (c : Nat) : (convert 23 9 (.slice B 2 c)).run Try.prog w = .ok (.string ⟨#[97, 98]⟩) w := by
  have := conv_any (cap := c) h
  rw [ab_str] at this
  exact this

set_option maxRecDepth 100000 in
set_option maxHeartbeats 4000000 in
theorem wakesJ (w : World) : Calls Try.prog 16 #[] w fun e w' => e = .returned (.bool true) ∧ Below w.heap.size w w' := by
  have HNW : Hid (Calls Try.prog 17 #[.int .i64 8] w fun e w' => ∃ g gs, e = .returned (.tuple #[.pointer (some ⟨g, 0, none⟩), .int .i64 0]) ∧ Dsk 102 120 w' w.heap.size g gs (List.replicate 8 zeroS) [] ∧ Below w.heap.size w w') := new_yes 8 (by omega) (by omega) w
  have HOP : Hid (∀ (W : World) (g gs : Nat), Dsk 102 120 W w.heap.size g gs (List.replicate 8 zeroS) [] → Calls Try.prog 19 #[.pointer (some ⟨g, 0, none⟩), .int .i64 2, .int .i64 6, .int .u32 5] W fun e w' => ∃ j, e = .returned (.tuple #[.pointer (some ⟨j, 0, none⟩), .int .i64 0]) ∧ Jr w' j g 2 6 5 2 ((0 : Nat) : Int) ∧ W.heap.size ≤ j ∧ Below W.heap.size W w') := fun W g gs hd => by
    have := open_yes W hd 2 6 5 (by omega) (by simp) (by omega)
    rw [show 6 - 2 = 4 from rfl, wk_0.1, wk_0.2] at this
    exact this
  have HAP : Hid (∀ (W : World) (g gs j : Nat) (A : Option Addr) (c : Nat), Dsk 102 120 W w.heap.size g gs (List.replicate 8 zeroS) [] → Jr W j g 2 6 5 2 ((0 : Nat) : Int) → PartsA W A [[97], [98]] → Calls Try.prog 21 #[.pointer (some ⟨j, 0, none⟩), .slice A 2 c] W fun e w' => e = .returned (.int .i64 0) ∧ Dsk 102 120 w' w.heap.size g gs wkS [] ∧ Jr w' j g 2 6 5 3 ((1 : Nat) : Int) ∧ TurnJ w.heap.size g gs j W w') := fun W g gs j A c hd hj hp => by
    have := append_yes hd (ep := 5) (by omega) (ct := 0) (by omega) hj (by omega) (by simp) A [[97], [98]] c hp byts_ab2 (by decide) (by decide) byt_ab (by decide)
    rw [show ([[97], [98]] : List (List Int)).length = 2 from rfl, wk_flk, lay_over _ _ _ (by rw [wk_len]; omega) (by rw [wk_len, List.length_replicate]; omega), wk_len] at this
    exact this
  have HO5 : Hid (∀ (W : World) (g gs : Nat), Dsk 102 120 W w.heap.size g gs wkS [] → Calls Try.prog 19 #[.pointer (some ⟨g, 0, none⟩), .int .i64 2, .int .i64 6, .int .u32 5] W fun e w' => ∃ j, e = .returned (.tuple #[.pointer (some ⟨j, 0, none⟩), .int .i64 0]) ∧ Jr w' j g 2 6 5 3 ((1 : Nat) : Int) ∧ W.heap.size ≤ j ∧ Below W.heap.size W w') := fun W g gs hd => by
    have := open_yes W hd 2 6 5 (by omega) (by rw [wk_Slen]; omega) (by omega)
    rw [show 6 - 2 = 4 from rfl, wk_5.1, wk_5.2] at this
    exact this
  have HO6 : Hid (∀ (W : World) (g gs : Nat), Dsk 102 120 W w.heap.size g gs wkS [] → Calls Try.prog 19 #[.pointer (some ⟨g, 0, none⟩), .int .i64 2, .int .i64 6, .int .u32 6] W fun e w' => ∃ j, e = .returned (.tuple #[.pointer (some ⟨j, 0, none⟩), .int .i64 0]) ∧ Jr w' j g 2 6 6 2 ((0 : Nat) : Int) ∧ W.heap.size ≤ j ∧ Below W.heap.size W w') := fun W g gs hd => by
    have := open_yes W hd 2 6 6 (by omega) (by rw [wk_Slen]; omega) (by omega)
    rw [show 6 - 2 = 4 from rfl, wk_6.1, wk_6.2] at this
    exact this
  have HA5 : Hid (∀ (W : World) (g gs j : Nat), Dsk 102 120 W w.heap.size g gs wkS [] → Jr W j g 2 6 5 3 ((1 : Nat) : Int) → Calls Try.prog 29 #[.pointer (some ⟨j, 0, none⟩)] W fun e w' => ∃ N off a c c', e = .returned (.slice (some ⟨N, off, none⟩) 1 c) ∧ w'.cell? ⟨N, off, none⟩ = some (.slice a 2 c') ∧ BysA w' a [97, 98] ∧ Below W.heap.size W w') := fun W g gs j hd hj => by
    have := all_any W hd hj (by omega) (by rw [wk_Slen]; omega) (by omega)
    rw [show 3 - 2 = 1 from rfl, wk_51] at this
    refine this.mono ?_
    rintro e w' ⟨A, c, rfl, hp, hb⟩
    obtain ⟨N, off, rfl, hc⟩ := hp (by simp)
    obtain ⟨a, c', h1, h2⟩ := hc 0 (by simp)
    exact ⟨N, off, a, c, c', rfl, h1, h2, hb⟩
  have HA6 : Hid (∀ (W : World) (g gs j : Nat), Dsk 102 120 W w.heap.size g gs wkS [] → Jr W j g 2 6 6 2 ((0 : Nat) : Int) → Calls Try.prog 29 #[.pointer (some ⟨j, 0, none⟩)] W fun e w' => ∃ A c, e = .returned (.slice A 0 c) ∧ Below W.heap.size W w') := fun W g gs j hd hj => by
    have := all_any W hd hj (by omega) (by rw [wk_Slen]; omega) (by omega)
    rw [show 2 - 2 = 0 from rfl, jrn_zero] at this
    refine this.mono ?_
    rintro e w' ⟨A, c, rfl, hp, hb⟩
    exact ⟨A, c, rfl, hb⟩
  have HRM : Hid (∀ (W : World) (g j : Nat), Jr W j g 2 6 5 3 ((1 : Nat) : Int) → Calls Try.prog 30 #[.pointer (some ⟨j, 0, none⟩)] W fun e w' => e = .returned (.int .i64 3) ∧ ∃ n, w' = W.drewN n) := fun W g j hj => room_any hj (by omega) (by omega)
  have HPE : Hid (∀ (W : World) (g gs : Nat), Dsk 102 120 W w.heap.size g gs wkS [] → Calls Try.prog 32 #[.pointer (some ⟨g, 0, none⟩)] W fun e w' => e = .returned (.int .i64 0) ∧ w' = W) := fun W g gs hd => pending_any W hd
  have hcv := conv_const
  go_enter Try.func16, Try.ntmps16
  go_wp2_with (first
    | (go_at_call 17; (with_reducible refine (unhide HNW).mono ?_); rintro e w1 ⟨g, gs, rfl, hd1, hb1⟩; have HD1 := hide hd1; have HB1 := hide hb1; clear hd1 hb1)
    | (go_at_call 21; (with_reducible refine (unhide HAP _ g gs j _ _ ?_ ?_ (parts_lit w2)).mono ?_); (focus (exact (unhide HD2).below (below_alloc (below_alloc (below_alloc (Below.refl _ _) _) _) _))); (focus (exact (unhide HJ2).below (below_alloc (below_alloc (below_alloc (Below.refl _ _) _) _) _))); rintro e w3 ⟨rfl, hd3, hj3, ht3⟩; have HD3 := hide hd3; have HJ3 := hide hj3; have HB3 := hide ((below_alloc (below_alloc (below_alloc (unhide HB2) _) _) _).trans (ht3.below (below_alloc (below_alloc (below_alloc (unhide HB2) _) _) _).size (unhide HD2).lt.2.2.1 (unhide HD2).lt.2.2.2 (unhide HJL))); clear hd3 hj3 ht3)
    | (go_at_call 30; (with_reducible refine (unhide HRM _ _ _ (unhide HJ3)).mono ?_); rintro e w4 ⟨rfl, k, hw4⟩; have hb4 : Below w3.heap.size w3 w4 := (by rw [hw4]; exact below_drewN (Below.refl _ _) _); have HD4 := hide ((unhide HD3).below hb4); have HB4 := hide (below_then (unhide HB3) hb4); clear hb4 hw4)
    | (go_at_call 19; (with_reducible refine (unhide HO6 _ _ _ (unhide HD5)).mono ?_); rintro e w6 ⟨l, rfl, hj6, hz6, hb6⟩; have HJ6 := hide hj6; have HK6 := hide ((unhide HJ5).below hb6); have HD6 := hide ((unhide HD5).below hb6); have HB6 := hide (below_then (unhide HB5) hb6); clear hj6 hb6)
    | (go_at_call 19; (with_reducible refine (unhide HO5 _ _ _ (unhide HD4)).mono ?_); rintro e w5 ⟨k5, rfl, hj5, hz5, hb5⟩; have HJ5 := hide hj5; have HD5 := hide ((unhide HD4).below hb5); have HB5 := hide (below_then (unhide HB4) hb5); clear hj5 hb5)
    | (go_at_call 32; (with_reducible refine (unhide HPE _ _ _ (unhide HD9)).mono ?_); rintro e w10 ⟨rfl, hw10⟩; have HB10 := hide (show Below w.heap.size w w10 from hw10 ▸ unhide HB9); clear hw10)
    | (go_at_call 29; (with_reducible refine (unhide HA6 _ g gs l (unhide HD8) (unhide HL8)).mono ?_); rintro e w9 ⟨A9, c9, rfl, hb9⟩; have HD9 := hide ((unhide HD8).below hb9); have HB9 := hide (below_then (unhide HB8) hb9); clear hb9)
    | (go_at_call 29; (with_reducible refine (unhide HA5 _ g gs k5 (unhide HD7) (unhide HK7)).mono ?_); rintro e w8 ⟨N8, off8, a8, c8, d8, rfl, hc8, hy8, hb8⟩; have hcs := conv_ab hy8 d8; have HL8 := hide ((unhide HL7).below hb8); have HD8 := hide ((unhide HD7).below hb8); have HB8 := hide (below_then (unhide HB7) hb8); clear hb8 hy8)
    | (go_at_call 29; (with_reducible refine (unhide HA5 _ g gs k5 (unhide HD6) (unhide HK6)).mono ?_); rintro e w7 ⟨N7, off7, a7, c7, d7, rfl, hc7, hy7, hb7⟩; have HK7 := hide ((unhide HK6).below hb7); have HL7 := hide ((unhide HJ6).below hb7); have HD7 := hide ((unhide HD6).below hb7); have HB7 := hide (below_then (unhide HB6) hb7); clear hb7 hy7 hc7)
    | (go_at_call 19; (with_reducible refine (unhide HOP _ _ _ (unhide HD1)).mono ?_); rintro e w2 ⟨j, rfl, hj2, hz2, hb2⟩; have HJ2 := hide hj2; have HD2 := hide ((unhide HD1).below hb2); have HB2 := hide (below_then (unhide HB1) hb2); have HJL := hide (Nat.le_trans (unhide HB1).size hz2); clear hj2 hb2))
  go_ret
  exact ⟨rfl, unhide HB10⟩
end Go.Proofs.Ytfceileohkngnaa
