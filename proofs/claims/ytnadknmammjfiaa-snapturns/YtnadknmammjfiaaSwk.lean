/- snap's laws ask a Save and a Load of their own. -/
import Derived.Test.YtnadknmammjfiaaSmath
namespace Go.Proofs.Ytnadknmammjfiaa
open Go.RowKit
set_option linter.unusedVariables false
set_option maxRecDepth 4000

/-- Behind a Save nothing older has turned. -/
theorem Snp.save_in {w : World} {base g gs : Nat} {S : List Sct} {x y : Option (Int × List Int)} (h : Snp w base g gs S x y) (ep : Int) (hep : 0 ≤ ep ∧ ep ≤ 4294967295) (A : Option Addr) (b : List Int) (c : Nat) (hA : BysA w A b) (hB : Byt b) (hl : b.length ≤ 930) {w0 : World} (hb : Below w0.heap.size w0 w) (h0 : w0.heap.size = base) :
    Calls Try.prog 12 #[.pointer (some ⟨g, 0, none⟩), .int .u32 ep, .slice A b.length c] w fun e w' => e = .returned (.int .i64 0) ∧ Snp w' base g gs (overS S (spX x y) (snS ep b)) (if spX x y = 0 then some (ep, b) else x) (if spX x y = 0 then y else some (ep, b)) ∧ Below w0.heap.size w0 w' := by
  subst h0
  refine (h.save ep hep A b c hA hB hl).mono ?_
  rintro e w' ⟨rfl, hs, ht⟩
  have hlt := h.dsk.lt
  exact ⟨rfl, hs, hb.trans (ht.below hb.size hlt.2.2.1 hlt.2.2.2)⟩
theorem Snp.save_lit {w : World} {base g gs : Nat} {S : List Sct} {x y : Option (Int × List Int)} (h : Snp w base g gs S x y) (ep v : Int) (hep : 0 ≤ ep ∧ ep ≤ 4294967295) (hv : 0 ≤ v ∧ v ≤ 255) {w0 : World} (hb : Below w0.heap.size w0 w) (h0 : w0.heap.size = base) :
    Calls Try.prog 12 #[.pointer (some ⟨g, 0, none⟩), .int .u32 ep, .slice (some ⟨w.heap.size, 0, none⟩) 1 1] (w.alloc (.cells #[.int .u8 v] 5 (1, 2))) fun e w' => e = .returned (.int .i64 0) ∧ Snp w' base g gs (overS S (spX x y) (snS ep [v])) (if spX x y = 0 then some (ep, [v]) else x) (if spX x y = 0 then y else some (ep, [v])) ∧ Below w0.heap.size w0 w' :=
  (h.below (below_alloc (Below.refl _ _) _)).save_in ep hep (some ⟨w.heap.size, 0, none⟩) [v] 1 (bys_lit rfl rfl) (fun i => by
    match i with
    | 0 => exact hv
    | i + 1 => simp) (by simp) (below_alloc hb _) h0
theorem conv_b {w : World} {B : Option Addr} (h : BysA w B [98]) (c : Nat) : (convert 33 9 (.slice B 1 c)).run Try.prog w = .ok (.string ⟨#[98]⟩) w := by
  have := conv_any (cap := c) h
  have e : strOfNums [98] = ⟨#[98]⟩ := by decide
  rw [e] at this
  exact this
theorem sn_head (S : List Sct) (p : Nat) (ep : Int) (b : List Int) (hp : p + 16 ≤ S.length) (hl : b.length ≤ 930) : ((overS S p (snS ep b)).getD p zeroS).1.getD 0 0 = 87 := by
  have hs := snS_len ep b
  have e := over_get S p (snS ep b) (by omega) p (by omega)
  rw [if_pos (by omega), Nat.sub_self] at e
  have e2 : (overS S p (snS ep b)).getD p zeroS = (snS ep b).getD 0 zeroS := by rw [List.getD_eq_getElem?_getD, e]; rfl
  rw [e2]
  have hg : (snS ep b)[0]? = some ((snS ep b).getD 0 zeroS) := getD_some _ _ (by omega)
  exact marks_cut (entL 2 ep 0 b) 0 _ hg
theorem bytes_0 (s : Sct) : (bytes s)[0]? = some (.int .u8 (s.1.getD 0 0)) := by
  have hl := s.2.1
  unfold bytes
  rw [List.getElem?_map, List.getElem?_eq_getElem (by omega), List.getD_eq_getElem?_getD, List.getElem?_eq_getElem (by omega)]
  rfl
theorem first_cell {w : World} {e : TypeId} {g : Nat} {t : Sct} (h : SecsAt w e g [t]) : w.cell? ⟨g, 0, none⟩ = some (.int .u8 (t.1.getD 0 0)) := by
  have := h.2 0 t rfl 0 _ (bytes_0 t)
  simpa using this
/-- The disk that wakes leaves. -/
def wkS : List Sct := overS (overS (List.replicate 40 zeroS) 0 (snS 1 [97])) 16 (snS 2 [98])
theorem wkS_len : wkS.length = 40 := by
  unfold wkS
  have h1 : (overS (List.replicate 40 zeroS) 0 (snS 1 [97])).length = 40 := by rw [over_len _ _ _ (by rw [snS_len]; simp)]; simp
  rw [over_len _ _ _ (by rw [snS_len, h1]; simp), h1]
set_option maxHeartbeats 2000000 in
theorem wakesS (w : World) : Calls Try.prog 9 #[] w fun e w' => e = .returned (.bool true) ∧ Below w.heap.size w w' := by
  have HNW : Hid (Calls Try.prog 10 #[.int .i64 40] w fun e w' => ∃ g gs, e = .returned (.tuple #[.pointer (some ⟨g, 0, none⟩), .int .i64 0]) ∧ Dsk 71 82 w' w.heap.size g gs (List.replicate 40 zeroS) [] ∧ Below w.heap.size w w') := new_yes 40 (by omega) (by omega) w
  have HA : Hid (∀ (W : World) (g gs : Nat), Snp W w.heap.size g gs (List.replicate 40 zeroS) none none → Below w.heap.size w W → Calls Try.prog 12 #[.pointer (some ⟨g, 0, none⟩), .int .u32 1, .slice (some ⟨W.heap.size, 0, none⟩) 1 1] (W.alloc (.cells #[.int .u8 97] 5 (1, 2))) fun e w' => e = .returned (.int .i64 0) ∧ Snp w' w.heap.size g gs (overS (List.replicate 40 zeroS) 0 (snS 1 [97])) (some (1, [97])) none ∧ Below w.heap.size w w') := fun W g gs h hb => h.save_lit 1 97 (by omega) (by omega) hb rfl
  have HB : Hid (∀ (W : World) (g gs : Nat), Snp W w.heap.size g gs (overS (List.replicate 40 zeroS) 0 (snS 1 [97])) (some (1, [97])) none → Below w.heap.size w W → Calls Try.prog 12 #[.pointer (some ⟨g, 0, none⟩), .int .u32 2, .slice (some ⟨W.heap.size, 0, none⟩) 1 1] (W.alloc (.cells #[.int .u8 98] 5 (1, 2))) fun e w' => e = .returned (.int .i64 0) ∧ Snp w' w.heap.size g gs wkS (some (1, [97])) (some (2, [98])) ∧ Below w.heap.size w w') := fun W g gs h hb => h.save_lit 2 98 (by omega) (by omega) hb rfl
  have HL : Hid (∀ (W : World) (g gs : Nat), Snp W w.heap.size g gs wkS (some (1, [97])) (some (2, [98])) → Calls Try.prog 14 #[.pointer (some ⟨g, 0, none⟩)] W fun e w' => ∃ A c, e = .returned (.tuple #[.int .u32 2, .slice A 1 c, .int .i64 0]) ∧ BysA w' A [98] ∧ Below W.heap.size W w') := fun W g gs h => h.load_some (p := 16) (ep := 2) (b := [98]) rfl
  have HR : Hid (∀ (W : World) (g gs : Nat), Snp W w.heap.size g gs wkS (some (1, [97])) (some (2, [98])) → Calls Try.prog 22 #[.pointer (some ⟨g, 0, none⟩), .int .i64 16] W fun e w' => ∃ t : Sct, e = .returned (.tuple #[sv t, .int .i64 0]) ∧ t.1.getD 0 0 = 87 ∧ Below W.heap.size W w') := fun W g gs h => by
    refine (read_yes W h.dsk 16 (by rw [wkS_len]; omega) (by simp)).mono ?_
    rintro e w' ⟨rfl, hb⟩
    rw [readS_nil]
    refine ⟨_, rfl, ?_, hb⟩
    exact sn_head _ 16 2 [98] (by rw [over_len _ _ _ (by rw [snS_len]; simp)]; simp) (by simp)
  have HP : Hid (∀ (W : World) (g gs : Nat), Snp W w.heap.size g gs wkS (some (1, [97])) (some (2, [98])) → Calls Try.prog 24 #[.pointer (some ⟨g, 0, none⟩)] W fun e w' => e = .returned (.int .i64 0) ∧ w' = W) := fun W g gs h => pending_any W h.dsk
  obtain ⟨i36, hi36, hz36⟩ := Try.zero44
  have hcv := conv_const
  go_enter Try.func9, Try.ntmps9
  go_wp2_with (first
    | (go_at_call 10; (with_reducible refine (unhide HNW).mono ?_); rintro e w1 ⟨g, gs, rfl, hd1, hb1⟩; have HS1 := hide (snp_new hd1 (by omega)); have HB1 := hide hb1; clear hd1 hb1)
    | (go_at_call 24; (with_reducible refine (unhide HP _ g gs (unhide HS8)).mono ?_); rintro e w9 ⟨rfl, hw9⟩; have HB9 := hide (show Below w.heap.size w w9 from hw9 ▸ unhide HB8); clear hw9)
    | (go_at_call 22; (with_reducible refine (unhide HR _ g gs (unhide HS5)).mono ?_); rintro e w6 ⟨t, rfl, ht, hb6⟩; have HT6 := hide ht; have HS6 := hide ((unhide HS5).below hb6); have HB6 := hide (below_then (unhide HB5) hb6); have HY6 := hide (bysA_below (unhide HY5) hb6); clear ht hb6)
    | (go_at_call 14; (with_reducible refine (unhide HL _ g gs (unhide HS4)).mono ?_); rintro e w5 ⟨A5, c5, rfl, hy5, hb5⟩; have HY5 := hide hy5; have HS5 := hide ((unhide HS4).below hb5); have HB5 := hide (below_then (unhide HB4) hb5); clear hy5 hb5)
    | (go_at_call 14; (with_reducible refine ((unhide HS1).load_none rfl).mono ?_); rintro e w2 ⟨rfl, hb2⟩; have HS2 := hide ((unhide HS1).below hb2); have HB2 := hide (below_then (unhide HB1) hb2); clear hb2)
    | (go_at_call 12; (with_reducible refine (unhide HB _ g gs (unhide HS3) (unhide HB3)).mono ?_); rintro e w4 ⟨rfl, hs4, hb4⟩; have HS4 := hide hs4; have HB4 := hide hb4; clear hs4 hb4)
    | (go_at_call 12; (with_reducible refine (unhide HA _ g gs (unhide HS2) (unhide HB2)).mono ?_); rintro e w3 ⟨rfl, hs3, hb3⟩; have HS3 := hide hs3; have HB3 := hide hb3; clear hs3 hb3)
    | ((with_reducible refine wpList_allocT 44 i36 (sv zeroS) hi36 hz36 ?_); intro w7 hb7 hs7 hg7)
    | ((with_reducible refine wpList_storeS Try.size44 _ _ w6.heap.size 0 t ?_ ?_ (secs_there (secs_new hg7)) ?_); (focus rfl); (focus rfl); intro w8 H8; obtain ⟨hb8, hs8, hX8⟩ := var_put hb7 hs7 hg7 H8; have hc8 := first_cell hX8; rw [unhide HT6] at hc8; have HS8 := hide ((unhide HS6).below hb8); have HB8 := hide (below_then (unhide HB6) hb8); have hcb := conv_b (bysA_below (unhide HY6) hb8) c5; clear hs7 hb7 hg7 H8 hX8 hb8 hs8))
  go_ret
  exact ⟨rfl, unhide HB9⟩
end Go.Proofs.Ytnadknmammjfiaa
