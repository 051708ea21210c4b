/- Contract: wakes. -/
import Derived.Test.YtcakiohpkebmpaaFlush
namespace Go.Proofs.Ytcakiohpkebmpaa
open Go.RowKit
set_option linter.unusedVariables false

/-- A disk that was made behind w0, and nothing of w0 has turned. -/
def St (w0 w : World) (g gs : Nat) (S : List Sct) (P : List (Nat × Sct)) : Prop := Dsk 62 65 w w0.heap.size g gs S P ∧ Below w0.heap.size w0 w
theorem St.below {w0 w w' : World} {g gs : Nat} {S : List Sct} {P : List (Nat × Sct)} (h : St w0 w g gs S P) (k : Below w.heap.size w w') : St w0 w' g gs S P := ⟨h.1.below k, below_then h.2 k⟩
theorem St.turned {w0 w w' : World} {g gs : Nat} {S S' : List Sct} {P P' : List (Nat × Sct)} (h : St w0 w g gs S P) (d : Dsk 62 65 w' w0.heap.size g gs S' P') (k : Turned 65 w0.heap.size g gs w w') : St w0 w' g gs S' P' :=
  ⟨d, h.2.trans (k.below h.2.size h.1.lt.2.2.1 h.1.lt.2.2.2)⟩
/-- A variable of sectors beside the disk stands through a call on it. -/
theorem secs_turned {tW : TypeId} {w w' : World} {base g gs : Nat} {e : TypeId} {b : Nat} {S : List Sct} (h : SecsAt w e b S) (k : Turned tW base g gs w w') (h1 : b ≠ g) (h2 : b ≠ gs) (h3 : e ≠ tW) : SecsAt w' e b S := by
  refine h.of_block (k.block b h.lt h1 h2 (.inr ?_))
  intro cur fr hc
  obtain ⟨⟨cur', hs, _⟩, _⟩ := h
  rw [hs] at hc
  cases hc
  exact h3 rfl

theorem bools_new (w : World) (K : List Bool) : BoolsA (w.alloc (.cells (K.map Value.bool).toArray 4)) (some ⟨w.heap.size, 0, none⟩) K := by
  refine fun _ => ⟨w.heap.size, 0, rfl, fun j u hj => ?_⟩
  rw [cell_of_row _ _ _ _ _ _ (heap_alloc_last w _)]
  simpa using hj
theorem safe_new {w0 w w' : World} {g gs : Nat} {S : List Sct} {P : List (Nat × Sct)} (h : St w0 w g gs S P) (hb : Below w.heap.size w w') {b : Nat} {cur : Array Value} (hw : w.heap.size ≤ b) (hg : w'.heap[b]? = some (.cells cur 4 (0, 0))) : Safe 65 w' w0.heap.size g gs b := by
  obtain ⟨h1, h2, _⟩ := h.1.lt
  refine ⟨lt_of_get hg, by omega, by omega, .inr ?_⟩
  intro cur' fr hc
  rw [hg] at hc
  cases hc

theorem full_get0 : zeroS.1.getD 0 0 = 0 := full_get 0 (by omega) 0 (by omega)

set_option maxHeartbeats 1000000 in
theorem wakes_any (w : World) : Calls Try.prog 9 #[] w fun e w' => e = .returned (.bool true) ∧ Below w.heap.size w w' := by
  obtain ⟨i36, hi36, hz36⟩ := Try.zero36
  go_enter Try.func9, Try.ntmps9
  go_wp2_with fail
  refine (new_yes 4 (by omega) (by omega) _).mono ?_
  rintro e w1 ⟨g, gs, rfl, hd1, hb1⟩
  have H1 : Hid (St w w1 g gs (List.replicate 4 zeroS) []) := ⟨hd1, hb1⟩
  clear hd1 hb1
  go_wp2_with fail
  refine (full_any 7 (by omega) _).mono ?_
  rintro e w2 ⟨rfl, hb2⟩
  have H2 := hide ((unhide H1).below hb2)
  generalize fullS 7 _ = F7
  clear H1 hb2
  go_wp2_with fail
  refine (write_yes w2 (unhide H2).1 1 (by simp) F7 (by simp)).mono ?_
  rintro e w3 ⟨rfl, hd3, ht3⟩
  have H3 := hide ((unhide H2).turned hd3 ht3)
  clear H2 hd3 ht3
  go_wp2_with fail
  refine (full_any 8 (by omega) _).mono ?_
  rintro e w4 ⟨rfl, hb4⟩
  have H4 := hide ((unhide H3).below hb4)
  have HF := hide (full_get 8 (by omega) 63 (by omega))
  generalize fullS 8 _ = F8 at HF ⊢
  clear H3 hb4
  go_wp2_with fail
  refine (write_yes w4 (unhide H4).1 2 (by simp) F8 (by simp)).mono ?_
  rintro e w5 ⟨rfl, hd5, ht5⟩
  have H5 := hide ((unhide H4).turned hd5 ht5)
  clear H4 hd5 ht5
  go_wp2_with fail
  refine (full_any 9 (by omega) _).mono ?_
  rintro e w6 ⟨rfl, hb6⟩
  have H6 := hide ((unhide H5).below hb6)
  generalize fullS 9 _ = F9
  clear H5 hb6
  go_wp2_with fail
  refine (write_no w6 (unhide H6).1 4 (by simp) F9).mono ?_
  rintro e w7 ⟨rfl, hb7⟩
  have H7 := hide ((unhide H6).below hb7)
  clear H6 hb7
  go_wp2_with fail
  refine (pending_any w7 (unhide H7).1).mono ?_
  rintro e w8 ⟨rfl, rfl⟩
  go_wp2_with fail
  have H9 := hide ((unhide H7).below (below_alloc (Below.refl _ _) (.cells ([false, true].map Value.bool).toArray 4)))
  refine (crash_any _ (unhide H9).1 (by simp) _ [false, true] 2 (bools_new w8 [false, true]) (fun _ b off e => ?_) (by simp)).mono ?_
  · cases e
    exact safe_new (unhide H7) (below_alloc (Below.refl _ _) _) (Nat.le_refl _) (heap_alloc_last _ _)
  rintro e wa ⟨rfl, hda, hta⟩
  have HA0 := (unhide H9).turned hda hta
  have eS : flushS (List.replicate 4 zeroS) (keptP ([] ++ [(1, F7)] ++ [(2, F8)]) [false, true]) = [zeroS, zeroS, F8, zeroS] := rfl
  rw [eS] at HA0
  have HA := hide HA0
  clear H7 H9 hda hta HA0 eS
  go_wp2_with fail
  refine (read_yes wa (unhide HA).1 1 (by simp) (by simp)).mono ?_
  rintro e wb ⟨rfl, hbb⟩
  have HB := hide ((unhide HA).below hbb)
  have e1 : readS [zeroS, zeroS, F8, zeroS] [] 1 = zeroS := rfl
  rw [e1]
  clear HA hbb e1
  go_wp2_with (first
    | (with_reducible refine wpList_allocT 36 i36 (sv zeroS) hi36 hz36 ?_; intro wc hbc hsc hgc)
    | ((with_reducible refine wpList_storeS Try.size36 _ _ wb.heap.size 0 zeroS ?_ ?_ (secs_there (secs_new hgc)) ?_); (focus rfl); (focus rfl); intro wd HHd; obtain ⟨hbd, hsd, hXd⟩ := var_put hbc hsc hgc HHd))
  have HD := hide ((unhide HB).below hbd)
  have HX := hide hXd
  clear HB hbc hsc hgc HHd hXd
  refine (read_yes wd (unhide HD).1 2 (by simp) (by simp)).mono ?_
  rintro e we ⟨rfl, hbe⟩
  have HE := hide ((unhide HD).below hbe)
  have HY := hide ((unhide HX).below hbe)
  have e1 : readS [zeroS, zeroS, F8, zeroS] [] 2 = F8 := rfl
  rw [e1]
  have hlt1 : wb.heap.size < we.heap.size := by have := hbe.size; omega
  clear HD hbe HX e1 hbd hsd
  go_wp2_with (first
    | (with_reducible refine wpList_allocT 36 i36 (sv zeroS) hi36 hz36 ?_; intro wf hbf hsf hgf)
    | ((with_reducible refine wpList_storeS Try.size36 _ _ we.heap.size 0 F8 ?_ ?_ (secs_there (secs_new hgf)) ?_); (focus rfl); (focus rfl); intro wg HHg; obtain ⟨hbg, hsg, hZg⟩ := var_put hbf hsf hgf HHg; have hc0 := secs_byte ((unhide HY).below hbg) 0 (by omega); have hc8 := secs_byte hZg 63 (by omega); rw [unhide HF] at hc8; rw [full_get0] at hc0; have HG := hide ((unhide HE).below hbg))
    | (go_at_call 21; refine (pending_any _ (unhide HG).1).mono ?_; rintro e wh ⟨rfl, rfl⟩)
    | (go_at_call 22; refine (len_any _ (unhide HG).1).mono ?_; rintro e wh ⟨rfl, rfl⟩))
  go_ret
  exact ⟨rfl, (unhide HG).2⟩
end Go.Proofs.Ytcakiohpkebmpaa
