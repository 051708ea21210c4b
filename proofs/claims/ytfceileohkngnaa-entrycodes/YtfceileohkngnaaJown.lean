/- What All tells is its own: the rows in blocks that no journal's work turns. -/
import Derived.Test.YtfceileohkngnaaTbys
namespace Go.Proofs.Ytfceileohkngnaa
open Go.RowKit
set_option linter.unusedVariables false
set_option maxRecDepth 4000

/-- Rows of bytes, each in blocks of their own kind. -/
def LsA (w : World) (A : Option Addr) (L : List (List Int)) : Prop := ∃ hs, Ls w A hs L
theorem LsA.below {w w' : World} {A : Option Addr} {L : List (List Int)} (h : LsA w A L) (hb : Below w.heap.size w w') : LsA w' A L := by
  obtain ⟨hs, k⟩ := h
  exact ⟨hs, k.below hb⟩
theorem LsA.parts {w : World} {A : Option Addr} {L : List (List Int)} (h : LsA w A L) : PartsA w A L := by
  obtain ⟨hs, k⟩ := h
  exact parts_heads k.row (headsB_a k.2)
theorem own_ls {w : World} {base : Nat} {v : Value} {n : Nat} {hs : List Value} {l : List (List Int)} (h : w.ownsRow base 23 1 v n hs) (k : HeadsB w hs l) {A : Option Addr} {m c : Nat} (hv : v = .slice A m c) : LsA w A l := by
  refine ⟨hs, ?_, k⟩
  have hl := h.1
  rcases h.2 with ⟨rfl, h0⟩ | ⟨g, cap, cur, rfl, hb, hg, hnc, hcm, hcs, htk⟩
  · exact .inl (List.length_eq_zero_iff.1 (by omega))
  · cases hv
    refine .inr ⟨g, _, rfl, cur, hg, by omega, ?_⟩
    rw [show hs.length = n by omega]
    simpa using htk
/-- .. which are new. -/
def LsF (lo : Nat) (w : World) (A : Option Addr) (L : List (List Int)) : Prop := ∃ hs, (hs = [] ∨ ∃ gA cA, A = some ⟨gA, 0, none⟩ ∧ lo ≤ gA ∧ Blk w 23 gA cA hs) ∧ HeadsB w hs L
theorem LsF.ls {lo : Nat} {w : World} {A : Option Addr} {L : List (List Int)} (h : LsF lo w A L) : LsA w A L := by
  obtain ⟨hs, k, r⟩ := h
  exact ⟨hs, k.imp id (fun ⟨g, c, e, _, hb⟩ => ⟨g, c, e, hb⟩), r⟩
theorem LsF.below {lo : Nat} {w w' : World} {A : Option Addr} {L : List (List Int)} (h : LsF lo w A L) (hb : Below w.heap.size w w') : LsF lo w' A L := by
  obtain ⟨hs, k, r⟩ := h
  exact ⟨hs, k.imp id (fun ⟨g, c, e, l, hk⟩ => ⟨g, c, e, l, hk.below hb⟩), headsB_mono (fun g c vs k => k.below hb) r⟩
theorem own_lsF {w : World} {base : Nat} {v : Value} {n : Nat} {hs : List Value} {l : List (List Int)} (h : w.ownsRow base 23 1 v n hs) (k : HeadsB w hs l) {A : Option Addr} {m c : Nat} (hv : v = .slice A m c) {lo : Nat} (hlo : lo ≤ base) : LsF lo w A l := by
  refine ⟨hs, ?_, k⟩
  have hl := h.1
  rcases h.2 with ⟨rfl, h0⟩ | ⟨g, cap, cur, rfl, hb, hg, hnc, hcm, hcs, htk⟩
  · exact .inl (List.length_eq_zero_iff.1 (by omega))
  · cases hv
    refine .inr ⟨g, _, rfl, Nat.le_trans hlo hb, cur, hg, by omega, ?_⟩
    rw [show hs.length = n by omega]
    simpa using htk
theorem blk_turnJ {B g gs j : Nat} {w w' : World} (t : TurnJ B g gs j w w') {e : TypeId} {b c : Nat} {vs : List Value} (h : Blk w e b c vs) (h1 : b ≠ g) (h2 : b ≠ gs) (h3 : b ≠ j) (he : e ≠ 120) : Blk w' e b c vs := by
  obtain ⟨cur, hc, r⟩ := h
  exact ⟨cur, by rw [t.block b (lt_of_get hc) h1 h2 h3 (.inr (not_type hc he))]; exact hc, r⟩
/-- The journal at work leaves them. -/
theorem LsA.turn {w w' : World} {A : Option Addr} {N L : List (List Int)} (h : LsA w A N) {B g gs : Nat} {S : List Sct} {j fr tt : Nat} {ep : Int} {R : List Sct} (hh : Hold w B g gs S j fr tt ep L R) (t : TurnJ B g gs j w w') : LsA w' A N := by
  obtain ⟨⟨c1, f1, g1⟩, ⟨c2, f2, s1⟩⟩ := hh.dsk.blocks
  have hj := hh.jr
  unfold Jr at hj
  obtain ⟨hs, k⟩ := h
  refine ⟨hs, k.mono (fun b c vs hb => ?_) (fun b c vs hb => ?_)⟩
  · obtain ⟨cur, hc, _⟩ := id hb
    exact blk_turnJ t hb (block_ne hc g1 (by decide)) (block_ne hc s1 (by decide)) (block_ne hc hj (by decide)) (by decide)
  · obtain ⟨cur, hc, _⟩ := id hb
    exact blk_turnJ t hb (block_ne hc g1 (by decide)) (block_ne hc s1 (by decide)) (block_ne hc hj (by decide)) (by decide)

theorem ents_end2 {ep : Int} {n fr m cl : Nat} {D : List Sct} {l : List (List Int)} {Al : Option Addr} {w w' : World} (he : scanS ep (n + 1) D 0 = (l, m)) (hp : LsF w.heap.size w' Al l) (hb : Below w.heap.size w w') :
    ∃ A c, Ending.returned (.tuple #[.slice Al l.length cl, .int .i64 ((fr : Int) + (m : Int))]) = .returned (.tuple #[.slice A (scanS ep (n + 1) D 0).1.length c, .int .i64 ((fr + (scanS ep (n + 1) D 0).2 : Nat) : Int)]) ∧ LsF w.heap.size w' A (scanS ep (n + 1) D 0).1 ∧ Below w.heap.size w w' := by
  rw [he]
  exact ⟨Al, cl, by rw [show ((fr + m : Nat) : Int) = (fr : Int) + (m : Int) by omega], hp, hb⟩

set_option maxHeartbeats 1000000 in
theorem entries_own {base g gs : Nat} {S : List Sct} (w : World) (h : Dsk 102 120 w base g gs S []) {j fr tt : Nat} {ep : Int} {en : Nat} {ct : Int} (hj : Jr w j g fr tt ep en ct) (n : Nat) (D : List Sct) (hD : D = (S.drop fr).take n) (hn : fr + n ≤ S.length) (hn1 : n ≤ 900) :
    Calls Try.prog 46 #[.pointer (some ⟨j, 0, none⟩), .int .i64 ((fr + n : Nat) : Int)] w fun e w' => ∃ A c, e = .returned (.tuple #[.slice A (scanS ep (n + 1) D 0).1.length c, .int .i64 ((fr + (scanS ep (n + 1) D 0).2 : Nat) : Int)]) ∧ LsF w.heap.size w' A (scanS ep (n + 1) D 0).1 ∧ Below w.heap.size w w' := by
  have hDl : D.length = n := by rw [hD, List.length_take, List.length_drop]; omega
  have HSE := hide (sectors_any w h fr tt n D hD hn)
  have hS : S.length ≤ 4096 := by obtain ⟨_, _, _, _, _, _, _, h'⟩ := h; exact h'
  obtain ⟨c0, c1, c2, c3, c4, c5⟩ := hj.cells
  have HJ := hide hj
  have hcast : ((fr + n : Nat) : Int) = (fr : Int) + (n : Int) := by omega
  rw [hcast] at HSE ⊢
  clear hD hj h hcast
  go_enter Try.func46, Try.ntmps46
  go_wp2_with (go_at_call 67; (with_reducible refine (unhide HSE).mono ?_); rintro e w2 ⟨q, rfl, hsc, hb2⟩)
  have HJ2 := hide ((unhide HJ).below hb2)
  have HSC := hide hsc
  have HB2 := hide hb2
  clear c0 c1 c2 c3 c4 c5 hsc hb2 HJ HSE
  go_loopw [6, 8] (fun v i wr => ∃ (l : List (List Int)) (hs : List Value) (m f : Nat), i = .int .i64 m ∧ m ≤ n ∧ l.length ≤ m ∧ n - m < f ∧ wr.ownsRow w2.heap.size 23 1 v l.length hs ∧ HeadsB wr hs l ∧ Below w2.heap.size w2 wr ∧ scanS ep (n + 1) D 0 = (l ++ (scanS ep f (D.drop m) l.length).1, m + (scanS ep f (D.drop m) l.length).2)) (fun _ i _ => n - (intOf i).toNat)
  case atStart => exact ⟨[], [], 0, n + 1, rfl, Nat.zero_le _, Nat.le_refl _, by omega, ⟨rfl, .inl ⟨rfl, rfl⟩⟩, trivial, Below.refl _ _, by simp⟩
  case round =>
    obtain ⟨l, hs, m, f, rfl, hm, hlm, hf, hown, hhd, hbel, hscan⟩ := hrel
    obtain ⟨f, rfl⟩ : ∃ f', f = f' + 1 := ⟨f - 1, by omega⟩
    obtain ⟨Al, cl, rfl, hRl, _⟩ := own_form hown
    have HOW := hide hown
    have HHD := hide hhd
    have HSN := hide hscan
    have HPA := hide (own_lsF hown hhd rfl (unhide HB2).size)
    have hwb := below_then (unhide HB2) hbel
    have HWB := hide hwb
    have HJR := hide ((unhide HJ2).below hbel)
    obtain ⟨c0, c1, c2, c3, c4, c5⟩ := (unhide HJR).cells
    have HSD := hide (scs_drop ((unhide HSC).below hbel) m)
    have HDL : Hid ((D.drop m).length = n - m) := by show _ = _; rw [List.length_drop]; omega
    clear hown hhd hscan hRl hwb
    have hm' : (m : Int) ≤ (n : Int) := by omega
    cases hdec : decS (D.drop m) with
    | none =>
      have HDE := hide (fun (B : Option Addr) (hB : ScsA wr B (D.drop m)) => decode_none B (D.drop m) (n - m) (n - m) wr (unhide HDL).symm hB (by rw [unhide HDL]; omega) (by rw [unhide HDL]; exact Nat.le_refl _) hdec)
      have HEN : Hid (scanS ep (n + 1) D 0 = (l, m)) := by
        show _ = _
        rw [unhide HSN, scan_none hdec, List.append_nil, Nat.add_zero]
      by_cases hmn : n = m
      · subst hmn
        have HS0 : Hid (∀ B, ScsA wr B (D.drop n)) := fun B => by
          have : D.drop n = [] := List.drop_eq_nil_of_le (by omega)
          rw [this]; exact rowA_nil _ _
        rw [Nat.sub_self] at HDE
        go_wp2_with (go_at_call 9; (with_reducible refine (unhide HDE _ (unhide HS0 _)).mono ?_); rintro x w3 ⟨rfl, hb3⟩; have HB3 := hide hb3; obtain ⟨d0, d1, d2, d3, d4, d5⟩ := ((unhide HJR).below hb3).cells; have hjl := lt_of_get ((unhide HJR).below hb3); clear hb3)
        go_quiet (fail)
        go_wp2
        go_ret2
        exact ents_end2 (unhide HEN) ((unhide HPA).below (below_drewN (below_alloc (unhide HB3) _) _)) (below_drewN (below_alloc (below_then (unhide HWB) (unhide HB3)) _) _)
      · go_wp2_with (go_at_call 9; (with_reducible refine (unhide HDE _ (unhide HSD)).mono ?_); rintro x w3 ⟨rfl, hb3⟩; have HB3 := hide hb3; obtain ⟨d0, d1, d2, d3, d4, d5⟩ := ((unhide HJR).below hb3).cells; have hjl := lt_of_get ((unhide HJR).below hb3); clear hb3)
        go_quiet (fail)
        go_wp2
        go_ret2
        exact ents_end2 (unhide HEN) ((unhide HPA).below (below_drewN (below_alloc (unhide HB3) _) _)) (below_drewN (below_alloc (below_then (unhide HWB) (unhide HB3)) _) _)
    | some x =>
      obtain ⟨y1, y2, _⟩ := decS_some hdec
      rw [unhide HDL] at y2
      have hmn : ¬ n = m := by omega
      have HDE := hide (fun (B : Option Addr) (hB : ScsA wr B (D.drop m)) => decode_some B (D.drop m) (n - m) (n - m) wr (unhide HDL).symm hB (by rw [unhide HDL]; omega) (by rw [unhide HDL]; exact Nat.le_refl _) x hdec)
      have HIS := hide (fun (W : World) (B : Option Addr) (N c : Nat) (hW : Below wr.heap.size wr W) => isNext_any ((unhide HJR).below hW) x.k x.e x.s B N c l.length (by omega))
      cases hisn : isN ep l.length x.k x.e x.s with
      | false =>
        have HEN : Hid (scanS ep (n + 1) D 0 = (l, m)) := by
          show _ = _
          rw [unhide HSN, scan_no hdec hisn, List.append_nil, Nat.add_zero]
        rw [hisn] at HIS
        obtain ⟨xk, xe, xs, xb, xn⟩ := x
        simp only at HDE HIS y1 y2
        clear hisn hdec
        go_wp2_with (first
          | (go_at_call 9; (with_reducible refine (unhide HDE _ (unhide HSD)).mono ?_); rintro x w3 ⟨B, c, rfl, ho3, hb3⟩; have HB3 := hide hb3; have HI3 := hide (unhide HIS _ B xb.length c (below_alloc hb3 (.cells #[.int .i64 xk, .int .u32 xe, .int .u32 xs, .slice B xb.length c] 25))); clear hb3 ho3)
          | (go_at_call 68; (with_reducible refine (unhide HI3).mono ?_); rintro x w4 ⟨rfl, hb4⟩; have HB4 := hide (below_then (below_alloc (unhide HB3) _) hb4); obtain ⟨d0, d1, d2, d3, d4, d5⟩ := ((unhide HJR).below (unhide HB4)).cells; clear hb4))
        go_quiet (fail)
        go_wp2
        go_ret2
        exact ents_end2 (unhide HEN) ((unhide HPA).below (below_drewN (unhide HB4) _)) (below_drewN (below_then (unhide HWB) (unhide HB4)) _)
      | true =>
        have HEN : Hid (scanS ep (n + 1) D 0 = ((l ++ [x.b]) ++ (scanS ep f (D.drop (m + x.n)) (l ++ [x.b]).length).1, m + x.n + (scanS ep f (D.drop (m + x.n)) (l ++ [x.b]).length).2)) := by
          show _ = _
          rw [unhide HSN, scan_yes hdec hisn, List.drop_drop, List.length_append, List.append_assoc]
          simp only [List.length_cons, List.length_nil, List.cons_append, List.nil_append, Nat.zero_add, Nat.add_assoc]
        rw [hisn] at HIS
        obtain ⟨xk, xe, xs, xb, xn⟩ := x
        simp only at HDE HIS y1 y2 HEN
        clear hisn hdec
        have HHA := hide (unhide HHD)
        go_wp2_with (first
          | (go_at_call 9; (with_reducible refine (unhide HDE _ (unhide HSD)).mono ?_); rintro x w3 ⟨B, c, rfl, ho3, hb3⟩; have HB3 := hide hb3; have HO3 := hide ho3; have HI3 := hide (unhide HIS _ B xb.length c (below_alloc hb3 (.cells #[.int .i64 xk, .int .u32 xe, .int .u32 xs, .slice B xb.length c] 25))); clear hb3 ho3)
          | (go_at_call 68; (with_reducible refine (unhide HI3).mono ?_); rintro x w4 ⟨rfl, hb4⟩; have hn4 := (hb4.block w3.heap.size (by simp)).trans (heap_alloc_last w3 (.cells #[.int .i64 xk, .int .u32 xe, .int .u32 xs, .slice B xb.length c] 25)); have z3 := (heap_cell hn4 3).1; have hb34 := below_then (below_alloc (Below.refl w3.heap.size w3) (.cells #[.int .i64 xk, .int .u32 xe, .int .u32 xs, .slice B xb.length c] 25)) hb4; have HB4 := hide (below_then (unhide HB3) hb34); have HN4 := hide (headsB_app (headsB_below (unhide HB4) (unhide HHA)) (headsB_below hb34 (headsB_own (unhide HO3)))); have HOW4 := hide (own_below (unhide HOW) (unhide HB4)); have HBB4 := hide (below_then hbel (unhide HB4)); clear hb4 hn4 hb34)
          | ((with_reducible refine wpList_push (w0 := w2) rfl _ _ rfl w4.heap.size rfl (.slice Al l.length cl) l.length hs ?_ (unhide HOW4) 1 [.slice B xb.length c] ?_ rfl ?_ ?_ (unhide HBB4) ?_); (focus rfl); (focus rfl); (focus (intro u hu; rw [List.mem_singleton] at hu; subst hu; rfl)); (focus omega); intro v5 w5 ho5 hb5 hk5; have HO5 := hide ho5; have HB5 := hide hb5; have HN5 := hide (headsB_mono hk5 (unhide HN4)); clear ho5 hb5 hk5))
        go_roundw
        case rel => exact ⟨l ++ [xb], hs ++ [.slice B xb.length c], m + xn, f, by go_num, by omega, by rw [List.length_append]; simp only [List.length_cons, List.length_nil]; omega, by omega, by rw [List.length_append]; exact unhide HO5, unhide HN5, unhide HB5, unhide HEN⟩
        case measure => simp [intOf]; omega
theorem all_own {base g gs : Nat} {S : List Sct} (w : World) (h : Dsk 102 120 w base g gs S []) {j fr tt : Nat} {ep : Int} {en : Nat} {ct : Int} (hj : Jr w j g fr tt ep en ct) (hfe : fr ≤ en) (hn : en ≤ S.length) (hn1 : en ≤ 900) :
    Calls Try.prog 29 #[.pointer (some ⟨j, 0, none⟩)] w fun e w' => ∃ A c, e = .returned (.slice A (jrnL ep S fr (en - fr)).length c) ∧ LsF w.heap.size w' A (jrnL ep S fr (en - fr)) ∧ Below w.heap.size w w' := by
  have HE : Hid (Calls Try.prog 46 #[.pointer (some ⟨j, 0, none⟩), .int .i64 (en : Int)] w fun e w' => ∃ A c, e = .returned (.tuple #[.slice A (jrnL ep S fr (en - fr)).length c, .int .i64 ((fr + jrnN ep S fr (en - fr) : Nat) : Int)]) ∧ LsF w.heap.size w' A (jrnL ep S fr (en - fr)) ∧ Below w.heap.size w w') := by
    have := entries_own w h hj (en - fr) _ rfl (by omega) (by omega)
    rw [show fr + (en - fr) = en by omega] at this
    exact this
  obtain ⟨c0, c1, c2, c3, c4, c5⟩ := hj.cells
  generalize jrnL ep S fr (en - fr) = L at *
  generalize jrnN ep S fr (en - fr) = M at *
  clear h hj
  go_enter Try.func29, Try.ntmps29
  go_wp2_with (go_at_call 46; (with_reducible refine (unhide HE).mono ?_); rintro e w2 ⟨A, c, rfl, hp, hb⟩)
  go_ret
  exact ⟨_, _, rfl, hp, hb⟩
theorem Hold.all_own {w : World} {base g gs : Nat} {S : List Sct} {j fr tt : Nat} {ep : Int} {L : List (List Int)} {R : List Sct} (h : Hold w base g gs S j fr tt ep L R) :
    Calls Try.prog 29 #[.pointer (some ⟨j, 0, none⟩)] w fun e w' => ∃ A c, e = .returned (.slice A L.length c) ∧ LsF w.heap.size w' A L ∧ Below w.heap.size w w' := by
  have h1 := h.room
  have h2 := h.lim
  have h3 := h.size
  have := Ytfceileohkngnaa.all_own w h.dsk h.jr (by omega) (by omega) (by omega)
  rw [hold_all h.epo h.rest h.fits (by have := h.few; omega) (fr + (entsS ep 0 L).length - fr) (by omega)] at this
  exact this
end Go.Proofs.Ytfceileohkngnaa
