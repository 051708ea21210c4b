/- Contract of entries: which stand on the disk, and where they end. -/
import Derived.Test.YtfceileohkngnaaJsecs
namespace Go.Proofs.Ytfceileohkngnaa
open Go.RowKit
set_option linter.unusedVariables false
set_option maxRecDepth 4000

/-- The entries of an epoch that sectors begin with, from a sequence on, and how many sectors they have. -/
def scanS (ep : Int) : Nat → List Sct → Nat → List (List Int) × Nat
  | 0, _, _ => ([], 0)
  | f + 1, S, c => match decS S with
    | none => ([], 0)
    | some x => if isN ep c x.k x.e x.s = true then (x.b :: (scanS ep f (S.drop x.n) (c + 1)).1, x.n + (scanS ep f (S.drop x.n) (c + 1)).2) else ([], 0)
theorem scan_none {ep : Int} {f : Nat} {S : List Sct} {c : Nat} (h : decS S = none) : scanS ep (f + 1) S c = ([], 0) := by
  unfold scanS; rw [h]
theorem scan_no {ep : Int} {f : Nat} {S : List Sct} {c : Nat} {x : Ent} (h : decS S = some x) (hn : isN ep c x.k x.e x.s = false) : scanS ep (f + 1) S c = ([], 0) := by
  unfold scanS; rw [h]; simp only [hn]; rfl
theorem scan_yes {ep : Int} {f : Nat} {S : List Sct} {c : Nat} {x : Ent} (h : decS S = some x) (hn : isN ep c x.k x.e x.s = true) : scanS ep (f + 1) S c = (x.b :: (scanS ep f (S.drop x.n) (c + 1)).1, x.n + (scanS ep f (S.drop x.n) (c + 1)).2) := by
  conv => lhs; unfold scanS
  rw [h]; simp only [hn, if_true]
theorem scan_lim (ep : Int) : ∀ (f : Nat) (S : List Sct) (c : Nat), (scanS ep f S c).2 ≤ S.length ∧ (scanS ep f S c).1.length ≤ (scanS ep f S c).2 ∧ ∀ b ∈ (scanS ep f S c).1, Byt b ∧ b.length ≤ 4000
  | 0, S, c => ⟨Nat.zero_le _, Nat.le_refl _, by intro b hb; cases hb⟩
  | f + 1, S, c => by
    cases h : decS S with
    | none => rw [scan_none h]; exact ⟨Nat.zero_le _, Nat.le_refl _, by intro b hb; cases hb⟩
    | some x =>
      cases hn : isN ep c x.k x.e x.s with
      | false => rw [scan_no h hn]; exact ⟨Nat.zero_le _, Nat.le_refl _, by intro b hb; cases hb⟩
      | true =>
        rw [scan_yes h hn]
        obtain ⟨d1, d2, d3, _, _, _, d7, d8⟩ := decS_some h
        obtain ⟨r1, r2, r3⟩ := scan_lim ep f (S.drop x.n) (c + 1)
        rw [List.length_drop] at r1
        refine ⟨by simp only []; omega, by simp only [List.length_cons]; omega, ?_⟩
        intro b hb
        rcases List.mem_cons.1 hb with rfl | hb
        · exact ⟨d7, d8⟩
        · exact r3 b hb

/-- Headers of rows of bytes, each in a block of its own, or empty. -/
def HeadsB (w : World) : List Value → List (List Int) → Prop
  | [], [] => True
  | h :: hs, p :: ps => (∃ a cap, h = .slice a p.length cap ∧ (p = [] ∨ ∃ g c, a = some ⟨g, 0, none⟩ ∧ Blk w 5 g c (p.map (Value.int .u8)))) ∧ HeadsB w hs ps
  | _, _ => False
theorem headsB_mono {w w' : World} (h : ∀ g cap vs, Blk w 5 g cap vs → Blk w' 5 g cap vs) : ∀ {hs : List Value} {ps : List (List Int)}, HeadsB w hs ps → HeadsB w' hs ps
  | [], [], _ => trivial
  | _ :: _, _ :: _, ⟨⟨a, cap, h1, h2⟩, r⟩ => ⟨⟨a, cap, h1, h2.imp id (fun ⟨g, c, e, k⟩ => ⟨g, c, e, h g c _ k⟩)⟩, headsB_mono h r⟩
theorem headsB_app {w : World} : ∀ {hs : List Value} {ps : List (List Int)} {hs' : List Value} {ps' : List (List Int)}, HeadsB w hs ps → HeadsB w hs' ps' → HeadsB w (hs ++ hs') (ps ++ ps')
  | [], [], _, _, _, k => k
  | _ :: _, _ :: _, _, _, ⟨h, r⟩, k => ⟨h, headsB_app r k⟩
theorem headsB_a {w : World} : ∀ {hs : List Value} {ps : List (List Int)}, HeadsB w hs ps → HeadsA w hs ps
  | [], [], _ => trivial
  | _ :: _, _ :: _, ⟨⟨a, cap, h1, h2⟩, r⟩ => ⟨⟨a, cap, h1, by
      rcases h2 with rfl | ⟨g, c, rfl, hb⟩
      · exact bysA_nil w a
      · exact bys_rowA hb.row⟩, headsB_a r⟩
theorem headsB_own {w : World} {base : Nat} {B : Option Addr} {n c : Nat} {b : List Int} (h : w.ownsRow base 5 1 (.slice B n c) b.length (b.map (Value.int .u8))) : HeadsB w [.slice B n c] [b] := by
  refine ⟨?_, trivial⟩
  rcases h.2 with ⟨h1, h0⟩ | ⟨g, cap, cur, hv, hb, hg, hnc, hcm, hcs, htk⟩
  · cases h1
    have e : b = [] := List.length_eq_zero_iff.1 h0
    subst e
    exact ⟨_, _, rfl, .inl rfl⟩
  · cases hv
    exact ⟨_, _, rfl, .inr ⟨_, cur.size, rfl, cur, hg, rfl, by rw [List.length_map]; simpa using htk⟩⟩
theorem headsB_len {w : World} {hs : List Value} {ps : List (List Int)} (h : HeadsB w hs ps) : hs.length = ps.length := headsA_len (headsB_a h)
theorem headsB_below {w w' : World} (hb : Below w.heap.size w w') {hs : List Value} {ps : List (List Int)} (h : HeadsB w hs ps) : HeadsB w' hs ps := headsB_mono (fun g cap vs k => k.below hb) h

theorem scs_drop {w : World} {q : Nat} {D : List Sct} (h : ScsA w (some ⟨q, 0, none⟩) D) (k : Nat) : ScsA w (some ⟨q, k * 64, none⟩) (D.drop k) := by
  intro hne
  have hk : k < D.length := by
    rcases Nat.lt_or_ge k D.length with h | h
    · exact h
    · rw [List.drop_eq_nil_of_le h] at hne; exact absurd rfl hne
  obtain ⟨b, off, e, hc⟩ := h (by intro e; have := congrArg List.length e; rw [flatS_len] at this; simp at this; omega)
  cases e
  refine ⟨q, k * 64, rfl, fun j u hj => ?_⟩
  have e2 : (flatS D)[k * 64 + j]? = some u := by
    have : flatS D = flatS (D.take k) ++ flatS (D.drop k) := by rw [← flatS_app, List.take_append_drop]
    rw [this, List.getElem?_append_right (by rw [flatS_len, List.length_take]; omega), flatS_len, List.length_take, Nat.min_eq_left (by omega), Nat.add_sub_cancel_left]
    exact hj
  have := hc _ _ e2
  rw [Nat.zero_add] at this
  exact this

theorem ents_end {ep : Int} {n fr m cl : Nat} {D : List Sct} {l : List (List Int)} {Al : Option Addr} {w w' : World} (he : scanS ep (n + 1) D 0 = (l, m)) (hp : PartsA w' Al l) (hb : Below w.heap.size w w') :
    ∃ A c, Ending.returned (.tuple #[.slice Al l.length cl, .int .i64 ((fr : Int) + (m : Int))]) = .returned (.tuple #[.slice A (scanS ep (n + 1) D 0).1.length c, .int .i64 ((fr + (scanS ep (n + 1) D 0).2 : Nat) : Int)]) ∧ PartsA w' A (scanS ep (n + 1) D 0).1 ∧ Below w.heap.size w w' := by
  rw [he]
  exact ⟨Al, cl, by rw [show ((fr + m : Nat) : Int) = (fr : Int) + (m : Int) by omega], hp, hb⟩

set_option maxHeartbeats 1000000 in
theorem entries_any {base g gs : Nat} {S : List Sct} (w : World) (h : Dsk 102 120 w base g gs S []) {j fr tt : Nat} {ep : Int} {en : Nat} {ct : Int} (hj : Jr w j g fr tt ep en ct) (n : Nat) (D : List Sct) (hD : D = (S.drop fr).take n) (hn : fr + n ≤ S.length) (hn1 : n ≤ 900) :
    Calls Try.prog 46 #[.pointer (some ⟨j, 0, none⟩), .int .i64 ((fr + n : Nat) : Int)] w fun e w' => ∃ A c, e = .returned (.tuple #[.slice A (scanS ep (n + 1) D 0).1.length c, .int .i64 ((fr + (scanS ep (n + 1) D 0).2 : Nat) : Int)]) ∧ PartsA w' A (scanS ep (n + 1) D 0).1 ∧ Below w.heap.size w w' := by
  have hDl : D.length = n := by rw [hD, List.length_take, List.length_drop]; omega
  have HSE := hide (sectors_any w h fr tt n D hD hn)
  have hS : S.length ≤ 4096 := by obtain ⟨_, _, _, _, _, _, _, h'⟩ := h; exact h'
  obtain ⟨c0, c1, c2, c3, c4, c5⟩ := hj.cells
  have HJ := hide hj
  have hcast : ((fr + n : Nat) : Int) = (fr : Int) + (n : Int) := by omega
  rw [hcast] at HSE ⊢
  clear hD hj h hcast
  go_enter Try.func46, Try.ntmps46
  go_wp2_with (go_at_call 67; (with_reducible refine (unhide HSE).mono ?_); rintro e w2 ⟨q, rfl, hsc, hb2⟩)
  have HJ2 := hide ((unhide HJ).below hb2)
  have HSC := hide hsc
  have HB2 := hide hb2
  clear c0 c1 c2 c3 c4 c5 hsc hb2 HJ HSE
  go_loopw [6, 8] (fun v i wr => ∃ (l : List (List Int)) (hs : List Value) (m f : Nat), i = .int .i64 m ∧ m ≤ n ∧ l.length ≤ m ∧ n - m < f ∧ wr.ownsRow w2.heap.size 23 1 v l.length hs ∧ HeadsB wr hs l ∧ Below w2.heap.size w2 wr ∧ scanS ep (n + 1) D 0 = (l ++ (scanS ep f (D.drop m) l.length).1, m + (scanS ep f (D.drop m) l.length).2)) (fun _ i _ => n - (intOf i).toNat)
  case atStart => exact ⟨[], [], 0, n + 1, rfl, Nat.zero_le _, Nat.le_refl _, by omega, ⟨rfl, .inl ⟨rfl, rfl⟩⟩, trivial, Below.refl _ _, by simp⟩
  case round =>
    obtain ⟨l, hs, m, f, rfl, hm, hlm, hf, hown, hhd, hbel, hscan⟩ := hrel
    obtain ⟨f, rfl⟩ : ∃ f', f = f' + 1 := ⟨f - 1, by omega⟩
    obtain ⟨Al, cl, rfl, hRl, _⟩ := own_form hown
    have HOW := hide hown
    have HHD := hide hhd
    have HSN := hide hscan
    have HPA := hide (parts_heads hRl (headsB_a hhd))
    have hwb := below_then (unhide HB2) hbel
    have HWB := hide hwb
    have HJR := hide ((unhide HJ2).below hbel)
    obtain ⟨c0, c1, c2, c3, c4, c5⟩ := (unhide HJR).cells
    have HSD := hide (scs_drop ((unhide HSC).below hbel) m)
    have HDL : Hid ((D.drop m).length = n - m) := by show _ = _; rw [List.length_drop]; omega
    clear hown hhd hscan hRl hwb
    have hm' : (m : Int) ≤ (n : Int) := by omega
    cases hdec : decS (D.drop m) with
    | none =>
      have HDE := hide (fun (B : Option Addr) (hB : ScsA wr B (D.drop m)) => decode_none B (D.drop m) (n - m) (n - m) wr (unhide HDL).symm hB (by rw [unhide HDL]; omega) (by rw [unhide HDL]; exact Nat.le_refl _) hdec)
      have HEN : Hid (scanS ep (n + 1) D 0 = (l, m)) := by
        show _ = _
        rw [unhide HSN, scan_none hdec, List.append_nil, Nat.add_zero]
      by_cases hmn : n = m
      · subst hmn
        have HS0 : Hid (∀ B, ScsA wr B (D.drop n)) := fun B => by
          have : D.drop n = [] := List.drop_eq_nil_of_le (by omega)
          rw [this]; exact rowA_nil _ _
        rw [Nat.sub_self] at HDE
        go_wp2_with (go_at_call 9; (with_reducible refine (unhide HDE _ (unhide HS0 _)).mono ?_); rintro x w3 ⟨rfl, hb3⟩; have HB3 := hide hb3; obtain ⟨d0, d1, d2, d3, d4, d5⟩ := ((unhide HJR).below hb3).cells; have hjl := lt_of_get ((unhide HJR).below hb3); clear hb3)
        go_quiet (fail)
        go_wp2
        go_ret2
        exact ents_end (unhide HEN) (partsA_drewN (partsA_below (unhide HPA) (below_alloc (unhide HB3) _)) _) (below_drewN (below_alloc (below_then (unhide HWB) (unhide HB3)) _) _)
      · go_wp2_with (go_at_call 9; (with_reducible refine (unhide HDE _ (unhide HSD)).mono ?_); rintro x w3 ⟨rfl, hb3⟩; have HB3 := hide hb3; obtain ⟨d0, d1, d2, d3, d4, d5⟩ := ((unhide HJR).below hb3).cells; have hjl := lt_of_get ((unhide HJR).below hb3); clear hb3)
        go_quiet (fail)
        go_wp2
        go_ret2
        exact ents_end (unhide HEN) (partsA_drewN (partsA_below (unhide HPA) (below_alloc (unhide HB3) _)) _) (below_drewN (below_alloc (below_then (unhide HWB) (unhide HB3)) _) _)
    | some x =>
      obtain ⟨y1, y2, _⟩ := decS_some hdec
      rw [unhide HDL] at y2
      have hmn : ¬ n = m := by omega
      have HDE := hide (fun (B : Option Addr) (hB : ScsA wr B (D.drop m)) => decode_some B (D.drop m) (n - m) (n - m) wr (unhide HDL).symm hB (by rw [unhide HDL]; omega) (by rw [unhide HDL]; exact Nat.le_refl _) x hdec)
      have HIS := hide (fun (W : World) (B : Option Addr) (N c : Nat) (hW : Below wr.heap.size wr W) => isNext_any ((unhide HJR).below hW) x.k x.e x.s B N c l.length (by omega))
      cases hisn : isN ep l.length x.k x.e x.s with
      | false =>
        have HEN : Hid (scanS ep (n + 1) D 0 = (l, m)) := by
          show _ = _
          rw [unhide HSN, scan_no hdec hisn, List.append_nil, Nat.add_zero]
        rw [hisn] at HIS
        obtain ⟨xk, xe, xs, xb, xn⟩ := x
        simp only at HDE HIS y1 y2
        clear hisn hdec
        go_wp2_with (first
          | (go_at_call 9; (with_reducible refine (unhide HDE _ (unhide HSD)).mono ?_); rintro x w3 ⟨B, c, rfl, ho3, hb3⟩; have HB3 := hide hb3; have HI3 := hide (unhide HIS _ B xb.length c (below_alloc hb3 (.cells #[.int .i64 xk, .int .u32 xe, .int .u32 xs, .slice B xb.length c] 25))); clear hb3 ho3)
          | (go_at_call 68; (with_reducible refine (unhide HI3).mono ?_); rintro x w4 ⟨rfl, hb4⟩; have HB4 := hide (below_then (below_alloc (unhide HB3) _) hb4); obtain ⟨d0, d1, d2, d3, d4, d5⟩ := ((unhide HJR).below (unhide HB4)).cells; clear hb4))
        go_quiet (fail)
        go_wp2
        go_ret2
        exact ents_end (unhide HEN) (partsA_drewN (partsA_below (unhide HPA) (unhide HB4)) _) (below_drewN (below_then (unhide HWB) (unhide HB4)) _)
      | true =>
        have HEN : Hid (scanS ep (n + 1) D 0 = ((l ++ [x.b]) ++ (scanS ep f (D.drop (m + x.n)) (l ++ [x.b]).length).1, m + x.n + (scanS ep f (D.drop (m + x.n)) (l ++ [x.b]).length).2)) := by
          show _ = _
          rw [unhide HSN, scan_yes hdec hisn, List.drop_drop, List.length_append, List.append_assoc]
          simp only [List.length_cons, List.length_nil, List.cons_append, List.nil_append, Nat.zero_add, Nat.add_assoc]
        rw [hisn] at HIS
        obtain ⟨xk, xe, xs, xb, xn⟩ := x
        simp only at HDE HIS y1 y2 HEN
        clear hisn hdec
        have HHA := hide (unhide HHD)
        go_wp2_with (first
          | (go_at_call 9; (with_reducible refine (unhide HDE _ (unhide HSD)).mono ?_); rintro x w3 ⟨B, c, rfl, ho3, hb3⟩; have HB3 := hide hb3; have HO3 := hide ho3; have HI3 := hide (unhide HIS _ B xb.length c (below_alloc hb3 (.cells #[.int .i64 xk, .int .u32 xe, .int .u32 xs, .slice B xb.length c] 25))); clear hb3 ho3)
          | (go_at_call 68; (with_reducible refine (unhide HI3).mono ?_); rintro x w4 ⟨rfl, hb4⟩; have hn4 := (hb4.block w3.heap.size (by simp)).trans (heap_alloc_last w3 (.cells #[.int .i64 xk, .int .u32 xe, .int .u32 xs, .slice B xb.length c] 25)); have z3 := (heap_cell hn4 3).1; have hb34 := below_then (below_alloc (Below.refl w3.heap.size w3) (.cells #[.int .i64 xk, .int .u32 xe, .int .u32 xs, .slice B xb.length c] 25)) hb4; have HB4 := hide (below_then (unhide HB3) hb34); have HN4 := hide (headsB_app (headsB_below (unhide HB4) (unhide HHA)) (headsB_below hb34 (headsB_own (unhide HO3)))); have HOW4 := hide (own_below (unhide HOW) (unhide HB4)); have HBB4 := hide (below_then hbel (unhide HB4)); clear hb4 hn4 hb34)
          | ((with_reducible refine wpList_push (w0 := w2) rfl _ _ rfl w4.heap.size rfl (.slice Al l.length cl) l.length hs ?_ (unhide HOW4) 1 [.slice B xb.length c] ?_ rfl ?_ ?_ (unhide HBB4) ?_); (focus rfl); (focus rfl); (focus (intro u hu; rw [List.mem_singleton] at hu; subst hu; rfl)); (focus omega); intro v5 w5 ho5 hb5 hk5; have HO5 := hide ho5; have HB5 := hide hb5; have HN5 := hide (headsB_mono hk5 (unhide HN4)); clear ho5 hb5 hk5))
        go_roundw
        case rel => exact ⟨l ++ [xb], hs ++ [.slice B xb.length c], m + xn, f, by go_num, by omega, by rw [List.length_append]; simp only [List.length_cons, List.length_nil]; omega, by omega, by rw [List.length_append]; exact unhide HO5, unhide HN5, unhide HB5, unhide HEN⟩
        case measure => simp [intOf]; omega
end Go.Proofs.Ytfceileohkngnaa
