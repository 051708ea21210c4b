/- config.Edit: its loop. -/
import Derived.Test.YtbbadncdkiganaaKedit3
namespace Go.Proofs.Ytbbadncdkiganaa
open Go.RowKit
set_option linter.unusedVariables false
set_option maxRecDepth 4000

theorem Ced.below {w W : World} {base g : Nat} {c : Cfg} (h : Ced w base g c) (hb : Below w.heap.size w W) : Ced W base g c := by
  obtain ⟨h1, h2, vp, vv, vs, h3, h4⟩ := h
  exact ⟨h1, by have := hb.size; omega, vp, vv, vs, heap_keep h3 hb, h4.below hb⟩
theorem way_lens {c : Cfg} {k : Nat} (h : Way c k) (hk : k ≤ 80) : Lens c := ⟨maxLen_ge _ (by have := h.lp; omega), maxLen_ge _ (by have := h.lv; omega), maxLen_ge _ (by have := h.ls; omega)⟩
theorem take_next {α : Type} {l : List α} {k : Nat} {x : α} (h : l[k]? = some x) : l.take (k + 1) = l.take k ++ [x] := by
  obtain ⟨hk, rfl⟩ := List.getElem?_eq_some_iff.1 h
  rw [List.take_succ_eq_append_getElem hk]
set_option maxHeartbeats 8000000 in
theorem edit_go (c : Cfg) (l : List Ed) (Ap Av As A : Option Addr) (cp cv cs ce : Nat) (hL : Lens c) (hM : Mems c) (w : World) (hA : CfgA w c Ap Av As) (hE : RowA w A (flE l)) (hEm : ∀ e ∈ l, 0 ≤ e.member ∧ e.member ≤ 255) (hg : goodB c = true) (h32 : l.length ≤ 32) :
    Calls Try.prog 19 #[.agg #[.int .i64 c.prio, .int .i64 c.age, .int .i64 c.delay, .slice Ap c.ports.length cp, .slice Av c.vlans.length cv, .slice As c.stats.length cs], .slice A l.length ce] w (EditPost w c l) := by
  have G1 := hide (fun W (hW : Below w.heap.size w W) => good_t (cp := cp) (cv := cv) (cs := cs) hg hL hM W (hA.below hW))
  have hw0 := way_good hM hg
  have hcp := hw0.lp
  have hcv := hw0.lv
  have hcs := hw0.ls
  have G2 := hide (fun W (hW : Below w.heap.size w W) => copy_any c Ap Av As cp cv cs (by omega) (by omega) (by omega) W (hA.below hW))
  have HW0 := hide hw0
  have HNO := hide (fun (x : Ending) (w' : World) (en : Int) (h0 : editE c l = en) (hne : en ≠ 0) (h1 : x = .returned (.tuple #[.agg #[.int .i64 0, .int .i64 0, .int .i64 0, .slice none 0 0, .slice none 0 0, .slice none 0 0], .int .i64 en])) (h2 : Below w.heap.size w w') => (⟨h2, .inl ⟨by rw [h0]; exact hne, by rw [h0]; exact h1⟩⟩ : EditPost w c l x w'))
  have HED : Hid (editE c l = if (applyAll c l).1 ≠ 0 then (applyAll c l).1 else if goodB (applyAll c l).2 then 0 else 14) := hide (by unfold editE; rw [if_neg (by rw [hg]; simp), if_neg (by omega)])
  have HC := hide (show editC c l = (applyAll c l).2 from rfl)
  have HEM := hide hEm
  have HE0 := hide hE
  clear hL hM hA hw0 hcp hcv hcs hg hEm hE
  obtain ⟨n, hn⟩ : ∃ n, l.length = n := ⟨_, rfl⟩
  have HN := hide hn
  rw [hn] at h32 ⊢
  clear hn
  have h32z : ¬ (32 : Int) < (n : Int) := by omega
  have HB : Hid (Below w.heap.size w ((w.alloc (.cells #[.int .i64 c.prio, .int .i64 c.age, .int .i64 c.delay, .slice Ap c.ports.length cp, .slice Av c.vlans.length cv, .slice As c.stats.length cs] 26)).alloc (.cells #[.int .i64 0, .int .i64 0, .int .i64 0, .slice none 0 0, .slice none 0 0, .slice none 0 0] 26))) := below_alloc (below_alloc (Below.refl _ _) _) _
  have HR : Hid (((w.alloc (.cells #[.int .i64 c.prio, .int .i64 c.age, .int .i64 c.delay, .slice Ap c.ports.length cp, .slice Av c.vlans.length cv, .slice As c.stats.length cs] 26)).alloc (.cells #[.int .i64 0, .int .i64 0, .int .i64 0, .slice none 0 0, .slice none 0 0, .slice none 0 0] 26)).heap[w.heap.size + 1]? = some (.cells #[.int .i64 0, .int .i64 0, .int .i64 0, .slice none 0 0, .slice none 0 0, .slice none 0 0] 26 (0, 0))) := hide (heap_new _ _ _ (by simp))
  have HR0 : Hid (((w.alloc (.cells #[.int .i64 c.prio, .int .i64 c.age, .int .i64 c.delay, .slice Ap c.ports.length cp, .slice Av c.vlans.length cv, .slice As c.stats.length cs] 26)).alloc (.cells #[.int .i64 0, .int .i64 0, .int .i64 0, .slice none 0 0, .slice none 0 0, .slice none 0 0] 26)).heap[w.heap.size]? = some (.cells #[.int .i64 c.prio, .int .i64 c.age, .int .i64 c.delay, .slice Ap c.ports.length cp, .slice Av c.vlans.length cv, .slice As c.stats.length cs] 26 (0, 0))) := hide (by rw [Below.heap_alloc _ _ _ (by simp)]; exact heap_new _ _ _ rfl)
  go_enter Try.func19, Try.ntmps19
  go_wp2_with (first
    | (go_at_call 14; (with_reducible refine (unhide G1 _ (unhide HB)).mono ?_); rintro e w1 ⟨rfl, hb1⟩; have HR1 := hide (heap_keep (unhide HR) hb1); have hq := heap_keep (unhide HR0) hb1; obtain ⟨q0, -⟩ := heap_cell hq 0; obtain ⟨q1, -⟩ := heap_cell hq 1; obtain ⟨q2, -⟩ := heap_cell hq 2; obtain ⟨q3, -⟩ := heap_cell hq 3; obtain ⟨q4, -⟩ := heap_cell hq 4; obtain ⟨q5, -⟩ := heap_cell hq 5; have HB1 := hide (below_then (unhide HB) hb1); clear hb1 hq)
    | (go_at_call 13; (with_reducible refine (unhide G2 _ (unhide HB1)).mono ?_); rintro e w2 ⟨vp, vv, vs, rfl, ho2, hb2⟩; obtain ⟨Ap2, Av2, As2, cp2, cv2, cs2, rfl, rfl, rfl, -⟩ := ho2.open; have HO2 := hide ho2; have HB2 := hide hb2; clear ho2 hb2 q0 q1 q2 q3 q4 q5))
  have HCED : Hid (Ced (w2.alloc (.cells #[.int .i64 c.prio, .int .i64 c.age, .int .i64 c.delay, .slice Ap2 c.ports.length cp2, .slice Av2 c.vlans.length cv2, .slice As2 c.stats.length cs2] 26)) w1.heap.size w2.heap.size c) := hide ⟨(unhide HB2).size, by have := (unhide HB2).size; simp; omega, _, _, _, heap_new _ _ _ rfl, (unhide HO2).below (below_alloc (Below.refl _ _) _)⟩
  have HB3 : Hid (Below w1.heap.size w1 (w2.alloc (.cells #[.int .i64 c.prio, .int .i64 c.age, .int .i64 c.delay, .slice Ap2 c.ports.length cp2, .slice Av2 c.vlans.length cv2, .slice As2 c.stats.length cs2] 26))) := hide (below_alloc (unhide HB2) _)
  generalize w2.alloc (.cells #[.int .i64 c.prio, .int .i64 c.age, .int .i64 c.delay, .slice Ap2 c.ports.length cp2, .slice Av2 c.vlans.length cv2, .slice As2 c.stats.length cs2] 26) = w3 at *
  generalize w2.heap.size = g at *
  have HRB : Hid (w.heap.size + 1 < w1.heap.size) := hide (lt_of_get (unhide HR1))
  go_loopg [22] n (fun gg s22 wr => ∃ (k : Nat) (d : Cfg), k ≤ n ∧ n - k ≤ gg ∧ s22 = .int .i64 k ∧ Aside (Ced wr w1.heap.size g d) ∧ Aside (Way d k) ∧ Aside (applyAll c (l.take k) = (0, d)) ∧ Aside (Below w1.heap.size w1 wr))
  case atStart => exact ⟨0, c, by omega, by omega, rfl, unhide HCED, unhide HW0, rfl, unhide HB3⟩
  case round =>
    obtain ⟨k, d, hk, hgg, rfl, CE, WA, AL, BW⟩ := hrel
    have HRr := hide ((BW.out.block _ (unhide HRB)).trans (unhide HR1))
    have HBr := hide (below_then (unhide HB1) BW.out)
    by_cases hlt : k < n
    · have hltz : (k : Int) < (n : Int) := by omega
      obtain ⟨b, off, hAA, hc⟩ := rowE_at (unhide HE0) (by have := unhide HN; omega)
      obtain ⟨e, he⟩ : ∃ e, l[k]? = some e := ⟨_, List.getElem?_eq_getElem (by have := unhide HN; omega)⟩
      subst hAA
      obtain ⟨c0, c1, c2, c3, c4, c5, c6⟩ := hc wr (unhide HBr) k e he
      have HAP := hide (apply_any w1.heap.size g d e k (wr.alloc (.cells (eCells e) 44)) WA.out (by omega) (CE.out.below (below_alloc (Below.refl _ _) _)))
      have HEE := hide he
      have HWN := hide (WA.out.next e (unhide HEM e (List.mem_of_getElem? he)))
      have HSN := hide (all_snoc c (l.take k) e (by rw [AL.out]))
      rw [AL.out, ← take_next he] at HSN
      have HB4 : Hid (Below w1.heap.size w1 (wr.alloc (.cells (eCells e) 44))) := hide (below_alloc BW.out _)
      clear hc he
      dsimp only [eCells] at HAP HB4
      by_cases hz : (applyE d e).1 = 0
      · rw [hz] at HAP
        have HZ := hide hz
        clear hz
        go_wp2_with (go_at_call 38; (with_reducible refine (unhide HAP).mono ?_); rintro x w4 ⟨rfl, hc4, hb4⟩; have HC4 := hide hc4; have HB5 := hide ((unhide HB4).trans hb4); clear hc4 hb4)
        go_roundg (n - (k + 1))
        case measure => omega
        case rel =>
          refine ⟨k + 1, _, by omega, by omega, by go_num, unhide HC4, unhide HWN, ?_, unhide HB5⟩
          show applyAll c (l.take (k + 1)) = _
          rw [unhide HSN]
          exact if_pos (unhide HZ)
      · have HZ := hide hz
        have hzb : ((applyE d e).1 != 0) = true := by simpa using hz
        clear hz
        generalize hen : (applyE d e).1 = en at *
        have HEN : Hid (editE c l = en) := hide (by
          have h1 : (applyAll c (l.take (k + 1))).1 = en := by rw [unhide HSN, if_neg (unhide HZ)]
          have h2 := all_stop c (l.take (k + 1)) (l.drop (k + 1)) (by rw [h1]; exact unhide HZ)
          rw [List.take_append_drop, h1] at h2
          rw [unhide HED, h2, if_pos (unhide HZ)])
        clear hen
        go_wp2_with (go_at_call 38; (with_reducible refine (unhide HAP).mono ?_); rintro x w4 ⟨rfl, hc4, hb4⟩; have HB5 := hide ((unhide HB4).trans hb4); have HR5 := hide (((unhide HB5).block _ (unhide HRB)).trans (unhide HR1)); obtain ⟨m0, l0⟩ := heap_cell (unhide HR5) 0; obtain ⟨m1, l1⟩ := heap_cell (unhide HR5) 1; obtain ⟨m2, l2⟩ := heap_cell (unhide HR5) 2; obtain ⟨m3, l3⟩ := heap_cell (unhide HR5) 3; obtain ⟨m4, l4⟩ := heap_cell (unhide HR5) 4; obtain ⟨m5, l5⟩ := heap_cell (unhide HR5) 5; clear hc4 hb4)
        have HBF := hide (below_then (unhide HB1) (unhide HB5))
        clear m0 m1 m2 m3 m4 m5 l0 l1 l2 l3 l4 l5
        refine ret_cell2 (g := w.heap.size + 1) (c := #[.int .i64 0, .int .i64 0, .int .i64 0, .slice none 0 0, .slice none 0 0, .slice none 0 0]) (t := 26) rfl rfl rfl rfl (heap_sets6 (unhide HR5) _ _ _ _ _ _) Try.underlying26 rfl Try.size26 (unhide HNO _ _ en (unhide HEN) (unhide HZ) rfl ?_)
        exact below_set (below_set (below_set (below_set (below_set (below_set (unhide HBF) _ _ _ (by omega)) _ _ _ (by omega)) _ _ _ (by omega)) _ _ _ (by omega)) _ _ _ (by omega)) _ _ _ (by omega)
    · obtain rfl : k = n := by omega
      have hltz : ¬ (k : Int) < (k : Int) := by omega
      have HAL : Hid (applyAll c l = (0, d)) := hide (by have := AL.out; rw [List.take_of_length_le (by have := unhide HN; omega)] at this; exact this)
      obtain ⟨-, -, vp, vv, vs, hH, hO⟩ := CE.out
      obtain ⟨Ap3, Av3, As3, cp3, cv3, cs3, rfl, rfl, rfl, hA3⟩ := hO.open
      obtain ⟨q0, -⟩ := heap_cell hH 0
      obtain ⟨q1, -⟩ := heap_cell hH 1
      obtain ⟨q2, -⟩ := heap_cell hH 2
      obtain ⟨q3, -⟩ := heap_cell hH 3
      obtain ⟨q4, -⟩ := heap_cell hH 4
      obtain ⟨q5, -⟩ := heap_cell hH 5
      have HH := hide hH
      have HO := hide hO
      have hLd := way_lens WA.out (by omega)
      have hMd := WA.out.mem
      cases hgd : goodB d with
      | false =>
        have HG := hide (good_f (cp := cp3) (cv := cv3) (cs := cs3) hgd hLd hMd wr hA3)
        have HEN : Hid (editE c l = 14) := hide (by rw [unhide HED, unhide HAL]; simp [hgd])
        clear hLd hMd hgd hA3 hH hO
        go_wp2_with (go_at_call 14; (with_reducible refine (unhide HG).mono ?_); rintro x w4 ⟨rfl, hb4⟩; have HR5 := hide (heap_keep (unhide HRr) hb4); obtain ⟨m0, l0⟩ := heap_cell (unhide HR5) 0; obtain ⟨m1, l1⟩ := heap_cell (unhide HR5) 1; obtain ⟨m2, l2⟩ := heap_cell (unhide HR5) 2; obtain ⟨m3, l3⟩ := heap_cell (unhide HR5) 3; obtain ⟨m4, l4⟩ := heap_cell (unhide HR5) 4; obtain ⟨m5, l5⟩ := heap_cell (unhide HR5) 5; have HBF := hide (below_then (unhide HBr) hb4); clear hb4 q0 q1 q2 q3 q4 q5)
        clear m0 m1 m2 m3 m4 m5 l0 l1 l2 l3 l4 l5
        refine ret_cell2 (g := w.heap.size + 1) (c := #[.int .i64 0, .int .i64 0, .int .i64 0, .slice none 0 0, .slice none 0 0, .slice none 0 0]) (t := 26) rfl rfl rfl rfl (heap_sets6 (unhide HR5) _ _ _ _ _ _) Try.underlying26 rfl Try.size26 (unhide HNO _ _ 14 (unhide HEN) (by decide) rfl ?_)
        exact below_set (below_set (below_set (below_set (below_set (below_set (unhide HBF) _ _ _ (by omega)) _ _ _ (by omega)) _ _ _ (by omega)) _ _ _ (by omega)) _ _ _ (by omega)) _ _ _ (by omega)
      | true =>
        have HG := hide (good_t (cp := cp3) (cv := cv3) (cs := cs3) hgd hLd hMd wr hA3)
        have HEN : Hid (editE c l = 0) := hide (by rw [unhide HED, unhide HAL]; simp [hgd])
        have HCD : Hid (editC c l = d) := hide (by rw [unhide HC, unhide HAL])
        clear hLd hMd hgd hA3 hH hO
        go_wp2_with (go_at_call 14; (with_reducible refine (unhide HG).mono ?_); rintro x w4 ⟨rfl, hb4⟩; have HR5 := hide (heap_keep (unhide HRr) hb4); obtain ⟨m0, l0⟩ := heap_cell (unhide HR5) 0; obtain ⟨m1, l1⟩ := heap_cell (unhide HR5) 1; obtain ⟨m2, l2⟩ := heap_cell (unhide HR5) 2; obtain ⟨m3, l3⟩ := heap_cell (unhide HR5) 3; obtain ⟨m4, l4⟩ := heap_cell (unhide HR5) 4; obtain ⟨m5, l5⟩ := heap_cell (unhide HR5) 5; have HBF := hide (below_then (unhide HBr) hb4); have hq := heap_keep (unhide HH) hb4; obtain ⟨p0, -⟩ := heap_cell hq 0; obtain ⟨p1, -⟩ := heap_cell hq 1; obtain ⟨p2, -⟩ := heap_cell hq 2; obtain ⟨p3, -⟩ := heap_cell hq 3; obtain ⟨p4, -⟩ := heap_cell hq 4; obtain ⟨p5, -⟩ := heap_cell hq 5; have HO4 := hide ((unhide HO).below hb4); clear hb4 hq q0 q1 q2 q3 q4 q5)
        clear m0 m1 m2 m3 m4 m5 l0 l1 l2 l3 l4 l5 p0 p1 p2 p3 p4 p5
        refine ret_cell2 (g := w.heap.size + 1) (c := #[.int .i64 d.prio, .int .i64 d.age, .int .i64 d.delay, .slice Ap3 d.ports.length cp3, .slice Av3 d.vlans.length cv3, .slice As3 d.stats.length cs3]) (t := 26) rfl rfl rfl rfl (heap_sets6 (unhide HR5) _ _ _ _ _ _) Try.underlying26 rfl Try.size26 ⟨?_, .inr ⟨unhide HEN, ?_⟩⟩
        · exact below_set (below_set (below_set (below_set (below_set (below_set (unhide HBF) _ _ _ (by omega)) _ _ _ (by omega)) _ _ _ (by omega)) _ _ _ (by omega)) _ _ _ (by omega)) _ _ _ (by omega)
        · rw [unhide HCD]
          have hlt := unhide HRB
          exact ⟨_, _, _, rfl, own_mono (own_sets6 (unhide HO4).1 (w.heap.size + 1) hlt _ _ _ _ _ _) (by omega), own_mono (own_sets6 (unhide HO4).2.1 (w.heap.size + 1) hlt _ _ _ _ _ _) (by omega), own_mono (own_sets6 (unhide HO4).2.2 (w.heap.size + 1) hlt _ _ _ _ _ _) (by omega)⟩
theorem edit_any (c : Cfg) (l : List Ed) (Ap Av As A : Option Addr) (cp cv cs ce : Nat) (hL : Lens c) (hM : Mems c) (w : World) (hA : CfgA w c Ap Av As) (hE : RowA w A (flE l)) (hl : l.length ≤ maxLen) (hEm : ∀ e ∈ l, 0 ≤ e.member ∧ e.member ≤ 255) :
    Calls Try.prog 19 #[.agg #[.int .i64 c.prio, .int .i64 c.age, .int .i64 c.delay, .slice Ap c.ports.length cp, .slice Av c.vlans.length cv, .slice As c.stats.length cs], .slice A l.length ce] w (EditPost w c l) := by
  cases hg : goodB c with
  | false => exact edit_bad c l Ap Av As A cp cv cs ce hL hM w hA hg
  | true =>
    rcases Nat.lt_or_ge 32 l.length with h | h
    · exact edit_many c l Ap Av As A cp cv cs ce hL hM w hA hg hl h
    · exact edit_go c l Ap Av As A cp cv cs ce hL hM w hA hE hEm hg h
end Go.Proofs.Ytbbadncdkiganaa
