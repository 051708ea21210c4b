/- weirgatekeep.Configs of any two. -/
import Derived.Test.YtbbadncdkiganaaKcfgs
namespace Go.Proofs.Ytbbadncdkiganaa
open Go.RowKit
set_option linter.unusedVariables false
set_option maxRecDepth 4000
set_option maxHeartbeats 8000000 in
theorem configs_len (p a d : Int) (ps qs : List PortC) (vs us : List VlanC) (ss ts : List StatC) (np nv ns : Nat) (A1 A2 A3 B1 B2 B3 : Option Addr) (a1 a2 a3 b1 b2 b3 : Nat) (hp1 : ps.length = np) (hp2 : qs.length = np) (hv1 : vs.length = nv) (hv2 : us.length = nv) (hs1 : ss.length = ns) (hs2 : ts.length = ns)
    (l1 : np ≤ maxLen) (l2 : nv ≤ maxLen) (l3 : ns ≤ maxLen) (w : World) (hA : CfgA w ⟨p, a, d, ps, vs, ss⟩ A1 A2 A3) (hB : CfgA w ⟨p, a, d, qs, us, ts⟩ B1 B2 B3) :
    Calls Try.prog 17 #[.agg #[.int .i64 p, .int .i64 a, .int .i64 d, .slice A1 np a1, .slice A2 nv a2, .slice A3 ns a3], .agg #[.int .i64 p, .int .i64 a, .int .i64 d, .slice B1 np b1, .slice B2 nv b2, .slice B3 ns b3]] w fun e w' => e = .returned (.bool (decide (ps = qs) && decide (vs = us) && decide (ss = ts))) ∧ Below w.heap.size w w' := by
  have HA := hide hA
  have HB := hide hB
  have HW : Hid (Below w.heap.size w ((w.alloc (.cells #[.int .i64 p, .int .i64 a, .int .i64 d, .slice A1 np a1, .slice A2 nv a2, .slice A3 ns a3] 26)).alloc (.cells #[.int .i64 p, .int .i64 a, .int .i64 d, .slice B1 np b1, .slice B2 nv b2, .slice B3 ns b3] 26))) := hide (below_alloc (below_alloc (Below.refl _ _) _) _)
  have HX : Hid (((w.alloc (.cells #[.int .i64 p, .int .i64 a, .int .i64 d, .slice A1 np a1, .slice A2 nv a2, .slice A3 ns a3] 26)).alloc (.cells #[.int .i64 p, .int .i64 a, .int .i64 d, .slice B1 np b1, .slice B2 nv b2, .slice B3 ns b3] 26)).heap[w.heap.size]? = some (.cells #[.int .i64 p, .int .i64 a, .int .i64 d, .slice A1 np a1, .slice A2 nv a2, .slice A3 ns a3] 26 (0, 0))) := hide (by rw [Below.heap_alloc _ _ _ (by simp)]; exact heap_new _ _ _ rfl)
  have HY : Hid (((w.alloc (.cells #[.int .i64 p, .int .i64 a, .int .i64 d, .slice A1 np a1, .slice A2 nv a2, .slice A3 ns a3] 26)).alloc (.cells #[.int .i64 p, .int .i64 a, .int .i64 d, .slice B1 np b1, .slice B2 nv b2, .slice B3 ns b3] 26)).heap[w.heap.size + 1]? = some (.cells #[.int .i64 p, .int .i64 a, .int .i64 d, .slice B1 np b1, .slice B2 nv b2, .slice B3 ns b3] 26 (0, 0))) := hide (heap_new _ _ _ (by simp))
  unfold maxLen at l1 l2 l3
  have HP1 := hide hp1
  have HP2 := hide hp2
  have HV1 := hide hv1
  have HV2 := hide hv2
  have HS1 := hide hs1
  have HS2 := hide hs2
  clear hA hB hp1 hp2 hv1 hv2 hs1 hs2
  go_enter Try.func17, Try.ntmps17
  go_wp2
  generalize (w.alloc _).alloc _ = w0 at *
  go_loopg [5] np (fun gg s wr => ∃ kk : Nat, kk ≤ np ∧ np - kk ≤ gg ∧ s = .int .i64 kk ∧ Aside (Below w0.heap.size w0 wr) ∧ Aside (∀ j, j < kk → ps[j]? = qs[j]?))
  case atStart => exact ⟨0, Nat.zero_le _, by omega, rfl, Below.refl _ _, fun j hj => absurd hj (Nat.not_lt_zero _)⟩
  case round =>
    obtain ⟨kk, hkk, hg, rfl, BW, M⟩ := hrel
    have hq := heap_keep (unhide HX) BW.out
    have hr := heap_keep (unhide HY) BW.out
    obtain ⟨q3, -⟩ := heap_cell hq 3
    obtain ⟨q4, -⟩ := heap_cell hq 4
    obtain ⟨q5, -⟩ := heap_cell hq 5
    obtain ⟨r3, -⟩ := heap_cell hr 3
    obtain ⟨r4, -⟩ := heap_cell hr 4
    obtain ⟨r5, -⟩ := heap_cell hr 5
    clear hq hr
    by_cases hlt : kk < np
    · have hltz : (kk : Int) < (np : Int) := by omega
      obtain ⟨x, hx⟩ : ∃ v, ps[kk]? = some v := ⟨_, List.getElem?_eq_getElem (by have := unhide HP1; omega)⟩
      obtain ⟨y, hy⟩ : ∃ v, qs[kk]? = some v := ⟨_, List.getElem?_eq_getElem (by have := unhide HP2; omega)⟩
      obtain ⟨b, off, hb, hc⟩ := rowP_at (unhide HA).1 (by have := unhide HP1; show 0 < ps.length; omega)
      obtain ⟨b', off', hb', hc'⟩ := rowP_at (unhide HB).1 (by have := unhide HP2; show 0 < qs.length; omega)
      subst hb hb'
      obtain ⟨c0, c1, c2⟩ := hc wr (below_then (unhide HW) BW.out) kk x hx
      obtain ⟨d0, d1, d2⟩ := hc' wr (below_then (unhide HW) BW.out) kk y hy
      have hgd := fun op p q w => guardP op p q x y w
      have hne := fun w => neqP x y w
      have HXX := hide hx
      have HYY := hide hy
      clear hc hc' hx hy
      by_cases hxy : x = y
      · have HXY := hide hxy
        rw [decide_eq_true hxy] at hne
        clear hxy
        go_wp2_with fail
        go_quiet (fail)
        go_wp2
        go_roundg (np - (kk + 1))
        case measure => omega
        case rel => exact ⟨kk + 1, by omega, by omega, by go_num, below_drewN BW.out _, (show Aside _ from fun j hj => by
          by_cases e : j = kk
          · subst e; rw [unhide HXX, unhide HYY, unhide HXY]
          · exact M.out j (by omega))⟩
      · have HNE : Hid ((decide (ps = qs) && decide (vs = us) && decide (ss = ts)) = false) := by
          have : ¬ ps = qs := by intro e; apply hxy; have h1 := unhide HXX; rw [e, unhide HYY] at h1; cases h1; rfl
          show _ = _
          rw [decide_eq_false this]; simp
        rw [decide_eq_false hxy] at hne
        clear hxy
        go_wp2_with fail
        go_quiet (fail)
        go_wp2
        go_ret
        exact ⟨ret_bool (unhide HNE).symm, below_drewN (below_then (unhide HW) BW.out) _⟩
    · have hkn : kk = np := by omega
      have hltz : ¬ (kk : Int) < (np : Int) := by omega
      have E1 : Hid (ps = qs) := by
        show _ = _
        refine List.ext_getElem? fun j => ?_
        by_cases hj : j < np
        · exact M.out j (by omega)
        · rw [List.getElem?_eq_none (by have := unhide HP1; omega), List.getElem?_eq_none (by have := unhide HP2; omega)]
      clear hlt hkn
      go_wp2
      go_loopg [6] nv (fun gg s wr => ∃ kk : Nat, kk ≤ nv ∧ nv - kk ≤ gg ∧ s = .int .i64 kk ∧ Aside (Below w0.heap.size w0 wr) ∧ Aside (∀ j, j < kk → vs[j]? = us[j]?))
      case atStart => exact ⟨0, Nat.zero_le _, by omega, rfl, BW.out, fun j hj => absurd hj (Nat.not_lt_zero _)⟩
      case round =>
        obtain ⟨kk, hkk, hg, rfl, BW, M⟩ := hrel
        have hq := heap_keep (unhide HX) BW.out
        have hr := heap_keep (unhide HY) BW.out
        obtain ⟨q3, -⟩ := heap_cell hq 3
        obtain ⟨q4, -⟩ := heap_cell hq 4
        obtain ⟨q5, -⟩ := heap_cell hq 5
        obtain ⟨r3, -⟩ := heap_cell hr 3
        obtain ⟨r4, -⟩ := heap_cell hr 4
        obtain ⟨r5, -⟩ := heap_cell hr 5
        clear hq hr
        by_cases hlt : kk < nv
        · have hltz : (kk : Int) < (nv : Int) := by omega
          obtain ⟨x, hx⟩ : ∃ v, vs[kk]? = some v := ⟨_, List.getElem?_eq_getElem (by have := unhide HV1; omega)⟩
          obtain ⟨y, hy⟩ : ∃ v, us[kk]? = some v := ⟨_, List.getElem?_eq_getElem (by have := unhide HV2; omega)⟩
          obtain ⟨b, off, hb, hc⟩ := rowV_at (unhide HA).2.1 (by have := unhide HV1; show 0 < vs.length; omega)
          obtain ⟨b', off', hb', hc'⟩ := rowV_at (unhide HB).2.1 (by have := unhide HV2; show 0 < us.length; omega)
          subst hb hb'
          obtain ⟨c0, c1, c2⟩ := hc wr (below_then (unhide HW) BW.out) kk x hx
          obtain ⟨d0, d1, d2⟩ := hc' wr (below_then (unhide HW) BW.out) kk y hy
          have hgd := fun op p q w => guardV op p q x y w
          have hne := fun w => neqV x y w
          have HXX := hide hx
          have HYY := hide hy
          clear hc hc' hx hy
          by_cases hxy : x = y
          · have HXY := hide hxy
            rw [decide_eq_true hxy] at hne
            clear hxy
            go_wp2_with fail
            go_quiet (fail)
            go_wp2
            go_roundg (nv - (kk + 1))
            case measure => omega
            case rel => exact ⟨kk + 1, by omega, by omega, by go_num, below_drewN BW.out _, (show Aside _ from fun j hj => by
              by_cases e : j = kk
              · subst e; rw [unhide HXX, unhide HYY, unhide HXY]
              · exact M.out j (by omega))⟩
          · have HNE : Hid ((decide (ps = qs) && decide (vs = us) && decide (ss = ts)) = false) := by
              have : ¬ vs = us := by intro e; apply hxy; have h1 := unhide HXX; rw [e, unhide HYY] at h1; cases h1; rfl
              show _ = _
              rw [decide_eq_false this]; simp
            rw [decide_eq_false hxy] at hne
            clear hxy
            go_wp2_with fail
            go_quiet (fail)
            go_wp2
            go_ret
            exact ⟨ret_bool (unhide HNE).symm, below_drewN (below_then (unhide HW) BW.out) _⟩
        · have hkn : kk = nv := by omega
          have hltz : ¬ (kk : Int) < (nv : Int) := by omega
          have E2 : Hid (vs = us) := by
            show _ = _
            refine List.ext_getElem? fun j => ?_
            by_cases hj : j < nv
            · exact M.out j (by omega)
            · rw [List.getElem?_eq_none (by have := unhide HV1; omega), List.getElem?_eq_none (by have := unhide HV2; omega)]
          clear hlt hkn
          go_wp2
          go_loopg [7] ns (fun gg s wr => ∃ kk : Nat, kk ≤ ns ∧ ns - kk ≤ gg ∧ s = .int .i64 kk ∧ Aside (Below w0.heap.size w0 wr) ∧ Aside (∀ j, j < kk → ss[j]? = ts[j]?))
          case atStart => exact ⟨0, Nat.zero_le _, by omega, rfl, BW.out, fun j hj => absurd hj (Nat.not_lt_zero _)⟩
          case round =>
            obtain ⟨kk, hkk, hg, rfl, BW, M⟩ := hrel
            have hq := heap_keep (unhide HX) BW.out
            have hr := heap_keep (unhide HY) BW.out
            obtain ⟨q3, -⟩ := heap_cell hq 3
            obtain ⟨q4, -⟩ := heap_cell hq 4
            obtain ⟨q5, -⟩ := heap_cell hq 5
            obtain ⟨r3, -⟩ := heap_cell hr 3
            obtain ⟨r4, -⟩ := heap_cell hr 4
            obtain ⟨r5, -⟩ := heap_cell hr 5
            clear hq hr
            by_cases hlt : kk < ns
            · have hltz : (kk : Int) < (ns : Int) := by omega
              obtain ⟨x, hx⟩ : ∃ v, ss[kk]? = some v := ⟨_, List.getElem?_eq_getElem (by have := unhide HS1; omega)⟩
              obtain ⟨y, hy⟩ : ∃ v, ts[kk]? = some v := ⟨_, List.getElem?_eq_getElem (by have := unhide HS2; omega)⟩
              obtain ⟨b, off, hb, hc⟩ := rowS_at (unhide HA).2.2 (by have := unhide HS1; show 0 < ss.length; omega)
              obtain ⟨b', off', hb', hc'⟩ := rowS_at (unhide HB).2.2 (by have := unhide HS2; show 0 < ts.length; omega)
              subst hb hb'
              obtain ⟨c0, c1, c2⟩ := hc wr (below_then (unhide HW) BW.out) kk x hx
              obtain ⟨d0, d1, d2⟩ := hc' wr (below_then (unhide HW) BW.out) kk y hy
              have hgd := fun op p q w => guardS op p q x y w
              have hne := fun w => neqS x y w
              have HXX := hide hx
              have HYY := hide hy
              clear hc hc' hx hy
              by_cases hxy : x = y
              · have HXY := hide hxy
                rw [decide_eq_true hxy] at hne
                clear hxy
                go_wp2_with fail
                go_quiet (fail)
                go_wp2
                go_roundg (ns - (kk + 1))
                case measure => omega
                case rel => exact ⟨kk + 1, by omega, by omega, by go_num, below_drewN BW.out _, (show Aside _ from fun j hj => by
                  by_cases e : j = kk
                  · subst e; rw [unhide HXX, unhide HYY, unhide HXY]
                  · exact M.out j (by omega))⟩
              · have HNE : Hid ((decide (ps = qs) && decide (vs = us) && decide (ss = ts)) = false) := by
                  have : ¬ ss = ts := by intro e; apply hxy; have h1 := unhide HXX; rw [e, unhide HYY] at h1; cases h1; rfl
                  show _ = _
                  rw [decide_eq_false this]; simp
                rw [decide_eq_false hxy] at hne
                clear hxy
                go_wp2_with fail
                go_quiet (fail)
                go_wp2
                go_ret
                exact ⟨ret_bool (unhide HNE).symm, below_drewN (below_then (unhide HW) BW.out) _⟩
            · have hkn : kk = ns := by omega
              have hltz : ¬ (kk : Int) < (ns : Int) := by omega
              have E3 : Hid (ss = ts) := by
                show _ = _
                refine List.ext_getElem? fun j => ?_
                by_cases hj : j < ns
                · exact M.out j (by omega)
                · rw [List.getElem?_eq_none (by have := unhide HS1; omega), List.getElem?_eq_none (by have := unhide HS2; omega)]
              clear hlt hkn
              go_wp2
              go_ret
              exact ⟨ret_bool (by rw [unhide E1, unhide E2, unhide E3]; simp), below_then (unhide HW) BW.out⟩
set_option maxHeartbeats 4000000 in
theorem configs_hd (p a d p' a' d' : Int) (np nv ns np' nv' ns' : Nat) (A1 A2 A3 B1 B2 B3 : Option Addr) (a1 a2 a3 b1 b2 b3 : Nat) (l1 : np ≤ maxLen) (l2 : nv ≤ maxLen) (l3 : ns ≤ maxLen) (l1' : np' ≤ maxLen) (l2' : nv' ≤ maxLen) (l3' : ns' ≤ maxLen) (w : World)
    (h : ¬ (p = p' ∧ a = a' ∧ d = d' ∧ np = np' ∧ nv = nv' ∧ ns = ns')) :
    Calls Try.prog 17 #[.agg #[.int .i64 p, .int .i64 a, .int .i64 d, .slice A1 np a1, .slice A2 nv a2, .slice A3 ns a3], .agg #[.int .i64 p', .int .i64 a', .int .i64 d', .slice B1 np' b1, .slice B2 nv' b2, .slice B3 ns' b3]] w fun e w' => e = .returned (.bool false) ∧ Below w.heap.size w w' := by
  unfold maxLen at l1 l2 l3 l1' l2' l3'
  have HW : Hid (∀ o o', Below w.heap.size w ((w.alloc o).alloc o')) := hide (fun o o' => below_alloc (below_alloc (Below.refl _ _) _) _)
  by_cases h1 : p = p'
  · subst h1
    by_cases h2 : a = a'
    · subst h2
      by_cases h3 : d = d'
      · subst h3
        by_cases h4 : np = np'
        · subst h4
          by_cases h5 : nv = nv'
          · subst h5
            have h6 : ¬ (ns : Int) = (ns' : Int) := by intro e; exact h ⟨rfl, rfl, rfl, rfl, rfl, by omega⟩
            clear h
            go_enter Try.func17, Try.ntmps17
            go_wp2
            go_ret
            exact ⟨rfl, unhide HW _ _⟩
          · have h6 : ¬ (nv : Int) = (nv' : Int) := by omega
            clear h
            go_enter Try.func17, Try.ntmps17
            go_wp2
            go_ret
            exact ⟨rfl, unhide HW _ _⟩
        · have h6 : ¬ (np : Int) = (np' : Int) := by omega
          clear h
          go_enter Try.func17, Try.ntmps17
          go_wp2
          go_ret
          exact ⟨rfl, unhide HW _ _⟩
      · clear h
        go_enter Try.func17, Try.ntmps17
        go_wp2
        go_ret
        exact ⟨rfl, unhide HW _ _⟩
    · clear h
      go_enter Try.func17, Try.ntmps17
      go_wp2
      go_ret
      exact ⟨rfl, unhide HW _ _⟩
  · clear h
    go_enter Try.func17, Try.ntmps17
    go_wp2
    go_ret
    exact ⟨rfl, unhide HW _ _⟩
theorem configs_any (a b : Cfg) (A1 A2 A3 B1 B2 B3 : Option Addr) (a1 a2 a3 b1 b2 b3 : Nat) (hL : Lens a) (hL2 : Lens b) (w : World) (hA : CfgA w a A1 A2 A3) (hB : CfgA w b B1 B2 B3) :
    Calls Try.prog 17 #[.agg #[.int .i64 a.prio, .int .i64 a.age, .int .i64 a.delay, .slice A1 a.ports.length a1, .slice A2 a.vlans.length a2, .slice A3 a.stats.length a3], .agg #[.int .i64 b.prio, .int .i64 b.age, .int .i64 b.delay, .slice B1 b.ports.length b1, .slice B2 b.vlans.length b2, .slice B3 b.stats.length b3]] w fun e w' => e = .returned (.bool (sameB a b)) ∧ Below w.heap.size w w' := by
  by_cases h : a.prio = b.prio ∧ a.age = b.age ∧ a.delay = b.delay ∧ a.ports.length = b.ports.length ∧ a.vlans.length = b.vlans.length ∧ a.stats.length = b.stats.length
  · obtain ⟨h1, h2, h3, h4, h5, h6⟩ := h
    have := configs_len a.prio a.age a.delay a.ports b.ports a.vlans b.vlans a.stats b.stats _ _ _ A1 A2 A3 B1 B2 B3 a1 a2 a3 b1 b2 b3 rfl h4.symm rfl h5.symm rfl h6.symm hL.1 hL.2.1 hL.2.2 w hA hB
    rw [show sameB a b = (decide (a.ports = b.ports) && decide (a.vlans = b.vlans) && decide (a.stats = b.stats)) by simp [sameB, h1, h2, h3], ← h1, ← h2, ← h3, ← h4, ← h5, ← h6]
    exact this
  · have hs : sameB a b = false := by
      cases hh : sameB a b with
      | false => rfl
      | true =>
        simp only [sameB, Bool.and_eq_true, beq_iff_eq, decide_eq_true_eq] at hh
        obtain ⟨⟨⟨⟨⟨g1, g2⟩, g3⟩, g4⟩, g5⟩, g6⟩ := hh
        exact absurd ⟨g1, g2, g3, by rw [g4], by rw [g5], by rw [g6]⟩ h
    rw [hs]
    exact configs_hd _ _ _ _ _ _ _ _ _ _ _ _ A1 A2 A3 B1 B2 B3 a1 a2 a3 b1 b2 b3 hL.1 hL.2.1 hL.2.2 hL2.1 hL2.2.1 hL2.2.2 w h
end Go.Proofs.Ytbbadncdkiganaa
