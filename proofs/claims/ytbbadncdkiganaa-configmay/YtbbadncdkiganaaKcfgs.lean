/- weirgatekeep.Configs of two that are the same. -/
import Derived.Test.YtbbadncdkiganaaKwak
namespace Go.Proofs.Ytbbadncdkiganaa
open Go.RowKit
set_option linter.unusedVariables false
set_option maxRecDepth 4000
set_option maxHeartbeats 4000000 in
theorem configs_t (c : Cfg) (A1 A2 A3 B1 B2 B3 : Option Addr) (a1 a2 a3 b1 b2 b3 : Nat) (hL : Lens c) (w : World) (hA : CfgA w c A1 A2 A3) (hB : CfgA w c B1 B2 B3) :
    Calls Try.prog 17 #[.agg #[.int .i64 c.prio, .int .i64 c.age, .int .i64 c.delay, .slice A1 c.ports.length a1, .slice A2 c.vlans.length a2, .slice A3 c.stats.length a3], .agg #[.int .i64 c.prio, .int .i64 c.age, .int .i64 c.delay, .slice B1 c.ports.length b1, .slice B2 c.vlans.length b2, .slice B3 c.stats.length b3]] w fun e w' => e = .returned (.bool true) ∧ Below w.heap.size w w' := by
  have HA := hide hA
  have HB := hide hB
  have HW : Hid (Below w.heap.size w ((w.alloc (.cells #[.int .i64 c.prio, .int .i64 c.age, .int .i64 c.delay, .slice A1 c.ports.length a1, .slice A2 c.vlans.length a2, .slice A3 c.stats.length a3] 26)).alloc (.cells #[.int .i64 c.prio, .int .i64 c.age, .int .i64 c.delay, .slice B1 c.ports.length b1, .slice B2 c.vlans.length b2, .slice B3 c.stats.length b3] 26))) := hide (below_alloc (below_alloc (Below.refl _ _) _) _)
  have HX : Hid (((w.alloc (.cells #[.int .i64 c.prio, .int .i64 c.age, .int .i64 c.delay, .slice A1 c.ports.length a1, .slice A2 c.vlans.length a2, .slice A3 c.stats.length a3] 26)).alloc (.cells #[.int .i64 c.prio, .int .i64 c.age, .int .i64 c.delay, .slice B1 c.ports.length b1, .slice B2 c.vlans.length b2, .slice B3 c.stats.length b3] 26)).heap[w.heap.size]? = some (.cells #[.int .i64 c.prio, .int .i64 c.age, .int .i64 c.delay, .slice A1 c.ports.length a1, .slice A2 c.vlans.length a2, .slice A3 c.stats.length a3] 26 (0, 0))) := hide (by rw [Below.heap_alloc _ _ _ (by simp)]; exact heap_new _ _ _ rfl)
  have HY : Hid (((w.alloc (.cells #[.int .i64 c.prio, .int .i64 c.age, .int .i64 c.delay, .slice A1 c.ports.length a1, .slice A2 c.vlans.length a2, .slice A3 c.stats.length a3] 26)).alloc (.cells #[.int .i64 c.prio, .int .i64 c.age, .int .i64 c.delay, .slice B1 c.ports.length b1, .slice B2 c.vlans.length b2, .slice B3 c.stats.length b3] 26)).heap[w.heap.size + 1]? = some (.cells #[.int .i64 c.prio, .int .i64 c.age, .int .i64 c.delay, .slice B1 c.ports.length b1, .slice B2 c.vlans.length b2, .slice B3 c.stats.length b3] 26 (0, 0))) := hide (heap_new _ _ _ (by simp))
  obtain ⟨l1, l2, l3⟩ := hL
  unfold maxLen at l1 l2 l3
  obtain ⟨np, hnp⟩ : ∃ n, c.ports.length = n := ⟨_, rfl⟩
  obtain ⟨nv, hnv⟩ : ∃ n, c.vlans.length = n := ⟨_, rfl⟩
  obtain ⟨ns, hns⟩ : ∃ n, c.stats.length = n := ⟨_, rfl⟩
  have HNnp := hide hnp
  have HNnv := hide hnv
  have HNns := hide hns
  rw [hnp] at l1 HW HX HY
  rw [hnv] at l2 HW HX HY
  rw [hns] at l3 HW HX HY
  rw [hnp, hnv, hns]
  clear hA hB hnp hnv hns
  go_enter Try.func17, Try.ntmps17
  go_wp2
  generalize (w.alloc _).alloc _ = w0 at *
  go_loopg [5] np (fun gg s wr => ∃ kk : Nat, kk ≤ np ∧ np - kk ≤ gg ∧ s = .int .i64 kk ∧ Aside (Below w0.heap.size w0 wr))
  case atStart => exact ⟨0, Nat.zero_le _, by omega, rfl, Below.refl _ _⟩
  case round =>
    obtain ⟨kk, hkk, hg, rfl, BW⟩ := hrel
    have hq := heap_keep (unhide HX) BW.out
    have hr := heap_keep (unhide HY) BW.out
    obtain ⟨q3, -⟩ := heap_cell hq 3
    obtain ⟨q4, -⟩ := heap_cell hq 4
    obtain ⟨q5, -⟩ := heap_cell hq 5
    obtain ⟨r3, -⟩ := heap_cell hr 3
    obtain ⟨r4, -⟩ := heap_cell hr 4
    obtain ⟨r5, -⟩ := heap_cell hr 5
    clear hq hr
    by_cases hlt : kk < np
    · have hltz : (kk : Int) < (np : Int) := by omega
      obtain ⟨x, hx⟩ : ∃ v, c.ports[kk]? = some v := ⟨_, List.getElem?_eq_getElem (by have := unhide HNnp; omega)⟩
      obtain ⟨b, off, hb, hc⟩ := rowP_at (unhide HA).1 (by have := unhide HNnp; omega)
      obtain ⟨b', off', hb', hc'⟩ := rowP_at (unhide HB).1 (by have := unhide HNnp; omega)
      subst hb hb'
      obtain ⟨c0, c1, c2⟩ := hc wr (below_then (unhide HW) BW.out) kk x hx
      obtain ⟨d0, d1, d2⟩ := hc' wr (below_then (unhide HW) BW.out) kk x hx
      have hgd := fun op p q w => guardP op p q x x w
      have hne := fun w => neqP x x w
      rw [decide_eq_true rfl] at hne
      clear hc hc' hx
      go_wp2_with fail
      go_quiet (fail)
      go_wp2
      go_roundg (np - (kk + 1))
      case measure => omega
      case rel => exact ⟨kk + 1, by omega, by omega, by go_num, below_drewN BW.out _⟩
    · obtain rfl : kk = np := by omega
      have hltz : ¬ (kk : Int) < (kk : Int) := by omega
      go_wp2
      go_loopg [6] nv (fun gg s wr => ∃ kk : Nat, kk ≤ nv ∧ nv - kk ≤ gg ∧ s = .int .i64 kk ∧ Aside (Below w0.heap.size w0 wr))
      case atStart => exact ⟨0, Nat.zero_le _, by omega, rfl, BW.out⟩
      case round =>
        obtain ⟨kk, hkk, hg, rfl, BW⟩ := hrel
        have hq := heap_keep (unhide HX) BW.out
        have hr := heap_keep (unhide HY) BW.out
        obtain ⟨q3, -⟩ := heap_cell hq 3
        obtain ⟨q4, -⟩ := heap_cell hq 4
        obtain ⟨q5, -⟩ := heap_cell hq 5
        obtain ⟨r3, -⟩ := heap_cell hr 3
        obtain ⟨r4, -⟩ := heap_cell hr 4
        obtain ⟨r5, -⟩ := heap_cell hr 5
        clear hq hr
        by_cases hlt : kk < nv
        · have hltz : (kk : Int) < (nv : Int) := by omega
          obtain ⟨x, hx⟩ : ∃ v, c.vlans[kk]? = some v := ⟨_, List.getElem?_eq_getElem (by have := unhide HNnv; omega)⟩
          obtain ⟨b, off, hb, hc⟩ := rowV_at (unhide HA).2.1 (by have := unhide HNnv; omega)
          obtain ⟨b', off', hb', hc'⟩ := rowV_at (unhide HB).2.1 (by have := unhide HNnv; omega)
          subst hb hb'
          obtain ⟨c0, c1, c2⟩ := hc wr (below_then (unhide HW) BW.out) kk x hx
          obtain ⟨d0, d1, d2⟩ := hc' wr (below_then (unhide HW) BW.out) kk x hx
          have hgd := fun op p q w => guardV op p q x x w
          have hne := fun w => neqV x x w
          rw [decide_eq_true rfl] at hne
          clear hc hc' hx
          go_wp2_with fail
          go_quiet (fail)
          go_wp2
          go_roundg (nv - (kk + 1))
          case measure => omega
          case rel => exact ⟨kk + 1, by omega, by omega, by go_num, below_drewN BW.out _⟩
        · obtain rfl : kk = nv := by omega
          have hltz : ¬ (kk : Int) < (kk : Int) := by omega
          go_wp2
          go_loopg [7] ns (fun gg s wr => ∃ kk : Nat, kk ≤ ns ∧ ns - kk ≤ gg ∧ s = .int .i64 kk ∧ Aside (Below w0.heap.size w0 wr))
          case atStart => exact ⟨0, Nat.zero_le _, by omega, rfl, BW.out⟩
          case round =>
            obtain ⟨kk, hkk, hg, rfl, BW⟩ := hrel
            have hq := heap_keep (unhide HX) BW.out
            have hr := heap_keep (unhide HY) BW.out
            obtain ⟨q3, -⟩ := heap_cell hq 3
            obtain ⟨q4, -⟩ := heap_cell hq 4
            obtain ⟨q5, -⟩ := heap_cell hq 5
            obtain ⟨r3, -⟩ := heap_cell hr 3
            obtain ⟨r4, -⟩ := heap_cell hr 4
            obtain ⟨r5, -⟩ := heap_cell hr 5
            clear hq hr
            by_cases hlt : kk < ns
            · have hltz : (kk : Int) < (ns : Int) := by omega
              obtain ⟨x, hx⟩ : ∃ v, c.stats[kk]? = some v := ⟨_, List.getElem?_eq_getElem (by have := unhide HNns; omega)⟩
              obtain ⟨b, off, hb, hc⟩ := rowS_at (unhide HA).2.2 (by have := unhide HNns; omega)
              obtain ⟨b', off', hb', hc'⟩ := rowS_at (unhide HB).2.2 (by have := unhide HNns; omega)
              subst hb hb'
              obtain ⟨c0, c1, c2⟩ := hc wr (below_then (unhide HW) BW.out) kk x hx
              obtain ⟨d0, d1, d2⟩ := hc' wr (below_then (unhide HW) BW.out) kk x hx
              have hgd := fun op p q w => guardS op p q x x w
              have hne := fun w => neqS x x w
              rw [decide_eq_true rfl] at hne
              clear hc hc' hx
              go_wp2_with fail
              go_quiet (fail)
              go_wp2
              go_roundg (ns - (kk + 1))
              case measure => omega
              case rel => exact ⟨kk + 1, by omega, by omega, by go_num, below_drewN BW.out _⟩
            · obtain rfl : kk = ns := by omega
              have hltz : ¬ (kk : Int) < (kk : Int) := by omega
              go_wp2
              go_ret
              exact ⟨rfl, below_then (unhide HW) BW.out⟩
end Go.Proofs.Ytbbadncdkiganaa
