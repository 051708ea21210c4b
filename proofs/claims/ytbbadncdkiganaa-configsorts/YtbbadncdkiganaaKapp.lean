/- One edit: numbers and ports. -/
import Derived.Test.YtbbadncdkiganaaKport
namespace Go.Proofs.Ytbbadncdkiganaa
open Go.RowKit
set_option linter.unusedVariables false
set_option maxRecDepth 4000

/-- A configuration that is being edited: its variable, its lists. -/
def Ced (w : World) (base g : Nat) (c : Cfg) : Prop := base ≤ g ∧ base ≤ w.heap.size ∧ ∃ vp vv vs, w.heap[g]? = some (.cells #[.int .i64 c.prio, .int .i64 c.age, .int .i64 c.delay, vp, vv, vs] 26 (0, 0)) ∧ CfgO w base c vp vv vs
theorem own_ne {w : World} {base : Nat} {e : TypeId} {size : Nat} {v : Value} {n : Nat} {xs : List Value} (h : w.ownsRow base e size v n xs) {g : Nat} {c : Array Value} {t : TypeId} {fr : Nat × Nat} (hg : w.heap[g]? = some (.cells c t fr)) (ht : t ≠ e) : v.ownBlock ≠ some g := by
  intro hk
  rcases h.2 with ⟨rfl, _⟩ | ⟨g', cap, cur, rfl, _, hg', _⟩
  · cases hk
  · cases hk
    rw [hg] at hg'
    cases hg'
    exact ht rfl
theorem own_apart {w : World} {base base' : Nat} {e e' : TypeId} {size size' : Nat} {v v' : Value} {n n' : Nat} {xs xs' : List Value} (h : w.ownsRow base e size v n xs) (h' : w.ownsRow base' e' size' v' n' xs') (ht : e ≠ e') : ∀ k, v.ownBlock = some k → some k ≠ v'.ownBlock := by
  intro k hk hk'
  rcases h.2 with ⟨rfl, _⟩ | ⟨g, cap, cur, rfl, _, hg, _⟩
  · cases hk
  · cases hk
    exact own_ne h' hg ht hk'.symm
theorem own_set_other {w : World} {base : Nat} {e : TypeId} {size : Nat} {v : Value} {n : Nat} {xs : List Value} (h : w.ownsRow base e size v n xs) {g : Nat} (hne : v.ownBlock ≠ some g) (i : Nat) (u : Value) : (w.setCell ⟨g, i, none⟩ u).ownsRow base e size v n xs :=
  own_grown_other h (grown_set w g i u) (fun k hk e => by cases e; exact hne hk)
theorem below_base {w w' : World} {base : Nat} {r : Option Nat} (h : w.grownBy w' r) (hb : base ≤ w.heap.size) (hr : ∀ k, r = some k → base ≤ k) : Below base w w' :=
  ⟨h.os, h.tape, h.output, h.size, fun k hk => h.block k (by omega) (by intro e; have := hr k e.symm; omega)⟩
theorem heap_grown {w w' : World} {r : Option Nat} {g : Nat} {o : Obj} (h : w.heap[g]? = some o) (hg : w.grownBy w' r) (hr : some g ≠ r) : w'.heap[g]? = some o := (hg.block g (lt_of_get h) hr).trans h
theorem CfgO.set_other {w : World} {base : Nat} {c : Cfg} {vp vv vs : Value} (h : CfgO w base c vp vv vs) {g : Nat} {cc : Array Value} {fr : Nat × Nat} (hg : w.heap[g]? = some (.cells cc 26 fr)) (i : Nat) (u : Value) : CfgO (w.setCell ⟨g, i, none⟩ u) base c vp vv vs :=
  ⟨own_set_other h.1 (own_ne h.1 hg (by decide)) i u, own_set_other h.2.1 (own_ne h.2.1 hg (by decide)) i u, own_set_other h.2.2 (own_ne h.2.2 hg (by decide)) i u⟩
def eCells (e : Ed) : Array Value := #[.int .i64 e.kind, .int .i64 e.port, .int .i64 e.n, .int .i64 e.vlan, .int .u8 e.member, .int .u8 e.tagged, .int .u64 e.mac]
set_option maxHeartbeats 4000000 in
theorem apply_num (base g : Nat) (c : Cfg) (e : Ed) (w : World) (hC : Ced w base g c) (hk : e.kind = 1 ∨ e.kind = 2 ∨ e.kind = 3 ∨ ¬ (1 ≤ e.kind ∧ e.kind ≤ 10)) :
    Calls Try.prog 38 #[.pointer (some ⟨g, 0, none⟩), .agg #[.int .i64 e.kind, .int .i64 e.port, .int .i64 e.n, .int .i64 e.vlan, .int .u8 e.member, .int .u8 e.tagged, .int .u64 e.mac]] w fun x w' => x = .returned (.int .i64 (applyE c e).1) ∧ Ced w' base g (applyE c e).2 ∧ Below base w w' := by
  obtain ⟨hbg, hbw, vp, vv, vs, hH, hO⟩ := hC
  have hb1 : Below w.heap.size w (w.alloc (.cells (eCells e) 44)) := below_alloc (Below.refl _ _) _
  have hB := hide (hb1.mono hbw)
  have hH1 := heap_keep hH hb1
  have HO := hide (hO.below hb1)
  have HS := hide hb1.size
  obtain ⟨kind, port, nn, vlan, member, tagged, mac⟩ := e
  dsimp only [eCells] at *
  obtain ⟨prio, age, delay, ports, vlans, stats⟩ := c
  dsimp only at *
  obtain ⟨m0, l0⟩ := heap_cell hH1 0
  obtain ⟨m1, l1⟩ := heap_cell hH1 1
  obtain ⟨m2, l2⟩ := heap_cell hH1 2
  have HH := hide hH1
  clear hH hO hH1 hb1
  rcases hk with h | h | h | h
  · subst h
    go_enter Try.func38, Try.ntmps38
    go_wp2
    go_ret
    exact ⟨rfl, ⟨hbg, by simp [World.setCell]; omega, vp, vv, vs, heap_set (unhide HH) 0 (.int .i64 nn), (unhide HO).set_other (unhide HH) _ _⟩, (unhide hB).setCell hbg _⟩
  · subst h
    go_enter Try.func38, Try.ntmps38
    go_wp2
    go_ret
    exact ⟨rfl, ⟨hbg, by simp [World.setCell]; omega, vp, vv, vs, heap_set (unhide HH) 1 (.int .i64 nn), (unhide HO).set_other (unhide HH) _ _⟩, (unhide hB).setCell hbg _⟩
  · subst h
    go_enter Try.func38, Try.ntmps38
    go_wp2
    go_ret
    exact ⟨rfl, ⟨hbg, by simp [World.setCell]; omega, vp, vv, vs, heap_set (unhide HH) 2 (.int .i64 nn), (unhide HO).set_other (unhide HH) _ _⟩, (unhide hB).setCell hbg _⟩
  · have n1 : ¬ kind = 1 := by omega
    have n2 : ¬ kind = 2 := by omega
    have n3 : ¬ kind = 3 := by omega
    have n4 : ¬ kind = 4 := by omega
    have n5 : ¬ kind = 5 := by omega
    have n6 : ¬ kind = 6 := by omega
    have n7 : ¬ kind = 7 := by omega
    have n8 : ¬ kind = 8 := by omega
    have n9 : ¬ kind = 9 := by omega
    have n10 : ¬ kind = 10 := by omega
    have hA : Hid (applyE ⟨prio, age, delay, ports, vlans, stats⟩ ⟨kind, port, nn, vlan, member, tagged, mac⟩ = (11, ⟨prio, age, delay, ports, vlans, stats⟩)) := hide (by simp [applyE, n1, n2, n3, n4, n5, n6, n7, n8, n9, n10])
    rw [unhide hA]
    clear h
    go_enter Try.func38, Try.ntmps38
    go_wp2
    go_ret
    exact ⟨rfl, ⟨hbg, by simp; omega, vp, vv, vs, unhide HH, unhide HO⟩, unhide hB⟩
set_option maxHeartbeats 4000000 in
theorem apply_port (base g : Nat) (c : Cfg) (e : Ed) (w : World) (hl : c.ports.length ≤ 100) (hC : Ced w base g c) (hk : e.kind = 4 ∨ e.kind = 5 ∨ e.kind = 6) :
    Calls Try.prog 38 #[.pointer (some ⟨g, 0, none⟩), .agg #[.int .i64 e.kind, .int .i64 e.port, .int .i64 e.n, .int .i64 e.vlan, .int .u8 e.member, .int .u8 e.tagged, .int .u64 e.mac]] w fun x w' => x = .returned (.int .i64 (applyE c e).1) ∧ Ced w' base g (applyE c e).2 ∧ Below base w w' := by
  obtain ⟨hbg, hbw, vp, vv, vs, hH, hO⟩ := hC
  have hb1 : Below w.heap.size w (w.alloc (.cells (eCells e) 44)) := below_alloc (Below.refl _ _) _
  have hB := hide (hb1.mono hbw)
  have hH1 := heap_keep hH hb1
  have hO1 := hO.below hb1
  have HS := hide hb1.size
  have hA : applyE c e = ((portE c.ports e).1, { c with ports := (portE c.ports e).2 }) := by
    unfold applyE
    rw [if_neg (by omega), if_neg (by omega), if_neg (by omega), if_pos hk]
  rw [hA]
  have hlen : (portE c.ports e).2.length = c.ports.length := by
    unfold portE
    split
    · rfl
    · repeat' split
      all_goals simp
  have hP := fun W hW => port_any base c.ports vp e W hl (own_below hO1.1 hW)
  obtain ⟨Ap, cp, hvp, -⟩ := own_row hO1.1
  subst hvp
  have HFIN : Hid (∀ W w2, Below (w.alloc (.cells (eCells e) 44)).heap.size (w.alloc (.cells (eCells e) 44)) W → w2.ownsRow base 50 3 (.slice Ap c.ports.length cp) c.ports.length (fl encP (portE c.ports e).2) → W.grownBy w2 (Value.slice Ap c.ports.length cp).ownBlock → Ced w2 base g { c with ports := (portE c.ports e).2 } ∧ Below base w w2) := hide (fun W w2 hW h1 h2 => by
    have hO2 := hO1.below hW
    have hH2 := heap_keep hH1 hW
    have hbw2 : base ≤ W.heap.size := by have := hW.size; have := unhide HS; omega
    refine ⟨⟨hbg, by have := h2.size; omega, _, vv, vs, heap_grown hH2 h2 (fun e => own_ne hO2.1 hH2 (by decide) e.symm), ?_, own_grown_other hO2.2.1 h2 (own_apart hO2.2.1 hO2.1 (by decide)), own_grown_other hO2.2.2 h2 (own_apart hO2.2.2 hO2.1 (by decide))⟩, ?_⟩
    · show w2.ownsRow base 50 3 _ (portE c.ports e).2.length _
      rw [hlen]
      exact h1
    · refine ((unhide hB).trans (hW.mono (by have := unhide HS; omega))).trans (below_base h2 hbw2 (fun k hk => ?_))
      rcases hO2.1.2 with ⟨h, _⟩ | ⟨g', cap, cur, h, hb', _⟩
      · rw [h] at hk; cases hk
      · rw [h] at hk; cases hk; exact hb')
  have HE1 := hide (heap_new w (.cells (eCells e) 44) w.heap.size rfl)
  have HG1 := hide hH1
  have HNE := hide (own_ne hO1.1 hH1 (by decide))
  have HNE2 := hide (own_ne hO1.1 (unhide HE1) (by decide))
  have HP := hide hP
  clear hH hO hH1 hO1 hb1 hA hP hlen
  generalize (portE c.ports e).1 = pe at *
  generalize (portE c.ports e).2 = pp at *
  generalize c.ports.length = n at *
  obtain ⟨kind, port, nn, vlan, member, tagged, mac⟩ := e
  dsimp only [eCells] at *
  have HK := hide (fun (W : World) (h1 : W.heap[g]? = some (.cells #[.int .i64 c.prio, .int .i64 c.age, .int .i64 c.delay, .slice Ap n cp, vv, vs] 26 (0, 0))) (h2 : W.heap[w.heap.size]? = some (.cells #[.int .i64 kind, .int .i64 port, .int .i64 nn, .int .i64 vlan, .int .u8 member, .int .u8 tagged, .int .u64 mac] 44 (0, 0))) => (⟨(heap_cell h1 3).1, (heap_cell h2 0).1, (heap_cell h2 1).1, (heap_cell h2 2).1, (heap_cell h2 3).1, (heap_cell h2 4).1, (heap_cell h2 5).1, (heap_cell h2 6).1⟩ : W.cell? ⟨g, 3, none⟩ = some (.slice Ap n cp) ∧ W.cell? ⟨w.heap.size, 0, none⟩ = some (.int .i64 kind) ∧ W.cell? ⟨w.heap.size, 1, none⟩ = some (.int .i64 port) ∧ W.cell? ⟨w.heap.size, 2, none⟩ = some (.int .i64 nn) ∧ W.cell? ⟨w.heap.size, 3, none⟩ = some (.int .i64 vlan) ∧ W.cell? ⟨w.heap.size, 4, none⟩ = some (.int .u8 member) ∧ W.cell? ⟨w.heap.size, 5, none⟩ = some (.int .u8 tagged) ∧ W.cell? ⟨w.heap.size, 6, none⟩ = some (.int .u64 mac)))
  rcases hk with h | h | h
  · subst h
    go_enter Try.func38, Try.ntmps38
    go_wp2
    generalize w.alloc (.cells #[.int .i64 4, .int .i64 port, .int .i64 nn, .int .i64 vlan, .int .u8 member, .int .u8 tagged, .int .u64 mac] 44) = w1 at *
    go_region_held3 (fun W => W.cell? ⟨g, 3, none⟩ = some (.slice Ap n cp) ∧ W.cell? ⟨w.heap.size, 0, none⟩ = some (.int .i64 4) ∧ W.cell? ⟨w.heap.size, 1, none⟩ = some (.int .i64 port) ∧ W.cell? ⟨w.heap.size, 2, none⟩ = some (.int .i64 nn) ∧ W.cell? ⟨w.heap.size, 3, none⟩ = some (.int .i64 vlan) ∧ W.cell? ⟨w.heap.size, 4, none⟩ = some (.int .u8 member) ∧ W.cell? ⟨w.heap.size, 5, none⟩ = some (.int .u8 tagged) ∧ W.cell? ⟨w.heap.size, 6, none⟩ = some (.int .u64 mac))
      ((first | exact unhide HK _ (unhide HG2) (unhide HE2) | exact unhide HK _ (unhide HG1) (unhide HE1)))
      (first | (go_at_call 51; (refine (unhide HP w1.drew (Below.drew (Below.refl _ _))).mono ?_; rintro x w2 ⟨rfl, ho2, hg2⟩; have HG2 := hide (heap_grown (w := w1.drew) (unhide HG1) hg2 (fun e => unhide HNE e.symm)); have HE2 := hide (heap_grown (w := w1.drew) (unhide HE1) hg2 (fun e => unhide HNE2 e.symm)); have HF := hide (unhide HFIN w1.drew w2 (Below.drew (Below.refl _ _)) ho2 hg2); clear ho2 hg2)))
    all_goals
      go_wp2
      go_ret
      exact ⟨rfl, (unhide HF).1, (unhide HF).2⟩
  · subst h
    go_enter Try.func38, Try.ntmps38
    go_wp2
    generalize w.alloc (.cells #[.int .i64 5, .int .i64 port, .int .i64 nn, .int .i64 vlan, .int .u8 member, .int .u8 tagged, .int .u64 mac] 44) = w1 at *
    go_region_held3 (fun W => W.cell? ⟨g, 3, none⟩ = some (.slice Ap n cp) ∧ W.cell? ⟨w.heap.size, 0, none⟩ = some (.int .i64 5) ∧ W.cell? ⟨w.heap.size, 1, none⟩ = some (.int .i64 port) ∧ W.cell? ⟨w.heap.size, 2, none⟩ = some (.int .i64 nn) ∧ W.cell? ⟨w.heap.size, 3, none⟩ = some (.int .i64 vlan) ∧ W.cell? ⟨w.heap.size, 4, none⟩ = some (.int .u8 member) ∧ W.cell? ⟨w.heap.size, 5, none⟩ = some (.int .u8 tagged) ∧ W.cell? ⟨w.heap.size, 6, none⟩ = some (.int .u64 mac))
      ((first | exact unhide HK _ (unhide HG2) (unhide HE2) | exact unhide HK _ (unhide HG1) (unhide HE1)))
      (first | (go_at_call 51; (refine (unhide HP w1.drew (Below.drew (Below.refl _ _))).mono ?_; rintro x w2 ⟨rfl, ho2, hg2⟩; have HG2 := hide (heap_grown (w := w1.drew) (unhide HG1) hg2 (fun e => unhide HNE e.symm)); have HE2 := hide (heap_grown (w := w1.drew) (unhide HE1) hg2 (fun e => unhide HNE2 e.symm)); have HF := hide (unhide HFIN w1.drew w2 (Below.drew (Below.refl _ _)) ho2 hg2); clear ho2 hg2)))
    all_goals
      go_wp2
      go_ret
      exact ⟨rfl, (unhide HF).1, (unhide HF).2⟩
  · subst h
    go_enter Try.func38, Try.ntmps38
    go_wp2
    generalize w.alloc (.cells #[.int .i64 6, .int .i64 port, .int .i64 nn, .int .i64 vlan, .int .u8 member, .int .u8 tagged, .int .u64 mac] 44) = w1 at *
    go_region_held3 (fun W => W.cell? ⟨g, 3, none⟩ = some (.slice Ap n cp) ∧ W.cell? ⟨w.heap.size, 0, none⟩ = some (.int .i64 6) ∧ W.cell? ⟨w.heap.size, 1, none⟩ = some (.int .i64 port) ∧ W.cell? ⟨w.heap.size, 2, none⟩ = some (.int .i64 nn) ∧ W.cell? ⟨w.heap.size, 3, none⟩ = some (.int .i64 vlan) ∧ W.cell? ⟨w.heap.size, 4, none⟩ = some (.int .u8 member) ∧ W.cell? ⟨w.heap.size, 5, none⟩ = some (.int .u8 tagged) ∧ W.cell? ⟨w.heap.size, 6, none⟩ = some (.int .u64 mac))
      ((first | exact unhide HK _ (unhide HG2) (unhide HE2) | exact unhide HK _ (unhide HG1) (unhide HE1)))
      (first | (go_at_call 51; (refine (unhide HP w1.drew (Below.drew (Below.refl _ _))).mono ?_; rintro x w2 ⟨rfl, ho2, hg2⟩; have HG2 := hide (heap_grown (w := w1.drew) (unhide HG1) hg2 (fun e => unhide HNE e.symm)); have HE2 := hide (heap_grown (w := w1.drew) (unhide HE1) hg2 (fun e => unhide HNE2 e.symm)); have HF := hide (unhide HFIN w1.drew w2 (Below.drew (Below.refl _ _)) ho2 hg2); clear ho2 hg2)))
    all_goals
      go_wp2
      go_ret
      exact ⟨rfl, (unhide HF).1, (unhide HF).2⟩
end Go.Proofs.Ytbbadncdkiganaa
