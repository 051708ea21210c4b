/- A configuration's copy. -/
import Derived.Test.YtbbadncdkiganaaKall
namespace Go.Proofs.Ytbbadncdkiganaa
open Go.RowKit
set_option linter.unusedVariables false
set_option maxRecDepth 4000

theorem own_mono {w : World} {base base' : Nat} {e : TypeId} {size : Nat} {v : Value} {n : Nat} {xs : List Value} (h : w.ownsRow base e size v n xs) (hb : base' ≤ base) : w.ownsRow base' e size v n xs := by
  obtain ⟨hl, h2⟩ := h
  refine ⟨hl, ?_⟩
  rcases h2 with h0 | ⟨g, cap, cur, hv, hbg, r⟩
  · exact .inl h0
  · exact .inr ⟨g, cap, cur, hv, by omega, r⟩
theorem own_below {w W : World} {base : Nat} {e : TypeId} {size : Nat} {v : Value} {n : Nat} {xs : List Value} (h : w.ownsRow base e size v n xs) (hb : Below w.heap.size w W) : W.ownsRow base e size v n xs := by
  obtain ⟨hl, h2⟩ := h
  refine ⟨hl, ?_⟩
  rcases h2 with h0 | ⟨g, cap, cur, hv, hbg, hg, r⟩
  · exact .inl h0
  · exact .inr ⟨g, cap, cur, hv, hbg, by rw [hb.block g (lt_of_get hg)]; exact hg, r⟩
/-- What a row of the call's own looks like. -/
theorem own_row {w : World} {base : Nat} {e : TypeId} {v : Value} {n : Nat} {xs : List Value} (h : w.ownsRow base e 3 v n xs) : ∃ A cap, v = .slice A n cap ∧ RowA w A xs := by
  rcases h.2 with ⟨rfl, rfl⟩ | ⟨g, cap, cur, rfl, hb, hg, hnc, hcm, hcs, htk⟩
  · obtain rfl : xs = [] := List.length_eq_zero_iff.1 (by have := h.1; omega)
    exact ⟨none, 0, rfl, rowA_nil _ _⟩
  · exact ⟨_, cap, rfl, Blk.row (e := e) (cap := cap * 3) ⟨cur, hg, hcs, by rw [h.1]; exact htk⟩⟩
def CfgO (w : World) (base : Nat) (c : Cfg) (vp vv vs : Value) : Prop := w.ownsRow base 50 3 vp c.ports.length (fl encP c.ports) ∧ w.ownsRow base 46 3 vv c.vlans.length (fl encV c.vlans) ∧ w.ownsRow base 52 3 vs c.stats.length (fl encS c.stats)
theorem CfgO.below {w W : World} {base : Nat} {c : Cfg} {vp vv vs : Value} (h : CfgO w base c vp vv vs) (hb : Below w.heap.size w W) : CfgO W base c vp vv vs := ⟨own_below h.1 hb, own_below h.2.1 hb, own_below h.2.2 hb⟩
theorem CfgO.mono {w : World} {base base' : Nat} {c : Cfg} {vp vv vs : Value} (h : CfgO w base c vp vv vs) (hb : base' ≤ base) : CfgO w base' c vp vv vs := ⟨own_mono h.1 hb, own_mono h.2.1 hb, own_mono h.2.2 hb⟩
theorem CfgO.set {w : World} {base : Nat} {c : Cfg} {vp vv vs : Value} (h : CfgO w base c vp vv vs) {g : Nat} (hg : g < base) (i : Nat) (u : Value) : CfgO (w.setCell ⟨g, i, none⟩ u) base c vp vv vs :=
  ⟨ownsRow_setCell_below h.1 hg u, ownsRow_setCell_below h.2.1 hg u, ownsRow_setCell_below h.2.2 hg u⟩
theorem CfgO.open {w : World} {base : Nat} {c : Cfg} {vp vv vs : Value} (h : CfgO w base c vp vv vs) : ∃ Ap Av As cp cv cs, vp = .slice Ap c.ports.length cp ∧ vv = .slice Av c.vlans.length cv ∧ vs = .slice As c.stats.length cs ∧ CfgA w c Ap Av As := by
  obtain ⟨Ap, cp, e1, a1⟩ := own_row h.1
  obtain ⟨Av, cv, e2, a2⟩ := own_row h.2.1
  obtain ⟨As, cs, e3, a3⟩ := own_row h.2.2
  exact ⟨Ap, Av, As, cp, cv, cs, e1, e2, e3, a1, a2, a3⟩
theorem Try.info50 : (Try.prog.info? 50).map (fun i => (i.zero, i.size, i.bytes)) = some (some (.agg #[.bool false, .int .u32 0, .int .i64 0]), 3, 16) := by kernel_rfl
theorem Try.info46 : (Try.prog.info? 46).map (fun i => (i.zero, i.size, i.bytes)) = some (some (.agg #[.int .i64 0, .int .u8 0, .int .u8 0]), 3, 16) := by kernel_rfl
theorem Try.info52 : (Try.prog.info? 52).map (fun i => (i.zero, i.size, i.bytes)) = some (some (.agg #[.int .u64 0, .int .i64 0, .int .i64 0]), 3, 24) := by kernel_rfl
set_option maxHeartbeats 1000000 in
theorem freshP_any (A : Option Addr) (l : List PortC) (cap : Nat) (hl : l.length ≤ 100) (w : World) (hA : RowA w A (fl encP l)) :
    Calls Try.prog 24 #[.slice A l.length cap] w fun e w' => ∃ A' c', e = .returned (.slice A' l.length c') ∧ w'.ownsRow w.heap.size 50 3 (.slice A' l.length c') l.length (fl encP l) ∧ Below w.heap.size w w' := by
  obtain ⟨i0, hi, hz0, hz1, hz2⟩ := info_parts Try.info50
  have hlen := fl_len encP_len l
  go_enter Try.func24, Try.ntmps24
  go_wp2_with (refine wpList_append_row rfl _ _ 22 rfl w.heap.size 50 i0 _ 3 16 Try.underlying22 hi hz0 hz1 hz2 rfl (by decide) (by decide) _ 0 [] rfl (World.ownsRow_nil _ _ _ _) A l.length cap (fl encP l) rfl hlen hA (fl_one encP_one l) (by omega) (Nat.le_refl _) ?_; intro v' w' ho hgw hat; rw [Nat.zero_add, List.nil_append] at ho; have HO := hide ho; have HG := hide hgw; clear ho hgw hat)
  go_ret
  obtain ⟨A', c', rfl, _⟩ := own_row (unhide HO)
  exact ⟨A', c', rfl, unhide HO, (Below.refl _ _).grown (unhide HG) (Nat.le_refl _) (fun k hk => nomatch (show (none : Option Nat) = some k from hk))⟩
set_option maxHeartbeats 1000000 in
theorem freshV_any (A : Option Addr) (l : List VlanC) (cap : Nat) (hl : l.length ≤ 100) (w : World) (hA : RowA w A (fl encV l)) :
    Calls Try.prog 25 #[.slice A l.length cap] w fun e w' => ∃ A' c', e = .returned (.slice A' l.length c') ∧ w'.ownsRow w.heap.size 46 3 (.slice A' l.length c') l.length (fl encV l) ∧ Below w.heap.size w w' := by
  obtain ⟨i0, hi, hz0, hz1, hz2⟩ := info_parts Try.info46
  have hlen := fl_len encV_len l
  go_enter Try.func25, Try.ntmps25
  go_wp2_with (refine wpList_append_row rfl _ _ 23 rfl w.heap.size 46 i0 _ 3 16 Try.underlying23 hi hz0 hz1 hz2 rfl (by decide) (by decide) _ 0 [] rfl (World.ownsRow_nil _ _ _ _) A l.length cap (fl encV l) rfl hlen hA (fl_one encV_one l) (by omega) (Nat.le_refl _) ?_; intro v' w' ho hgw hat; rw [Nat.zero_add, List.nil_append] at ho; have HO := hide ho; have HG := hide hgw; clear ho hgw hat)
  go_ret
  obtain ⟨A', c', rfl, _⟩ := own_row (unhide HO)
  exact ⟨A', c', rfl, unhide HO, (Below.refl _ _).grown (unhide HG) (Nat.le_refl _) (fun k hk => nomatch (show (none : Option Nat) = some k from hk))⟩
set_option maxHeartbeats 1000000 in
theorem freshS_any (A : Option Addr) (l : List StatC) (cap : Nat) (hl : l.length ≤ 100) (w : World) (hA : RowA w A (fl encS l)) :
    Calls Try.prog 26 #[.slice A l.length cap] w fun e w' => ∃ A' c', e = .returned (.slice A' l.length c') ∧ w'.ownsRow w.heap.size 52 3 (.slice A' l.length c') l.length (fl encS l) ∧ Below w.heap.size w w' := by
  obtain ⟨i0, hi, hz0, hz1, hz2⟩ := info_parts Try.info52
  have hlen := fl_len encS_len l
  go_enter Try.func26, Try.ntmps26
  go_wp2_with (refine wpList_append_row rfl _ _ 24 rfl w.heap.size 52 i0 _ 3 24 Try.underlying24 hi hz0 hz1 hz2 rfl (by decide) (by decide) _ 0 [] rfl (World.ownsRow_nil _ _ _ _) A l.length cap (fl encS l) rfl hlen hA (fl_one encS_one l) (by omega) (Nat.le_refl _) ?_; intro v' w' ho hgw hat; rw [Nat.zero_add, List.nil_append] at ho; have HO := hide ho; have HG := hide hgw; clear ho hgw hat)
  go_ret
  obtain ⟨A', c', rfl, _⟩ := own_row (unhide HO)
  exact ⟨A', c', rfl, unhide HO, (Below.refl _ _).grown (unhide HG) (Nat.le_refl _) (fun k hk => nomatch (show (none : Option Nat) = some k from hk))⟩
theorem Try.size26 : (Try.prog.info? 26).map (·.size) = some 6 := by kernel_rfl
theorem heap_setC {w : World} {g : Nat} {c : Array Value} {t : TypeId} {h0 : Nat} (h : w.heap[h0]? = some (.cells c t (0, 0))) (hne : h0 ≠ g) (i : Nat) (v : Value) : (w.setCell ⟨g, i, none⟩ v).heap[h0]? = some (.cells c t (0, 0)) := by
  rw [Below.heap_setCell _ _ _ _ hne]; exact h
theorem own_sets6 {w : World} {base : Nat} {e : TypeId} {size : Nat} {v : Value} {n : Nat} {xs : List Value} (h : w.ownsRow base e size v n xs) (g : Nat) (hg : g < base) (u0 u1 u2 u3 u4 u5 : Value) :
    ((((((w.setCell ⟨g, 0, none⟩ u0).setCell ⟨g, 1, none⟩ u1).setCell ⟨g, 2, none⟩ u2).setCell ⟨g, 3, none⟩ u3).setCell ⟨g, 4, none⟩ u4).setCell ⟨g, 5, none⟩ u5).ownsRow base e size v n xs :=
  ownsRow_setCell_below (a := ⟨g, 5, none⟩) (ownsRow_setCell_below (a := ⟨g, 4, none⟩) (ownsRow_setCell_below (a := ⟨g, 3, none⟩) (ownsRow_setCell_below (a := ⟨g, 2, none⟩) (ownsRow_setCell_below (a := ⟨g, 1, none⟩) (ownsRow_setCell_below (a := ⟨g, 0, none⟩) h hg u0) hg u1) hg u2) hg u3) hg u4) hg u5
theorem heap_sets6 {w : World} {g : Nat} {x0 x1 x2 x3 x4 x5 : Value} {t : TypeId} (h : w.heap[g]? = some (.cells #[x0, x1, x2, x3, x4, x5] t (0, 0))) (u0 u1 u2 u3 u4 u5 : Value) :
    ((((((w.setCell ⟨g, 0, none⟩ u0).setCell ⟨g, 1, none⟩ u1).setCell ⟨g, 2, none⟩ u2).setCell ⟨g, 3, none⟩ u3).setCell ⟨g, 4, none⟩ u4).setCell ⟨g, 5, none⟩ u5).heap[g]? = some (.cells #[u0, u1, u2, u3, u4, u5] t (0, 0)) := by
  have := heap_set (heap_set (heap_set (heap_set (heap_set (heap_set h 0 u0) 1 u1) 2 u2) 3 u3) 4 u4) 5 u5
  simpa using this
set_option maxHeartbeats 4000000 in
theorem copy_any (c : Cfg) (Ap Av As : Option Addr) (cp cv cs : Nat) (h1 : c.ports.length ≤ 100) (h2 : c.vlans.length ≤ 100) (h3 : c.stats.length ≤ 100) (w : World) (hA : CfgA w c Ap Av As) :
    Calls Try.prog 13 #[.agg #[.int .i64 c.prio, .int .i64 c.age, .int .i64 c.delay, .slice Ap c.ports.length cp, .slice Av c.vlans.length cv, .slice As c.stats.length cs]] w fun e w' => ∃ vp vv vs, e = .returned (.agg #[.int .i64 c.prio, .int .i64 c.age, .int .i64 c.delay, vp, vv, vs]) ∧ CfgO w' w.heap.size c vp vv vs ∧ Below w.heap.size w w' := by
  have g1 := hide (fun W (hW : Below w.heap.size w W) => freshP_any Ap c.ports cp h1 W (rowA_below hA.1 hW))
  have g2 := hide (fun W (hW : Below w.heap.size w W) => freshV_any Av c.vlans cv h2 W (rowA_below hA.2.1 hW))
  have g3 := hide (fun W (hW : Below w.heap.size w W) => freshS_any As c.stats cs h3 W (rowA_below hA.2.2 hW))
  have hO : Hid (∀ W vp vv vs, W.ownsRow w.heap.size 50 3 vp c.ports.length (fl encP c.ports) → W.ownsRow w.heap.size 46 3 vv c.vlans.length (fl encV c.vlans) → W.ownsRow w.heap.size 52 3 vs c.stats.length (fl encS c.stats) → CfgO W w.heap.size c vp vv vs) := hide (fun W vp vv vs a b c => ⟨a, b, c⟩)
  obtain ⟨prio, age, delay, ports, vlans, stats⟩ := c
  dsimp only at *
  generalize ports.length = np at *
  generalize vlans.length = nv at *
  generalize stats.length = ns at *
  generalize fl encP ports = fp at *
  generalize fl encV vlans = fv at *
  generalize fl encS stats = fs at *
  clear h1 h2 h3 hA
  have HB : Hid (Below w.heap.size w ((w.alloc (.cells #[.int .i64 prio, .int .i64 age, .int .i64 delay, .slice Ap np cp, .slice Av nv cv, .slice As ns cs] 26)).alloc (.cells #[.int .i64 0, .int .i64 0, .int .i64 0, .slice none 0 0, .slice none 0 0, .slice none 0 0] 26))) := below_alloc (below_alloc (Below.refl _ _) _) _
  have k1 : Hid (((w.alloc (.cells #[.int .i64 prio, .int .i64 age, .int .i64 delay, .slice Ap np cp, .slice Av nv cv, .slice As ns cs] 26)).alloc (.cells #[.int .i64 0, .int .i64 0, .int .i64 0, .slice none 0 0, .slice none 0 0, .slice none 0 0] 26)).heap[w.heap.size]? = some (.cells #[.int .i64 prio, .int .i64 age, .int .i64 delay, .slice Ap np cp, .slice Av nv cv, .slice As ns cs] 26 (0, 0))) := hide (by rw [Below.heap_alloc _ _ _ (by simp)]; exact heap_new _ _ _ rfl)
  have k2 : Hid (((w.alloc (.cells #[.int .i64 prio, .int .i64 age, .int .i64 delay, .slice Ap np cp, .slice Av nv cv, .slice As ns cs] 26)).alloc (.cells #[.int .i64 0, .int .i64 0, .int .i64 0, .slice none 0 0, .slice none 0 0, .slice none 0 0] 26)).heap[w.heap.size + 1]? = some (.cells #[.int .i64 0, .int .i64 0, .int .i64 0, .slice none 0 0, .slice none 0 0, .slice none 0 0] 26 (0, 0))) := hide (heap_new _ _ _ (by simp))
  have hsz : Hid (w.heap.size + 2 = ((w.alloc (.cells #[.int .i64 prio, .int .i64 age, .int .i64 delay, .slice Ap np cp, .slice Av nv cv, .slice As ns cs] 26)).alloc (.cells #[.int .i64 0, .int .i64 0, .int .i64 0, .slice none 0 0, .slice none 0 0, .slice none 0 0] 26)).heap.size) := hide (by simp)
  go_enter Try.func13, Try.ntmps13
  go_wp2_with (first
    | (go_at_call 24; (with_reducible refine (unhide g1 _ (unhide HB)).mono ?_); rintro e w1 ⟨A1, c1, rfl, ho1, hb1⟩; have q1 := heap_keep (unhide k1) hb1; have q2 := heap_keep (unhide k2) hb1; obtain ⟨n3, f3⟩ := heap_cell q1 3; have K1 : Hid ((w1.setCell ⟨w.heap.size, 3, none⟩ (.slice A1 np c1)).heap[w.heap.size]? = some (.cells #[.int .i64 prio, .int .i64 age, .int .i64 delay, (.slice A1 np c1), .slice Av nv cv, .slice As ns cs] 26 (0, 0))) := hide (heap_set q1 3 (.slice A1 np c1)); have K2 := hide (heap_setC q2 (g := w.heap.size) (by omega) 3 (.slice A1 np c1)); have O1 := hide (ownsRow_setCell_below (a := ⟨w.heap.size, 3, none⟩) ho1 (by have := unhide hsz; show w.heap.size < _; omega) (.slice A1 np c1)); have B1 := hide (below_set (below_then (unhide HB) hb1) w.heap.size 3 (.slice A1 np c1) (Nat.le_refl _)); have SZ1 : Hid (w.heap.size + 2 ≤ (w1.setCell ⟨w.heap.size, 3, none⟩ (.slice A1 np c1)).heap.size) := hide (by have := hb1.size; have := unhide hsz; simp [World.setCell] at *; omega); obtain ⟨n4, f4⟩ := heap_cell (unhide K1) 4; clear q1 q2 ho1 hb1)
    | (go_at_call 25; (with_reducible refine (unhide g2 _ (unhide B1)).mono ?_); rintro e w2 ⟨A2, c2, rfl, ho2, hb2⟩; have q1 := heap_keep (unhide K1) hb2; have q2 := heap_keep (unhide K2) hb2; obtain ⟨n4, f4⟩ := heap_cell q1 4; have K3 : Hid ((w2.setCell ⟨w.heap.size, 4, none⟩ (.slice A2 nv c2)).heap[w.heap.size]? = some (.cells #[.int .i64 prio, .int .i64 age, .int .i64 delay, (.slice A1 np c1), (.slice A2 nv c2), .slice As ns cs] 26 (0, 0))) := hide (heap_set q1 4 (.slice A2 nv c2)); have K4 := hide (heap_setC q2 (g := w.heap.size) (by omega) 4 (.slice A2 nv c2)); have P1 := hide (ownsRow_setCell_below (a := ⟨w.heap.size, 4, none⟩) (own_below (unhide O1) hb2) (by have := unhide hsz; show w.heap.size < _; omega) (.slice A2 nv c2)); have P2 := hide (ownsRow_setCell_below (a := ⟨w.heap.size, 4, none⟩) (own_mono (base' := w.heap.size + 2) ho2 (by have := unhide SZ1; omega)) (by show w.heap.size < _; omega) (.slice A2 nv c2)); have B2 := hide (below_set (below_then (unhide B1) hb2) w.heap.size 4 (.slice A2 nv c2) (Nat.le_refl _)); have SZ2 : Hid (w.heap.size + 2 ≤ (w2.setCell ⟨w.heap.size, 4, none⟩ (.slice A2 nv c2)).heap.size) := hide (by have := hb2.size; have := unhide SZ1; simp [World.setCell] at *; omega); obtain ⟨n5, f5⟩ := heap_cell (unhide K3) 5; clear q1 q2 ho2 hb2)
    | (go_at_call 26; (with_reducible refine (unhide g3 _ (unhide B2)).mono ?_); rintro e w3 ⟨A3, c3, rfl, ho3, hb3⟩; have q1 := heap_keep (unhide K3) hb3; have q2 := heap_keep (unhide K4) hb3; obtain ⟨n5, f5⟩ := heap_cell q1 5; have K5 : Hid ((w3.setCell ⟨w.heap.size, 5, none⟩ (.slice A3 ns c3)).heap[w.heap.size]? = some (.cells #[.int .i64 prio, .int .i64 age, .int .i64 delay, (.slice A1 np c1), (.slice A2 nv c2), (.slice A3 ns c3)] 26 (0, 0))) := hide (heap_set q1 5 (.slice A3 ns c3)); have K6 := hide (heap_setC q2 (g := w.heap.size) (by omega) 5 (.slice A3 ns c3)); have R1 := hide (ownsRow_setCell_below (a := ⟨w.heap.size, 5, none⟩) (own_mono (base' := w.heap.size + 2) (own_below (unhide P1) hb3) (by have := unhide hsz; omega)) (by show w.heap.size < _; omega) (.slice A3 ns c3)); have R2 := hide (ownsRow_setCell_below (a := ⟨w.heap.size, 5, none⟩) (own_below (unhide P2) hb3) (by show w.heap.size < _; omega) (.slice A3 ns c3)); have R3 := hide (ownsRow_setCell_below (a := ⟨w.heap.size, 5, none⟩) (own_mono (base' := w.heap.size + 2) ho3 (by have := unhide SZ2; omega)) (by show w.heap.size < _; omega) (.slice A3 ns c3)); have B3 := hide (below_set (below_then (unhide B2) hb3) w.heap.size 5 (.slice A3 ns c3) (Nat.le_refl _)); obtain ⟨a0, b0⟩ := heap_cell (unhide K5) 0; obtain ⟨m0, l0⟩ := heap_cell (unhide K6) 0; obtain ⟨a1, b1⟩ := heap_cell (unhide K5) 1; obtain ⟨m1, l1⟩ := heap_cell (unhide K6) 1; obtain ⟨a2, b2⟩ := heap_cell (unhide K5) 2; obtain ⟨m2, l2⟩ := heap_cell (unhide K6) 2; obtain ⟨a3, b3⟩ := heap_cell (unhide K5) 3; obtain ⟨m3, l3⟩ := heap_cell (unhide K6) 3; obtain ⟨a4, b4⟩ := heap_cell (unhide K5) 4; obtain ⟨m4, l4⟩ := heap_cell (unhide K6) 4; obtain ⟨a5, b5⟩ := heap_cell (unhide K5) 5; obtain ⟨m5, l5⟩ := heap_cell (unhide K6) 5; clear q1 q2 hb3 ho3))
  clear a0 a1 a2 a3 a4 a5 b0 b1 b2 b3 b4 b5 m0 m1 m2 m3 m4 m5 l0 l1 l2 l3 l4 l5
  refine ret_cell1 (g := w.heap.size + 1) (c := #[.int .i64 prio, .int .i64 age, .int .i64 delay, .slice A1 np c1, .slice A2 nv c2, .slice A3 ns c3]) (t := 26) rfl rfl rfl (heap_sets6 (unhide K6) _ _ _ _ _ _) Try.underlying26 rfl Try.size26 ⟨_, _, _, rfl, ?_, ?_⟩
  · exact unhide hO _ _ _ _ (own_mono (own_sets6 (unhide R1) (w.heap.size + 1) (by omega) (.int .i64 prio) (.int .i64 age) (.int .i64 delay) _ _ _) (by omega)) (own_mono (own_sets6 (unhide R2) (w.heap.size + 1) (by omega) (.int .i64 prio) (.int .i64 age) (.int .i64 delay) _ _ _) (by omega)) (own_mono (own_sets6 (unhide R3) (w.heap.size + 1) (by omega) (.int .i64 prio) (.int .i64 age) (.int .i64 delay) _ _ _) (by omega))
  · exact below_set (below_set (below_set (below_set (below_set (below_set (unhide B3) (w.heap.size + 1) 0 (.int .i64 prio) (by omega)) _ 1 (.int .i64 age) (by omega)) _ 2 (.int .i64 delay) (by omega)) _ 3 _ (by omega)) _ 4 _ (by omega)) _ 5 _ (by omega)
end Go.Proofs.Ytbbadncdkiganaa
