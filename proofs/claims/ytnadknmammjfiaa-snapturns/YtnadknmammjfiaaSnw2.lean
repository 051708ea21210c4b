/- snap: newest, spare. -/
import Derived.Test.YtnadknmammjfiaaSnew
namespace Go.Proofs.Ytnadknmammjfiaa
open Go.RowKit
set_option linter.unusedVariables false
set_option maxRecDepth 4000

/-- The loop's state: what was found so far lies in its own block. -/
structure Best (w wr : World) (x : Option (Nat × Int × List Int)) (v1 v2 v3 : Value) (f : Bool) : Prop where
  bel : Below w.heap.size w wr
  res : wr.heap[w.heap.size]? = some (.cells #[.int .i64 0, .int .u32 0, .slice none 0 0] 75 (0, 0))
  bst : wr.heap[w.heap.size + 1]? = some (.cells #[v1, v2, v3] 75 (0, 0))
  rep : Rep wr w.heap.size x v1 v2 v3 f
theorem Best.below {w wr w' : World} {x : Option (Nat × Int × List Int)} {v1 v2 v3 : Value} {f : Bool} (h : Best w wr x v1 v2 v3 f) (hb : Below wr.heap.size wr w') : Best w w' x v1 v2 v3 f :=
  ⟨below_then h.bel hb, (hb.block _ (lt_of_get h.res)).trans h.res, (hb.block _ (lt_of_get h.bst)).trans h.bst, h.rep.below hb⟩
/-- What was found is kept. -/
theorem Best.keep {w wr : World} {x : Option (Nat × Int × List Int)} {v1 v2 v3 : Value} {f : Bool} (h : Best w wr x v1 v2 v3 f) {y : Option (Nat × Int × List Int)} {a0 a1 a2 : Value} {f' : Bool} (hy : Rep wr w.heap.size y a0 a1 a2 f') : Best w (((wr.setCell ⟨w.heap.size + 1, 0, none⟩ a0).setCell ⟨w.heap.size + 1, 1, none⟩ a1).setCell ⟨w.heap.size + 1, 2, none⟩ a2) y a0 a1 a2 f' :=
  ⟨below_set3 h.bel _ (by omega) _ _ _, by rw [set3_other (by omega)]; exact h.res, heap_set3 h.bst _ _ _, hy.set3 h.bst (by decide) _ _ _⟩
theorem Rep.mono {w : World} {base base' : Nat} {x : Option (Nat × Int × List Int)} {v1 v2 v3 : Value} {f : Bool} (h : Rep w base x v1 v2 v3 f) (hb : base' ≤ base) : Rep w base' x v1 v2 v3 f := by
  cases x with
  | none => exact h
  | some r =>
    obtain ⟨h1, h2, ⟨A, c, h3, h4⟩, h5⟩ := h
    exact ⟨h1, h2, ⟨A, c, h3, own_mono h4 hb⟩, h5⟩
theorem best_new (w : World) : Best w ((w.alloc (.cells #[.int .i64 0, .int .u32 0, .slice none 0 0] 75)).alloc (.cells #[.int .i64 0, .int .u32 0, .slice none 0 0] 75)) none (.int .i64 0) (.int .u32 0) (.slice none 0 0) false := by
  refine ⟨below_alloc (below_alloc (Below.refl _ _) _) _, sn_old (heap_alloc_last _ _), ?_, ⟨rfl, rfl, rfl, rfl⟩⟩
  have := heap_alloc_last (w.alloc (.cells #[.int .i64 0, .int .u32 0, .slice none 0 0] 75)) (.cells #[.int .i64 0, .int .u32 0, .slice none 0 0] 75)
  simpa using this

set_option maxHeartbeats 4000000 in
theorem newest_any {base g gs : Nat} {S : List Sct} (w : World) (h : Dsk 71 82 w base g gs S []) (hp : 32 ≤ S.length) (q : Nat) (q0 : w.cell? ⟨q, 0, none⟩ = some (.int .i64 0)) (q1 : w.cell? ⟨q, 1, none⟩ = some (.int .i64 16)) :
    Calls Try.prog 27 #[.iface 25 (.pointer (some ⟨g, 0, none⟩)), .slice (some ⟨q, 0, none⟩) 2 2] w fun e w' => ∃ v1 v2 v3 f, e = .returned (.tuple #[.agg #[v1, v2, v3], .bool f]) ∧ Rep w' w.heap.size (newK S 2) v1 v2 v3 f ∧ Below w.heap.size w w' := by
  have HD := hide h
  have HQ : Hid (∀ W : World, Below w.heap.size w W → W.cell? ⟨q, 0, none⟩ = some (.int .i64 0) ∧ W.cell? ⟨q, 1, none⟩ = some (.int .i64 16)) := fun W hW => by
    have hlt := World.block_lt_of_cell? _ _ q0
    exact ⟨by rw [hW.cell hlt]; exact q0, by rw [hW.cell (World.block_lt_of_cell? _ _ q1)]; exact q1⟩
  have HNO : Hid (∀ (W : World) (p : Nat), Below w.heap.size w W → p + 16 ≤ 32 → atS S p = none → Calls Try.prog 37 #[.iface 25 (.pointer (some ⟨g, 0, none⟩)), .int .i64 p] W fun e w' => e = .returned (.tuple #[.agg #[.int .i64 0, .int .u32 0, .slice none 0 0], .bool false]) ∧ Below W.heap.size W w') := fun W p hW h16 h0 => at_none W ((unhide HD).below hW) p (by omega) h0
  have HYE : Hid (∀ (W : World) (p : Nat), Below w.heap.size w W → p + 16 ≤ 32 → ∀ y, atS S p = some y → Calls Try.prog 37 #[.iface 25 (.pointer (some ⟨g, 0, none⟩)), .int .i64 p] W fun e w' => ∃ A c, e = .returned (.tuple #[.agg #[.int .i64 p, .int .u32 y.1, .slice A y.2.length c], .bool true]) ∧ w'.ownsRow W.heap.size 5 1 (.slice A y.2.length c) y.2.length (y.2.map (Value.int .u8)) ∧ Below W.heap.size W w') := fun W p hW h16 y h0 => at_some W ((unhide HD).below hW) p (by omega) y h0
  clear h q0 q1
  go_enter Try.func27, Try.ntmps27
  go_wp2
  go_loopw [7, 14] (fun fv i wr => ∃ (k : Nat) (v1 v2 v3 : Value) (f : Bool), k ≤ 2 ∧ i = .int .i64 k ∧ fv = .bool f ∧ Best w wr (newK S k) v1 v2 v3 f) (fun _ i _ => 2 - (intOf i).toNat)
  case atStart => exact ⟨0, _, _, _, _, by omega, rfl, rfl, best_new w⟩
  case round =>
    obtain ⟨k, v1, v2, v3, f, hk, rfl, rfl, hb⟩ := hrel
    by_cases hk2 : k < 2
    · obtain ⟨p, hpk⟩ : ∃ p, p = 16 * k := ⟨_, rfl⟩
      have hp32 : p + 16 ≤ 32 := by omega
      have pc : wr.cell? ⟨q, k, none⟩ = some (.int .i64 (p : Int)) := by
        obtain ⟨c0, c1⟩ := unhide HQ wr hb.bel
        match k, hk2, hpk with
        | 0, _, e => subst e; exact c0
        | 1, _, e => subst e; exact c1
      have hk2' : (k : Int) < 2 := by omega
      have HPK := hide hpk
      have HBS := hide hb
      clear hpk hb
      cases ha : atS S p with
      | none =>
        have HN := hide (unhide HNO wr p (unhide HBS).bel hp32 ha)
        have HNW : Hid (newK S (k + 1) = newK S k) := newK_none (by rw [← unhide HPK]; exact ha)
        clear ha
        go_wp2_with (go_at_call 37; (with_reducible refine (unhide HN).mono ?_); rintro e w2 ⟨rfl, hb2⟩; have HB3 := hide ((unhide HBS).below (below_alloc hb2 (.cells #[.int .i64 0, .int .u32 0, .slice none 0 0] 75))); clear hb2)
        go_roundw
        case rel => exact ⟨k + 1, v1, v2, v3, f, by omega, by go_num, rfl, by rw [unhide HNW]; exact unhide HB3⟩
        case measure => simp [intOf]; omega
      | some y =>
        have HY := hide (unhide HYE wr p (unhide HBS).bel hp32 y ha)
        have ha' : atS S (16 * k) = some y := by rw [← unhide HPK]; exact ha
        obtain ⟨y1, y2⟩ := y
        simp only at HY
        cases hn : newK S k with
        | none =>
          have HNW := hide (newK_first ha' hn)
          simp only at HNW
          rw [← unhide HPK] at HNW
          rw [hn] at HBS
          obtain ⟨rfl, rfl, rfl, rfl⟩ := (unhide HBS).rep
          clear ha ha' hn
          go_wp2_with (go_at_call 37; (with_reducible refine (unhide HY).mono ?_); rintro e w2 ⟨A, c, rfl, ho, hb2⟩; have HB3 := hide ((unhide HBS).below (below_alloc hb2 (.cells #[.int .i64 p, .int .u32 y1, .slice A y2.length c] 75))); have HO3 := hide (own_mono (own_below ho (below_alloc (Below.refl _ _) (.cells #[.int .i64 p, .int .u32 y1, .slice A y2.length c] 75))) (unhide HBS).bel.size); obtain ⟨n0, f0⟩ := heap_cell (unhide HB3).bst 0; obtain ⟨n1, f1⟩ := heap_cell (unhide HB3).bst 1; obtain ⟨n2, f2⟩ := heap_cell (unhide HB3).bst 2; have hl3 : w.heap.size + 1 < (w2.alloc (.cells #[.int .i64 p, .int .u32 y1, .slice A y2.length c] 75)).heap.size := lt_of_get (unhide HB3).bst; clear hb2 ho)
          have HK := hide ((unhide HB3).keep (y := some (p, y1, y2)) (f' := true) ⟨rfl, rfl, ⟨A, c, rfl, unhide HO3⟩, rfl⟩)
          go_roundw
          case rel => exact ⟨k + 1, _, _, _, true, by omega, by go_num, rfl, by rw [unhide HNW]; exact unhide HK⟩
          case measure => simp [intOf]; omega
        | some r =>
          have HNW := hide (newK_more ha' hn)
          rw [hn] at HBS
          obtain ⟨r0, r1, r2⟩ := r
          obtain ⟨rfl, rfl, hv3, rfl⟩ := (unhide HBS).rep
          have HV3 := hide hv3
          simp only at HNW
          rw [← unhide HPK] at HNW
          clear ha ha' hn hv3
          by_cases hlt : r1 < y1
          · rw [if_pos hlt] at HNW
            go_wp2_with (go_at_call 37; (with_reducible refine (unhide HY).mono ?_); rintro e w2 ⟨A, c, rfl, ho, hb2⟩; have HB3 := hide ((unhide HBS).below (below_alloc hb2 (.cells #[.int .i64 p, .int .u32 y1, .slice A y2.length c] 75))); have HO3 := hide (own_mono (own_below ho (below_alloc (Below.refl _ _) (.cells #[.int .i64 p, .int .u32 y1, .slice A y2.length c] 75))) (unhide HBS).bel.size); obtain ⟨n0, f0⟩ := heap_cell (unhide HB3).bst 0; obtain ⟨n1, f1⟩ := heap_cell (unhide HB3).bst 1; obtain ⟨n2, f2⟩ := heap_cell (unhide HB3).bst 2; have hl3 : w.heap.size + 1 < (w2.alloc (.cells #[.int .i64 p, .int .u32 y1, .slice A y2.length c] 75)).heap.size := lt_of_get (unhide HB3).bst; clear hb2 ho)
            have HK := hide ((unhide HB3).keep (y := some (p, y1, y2)) (f' := true) ⟨rfl, rfl, ⟨A, c, rfl, unhide HO3⟩, rfl⟩)
            go_roundw
            case rel => exact ⟨k + 1, _, _, _, true, by omega, by go_num, rfl, by rw [unhide HNW]; exact unhide HK⟩
            case measure => simp [intOf]; omega
          · rw [if_neg hlt] at HNW
            go_wp2_with (go_at_call 37; (with_reducible refine (unhide HY).mono ?_); rintro e w2 ⟨A, c, rfl, ho, hb2⟩; have HB3 := hide ((unhide HBS).below (below_alloc hb2 (.cells #[.int .i64 p, .int .u32 y1, .slice A y2.length c] 75))); have HO3 := hide (own_mono (own_below ho (below_alloc (Below.refl _ _) (.cells #[.int .i64 p, .int .u32 y1, .slice A y2.length c] 75))) (unhide HBS).bel.size); obtain ⟨n0, f0⟩ := heap_cell (unhide HB3).bst 0; obtain ⟨n1, f1⟩ := heap_cell (unhide HB3).bst 1; obtain ⟨n2, f2⟩ := heap_cell (unhide HB3).bst 2; have hl3 : w.heap.size + 1 < (w2.alloc (.cells #[.int .i64 p, .int .u32 y1, .slice A y2.length c] 75)).heap.size := lt_of_get (unhide HB3).bst; clear hb2 ho)
            go_roundw
            case rel => exact ⟨k + 1, _, _, _, true, by omega, by go_num, rfl, by rw [unhide HNW]; exact unhide HB3⟩
            case measure => simp [intOf]; omega
    · obtain rfl : k = 2 := by omega
      cases hx : newK S 2 with
      | none =>
        rw [hx] at hb
        obtain ⟨rfl, rfl, rfl, rfl⟩ := hb.rep
        obtain ⟨n0, f0⟩ := heap_cell hb.bst 0
        obtain ⟨n1, f1⟩ := heap_cell hb.bst 1
        obtain ⟨n2, f2⟩ := heap_cell hb.bst 2
        obtain ⟨m0, g0⟩ := heap_cell hb.res 0
        obtain ⟨m1, g1⟩ := heap_cell hb.res 1
        obtain ⟨m2, g2⟩ := heap_cell hb.res 2
        have HFI := hide (heap_set3 hb.res (.int .i64 0) (.int .u32 0) (.slice none 0 0))
        have HBF := hide (below_set3 hb.bel w.heap.size (Nat.le_refl _) (.int .i64 0) (.int .u32 0) (.slice none 0 0))
        have HRP := hide (hb.rep.set3 hb.res (by decide) (.int .i64 0) (.int .u32 0) (.slice none 0 0))
        clear hb
        go_wp2
        exact ret_cell2 (x := .bool false) rfl rfl rfl rfl (unhide HFI) Try.underlying75 rfl Try.size75 ⟨.int .i64 0, .int .u32 0, .slice none 0 0, false, rfl, (by first | exact unhide HRP | (rw [hx]; exact unhide HRP)), unhide HBF⟩
      | some r =>
        rw [hx] at hb
        obtain ⟨r0, r1, r2⟩ := r
        obtain ⟨rfl, rfl, ⟨A, c, e3, _⟩, rfl⟩ := hb.rep
        simp only at e3 hb
        subst e3
        obtain ⟨n0, f0⟩ := heap_cell hb.bst 0
        obtain ⟨n1, f1⟩ := heap_cell hb.bst 1
        obtain ⟨n2, f2⟩ := heap_cell hb.bst 2
        obtain ⟨m0, g0⟩ := heap_cell hb.res 0
        obtain ⟨m1, g1⟩ := heap_cell hb.res 1
        obtain ⟨m2, g2⟩ := heap_cell hb.res 2
        have HFI := hide (heap_set3 hb.res (.int .i64 r0) (.int .u32 r1) (.slice A r2.length c))
        have HBF := hide (below_set3 hb.bel w.heap.size (Nat.le_refl _) (.int .i64 r0) (.int .u32 r1) (.slice A r2.length c))
        have HRP := hide (hb.rep.set3 hb.res (by decide) (.int .i64 r0) (.int .u32 r1) (.slice A r2.length c))
        clear hb
        go_wp2
        exact ret_cell2 (x := .bool true) rfl rfl rfl rfl (unhide HFI) Try.underlying75 rfl Try.size75 ⟨.int .i64 r0, .int .u32 r1, .slice A r2.length c, .inr ⟨rfl, unhide HRP, unhide HBF⟩⟩
end Go.Proofs.Ytnadknmammjfiaa
