/- slices.Equal of VLANs, ports, statics; config.Same. -/
import Derived.Test.YtbbadncdkiganaaKcopy
import Derived.Laws.StructEq
namespace Go.Proofs.Ytbbadncdkiganaa
open Go.RowKit
set_option linter.unusedVariables false
set_option maxRecDepth 4000

theorem neqV (a b : VlanC) (w : World) : (binOp .neq 46 (.agg #[.int .i64 a.1, .int .u8 a.2.1, .int .u8 a.2.2]) (.agg #[.int .i64 b.1, .int .u8 b.2.1, .int .u8 b.2.2])).run Try.prog w = .ok (.bool (!decide (a = b))) w := by
  have u3 := Try.underlying3
  have a3 := Try.isAgg3
  have z3 := Try.sizeOf3
  have u5 := Try.underlying5
  have a5 := Try.isAgg5
  have z5 := Try.sizeOf5
  have hS : Try.prog.underlying 46 = some (.struct (Try.prog.fieldsOf 46)) := by kernel_rfl
  have hp : Try.prog.stoodInHeld 46 = false := by kernel_rfl
  rw [run_neq_struct, show (10000 : Nat) = 9999 + 1 from rfl, run_equalIn_agg w 9999 46 _ _ hS hp]
  simp only [Program.fieldsOf, Try.underlying46]
  obtain ⟨a1, a2, a3'⟩ := a
  obtain ⟨b1, b2, b3⟩ := b
  go_simp
  by_cases h1 : a1 = b1 <;> by_cases h2 : a2 = b2 <;> by_cases h3 : a3' = b3 <;> simp [h1, h2, h3]
theorem guardV (op : BinOp) (x y : Operand) (a b : VlanC) (w : World) : (eqGuard op 46 x y (.agg #[.int .i64 a.1, .int .u8 a.2.1, .int .u8 a.2.2]) (.agg #[.int .i64 b.1, .int .u8 b.2.1, .int .u8 b.2.2])).run Try.prog w = .ok () w := run_eqGuard_agg w op 46 x y _ _ (by kernel_rfl)
set_option maxHeartbeats 2000000 in
theorem equalV_any (A B : Option Addr) (vs us : List VlanC) (ca cb : Nat) (w : World) (hA : RowA w A (fl encV vs)) (hB : RowA w B (fl encV us)) (hl : vs.length ≤ maxLen) (hl2 : us.length ≤ maxLen) :
    Calls Try.prog 36 #[.slice A vs.length ca, .slice B us.length cb] w fun e w' => e = .returned (.bool (decide (vs = us))) ∧ Below w.heap.size w w' := by
  unfold maxLen at hl hl2
  by_cases hlen : vs.length = us.length
  · obtain ⟨n, hn⟩ : ∃ n, vs.length = n := ⟨_, rfl⟩
    have HN := hide hn
    have HM := hide (hlen.symm.trans hn)
    rw [← hlen, hn]
    rw [hn] at hl
    clear hn hlen hl2
    go_enter Try.func36, Try.ntmps36
    go_wp2
    go_loopg [13] n (fun gg s13 wr => ∃ kk : Nat, kk ≤ n ∧ n - kk ≤ gg ∧ s13 = .int .i64 kk ∧ Aside (Below w.heap.size w wr) ∧ Aside (∀ j, j < kk → vs[j]? = us[j]?))
    case atStart => exact ⟨0, Nat.zero_le _, by omega, rfl, Below.refl _ _, fun j hj => absurd hj (Nat.not_lt_zero _)⟩
    case round =>
      obtain ⟨kk, hkk, hg, rfl, BW, M⟩ := hrel
      by_cases hlt : kk < n
      · have hltz : (kk : Int) < (n : Int) := by omega
        obtain ⟨b, off, rfl, hc⟩ := rowV_at hA (by have := unhide HN; omega)
        obtain ⟨b2, off2, rfl, hc2⟩ := rowV_at hB (by have := unhide HM; omega)
        obtain ⟨x, hx⟩ : ∃ v, vs[kk]? = some v := ⟨_, List.getElem?_eq_getElem (by have := unhide HN; omega)⟩
        obtain ⟨y, hy⟩ : ∃ v, us[kk]? = some v := ⟨_, List.getElem?_eq_getElem (by have := unhide HM; omega)⟩
        obtain ⟨c0, c1, c2⟩ := hc wr BW.out kk x hx
        obtain ⟨d0, d1, d2⟩ := hc2 wr BW.out kk y hy
        have hgd := fun op p q w => guardV op p q x y w
        have hne := fun w => neqV x y w
        have HX := hide hx
        have HY := hide hy
        clear hc hc2 hA hB hx hy
        by_cases hxy : x = y
        · have HXY := hide hxy
          rw [decide_eq_true hxy] at hne
          clear hxy
          go_wp2_with fail
          go_quiet (fail)
          go_wp2
          go_roundg (n - (kk + 1))
          case measure => omega
          case rel =>
            refine ⟨kk + 1, by omega, by omega, by go_num, below_drewN BW.out _, (show Aside _ from fun j hj => ?_)⟩
            rcases Nat.lt_or_ge j kk with h | h
            · exact M.out j h
            · obtain rfl : j = kk := by omega
              rw [unhide HX, unhide HY, unhide HXY]
        · have HXY := hide hxy
          rw [decide_eq_false hxy] at hne
          clear hxy
          go_wp2_with fail
          go_quiet (fail)
          go_wp2
          go_ret
          refine ⟨ret_bool (decide_eq_false (fun e => ?_)).symm, below_drewN BW.out _⟩
          subst e
          have := unhide HX
          rw [unhide HY] at this
          cases this
          exact unhide HXY rfl
      · obtain rfl : kk = n := by omega
        have hltz : ¬ (kk : Int) < (kk : Int) := by omega
        go_wp2
        go_ret
        refine ⟨ret_bool (decide_eq_true (List.ext_getElem? (fun j => ?_))).symm, BW.out⟩
        rcases Nat.lt_or_ge j kk with h | h
        · exact M.out j h
        · rw [List.getElem?_eq_none (by have := unhide HN; omega), List.getElem?_eq_none (by have := unhide HM; omega)]
  · have hd : decide (vs = us) = false := decide_eq_false (fun e => hlen (by rw [e]))
    rw [hd]
    clear hd
    generalize vs.length = n at *
    generalize us.length = m at *
    have hnm : ¬ (n : Int) = (m : Int) := by omega
    go_enter Try.func36, Try.ntmps36
    go_wp2
    go_ret
    exact ⟨rfl, Below.refl _ _⟩
theorem neqP (a b : PortC) (w : World) : (binOp .neq 50 (.agg #[.bool a.1, .int .u32 a.2.1, .int .i64 a.2.2]) (.agg #[.bool b.1, .int .u32 b.2.1, .int .i64 b.2.2])).run Try.prog w = .ok (.bool (!decide (a = b))) w := by
  have u3 := Try.underlying3
  have ag3 := Try.isAgg3
  have z3 := Try.sizeOf3
  have u4 := Try.underlying4
  have ag4 := Try.isAgg4
  have z4 := Try.sizeOf4
  have u48 := Try.underlying48
  have a48 := Try.isAgg48
  have z48 := Try.sizeOf48
  have hS : Try.prog.underlying 50 = some (.struct (Try.prog.fieldsOf 50)) := by kernel_rfl
  have hp : Try.prog.stoodInHeld 50 = false := by kernel_rfl
  rw [run_neq_struct, show (10000 : Nat) = 9999 + 1 from rfl, run_equalIn_agg w 9999 50 _ _ hS hp]
  simp only [Program.fieldsOf, Try.underlying50]
  obtain ⟨a1, a2, a3'⟩ := a
  obtain ⟨b1, b2, b3⟩ := b
  go_simp
  by_cases h1 : a1 = b1 <;> by_cases h2 : a2 = b2 <;> by_cases h3 : a3' = b3 <;> simp [h1, h2, h3]
theorem guardP (op : BinOp) (x y : Operand) (a b : PortC) (w : World) : (eqGuard op 50 x y (.agg #[.bool a.1, .int .u32 a.2.1, .int .i64 a.2.2]) (.agg #[.bool b.1, .int .u32 b.2.1, .int .i64 b.2.2])).run Try.prog w = .ok () w := run_eqGuard_agg w op 50 x y _ _ (by kernel_rfl)
set_option maxHeartbeats 2000000 in
theorem equalP_any (A B : Option Addr) (vs us : List PortC) (ca cb : Nat) (w : World) (hA : RowA w A (fl encP vs)) (hB : RowA w B (fl encP us)) (hl : vs.length ≤ maxLen) (hl2 : us.length ≤ maxLen) :
    Calls Try.prog 35 #[.slice A vs.length ca, .slice B us.length cb] w fun e w' => e = .returned (.bool (decide (vs = us))) ∧ Below w.heap.size w w' := by
  unfold maxLen at hl hl2
  by_cases hlen : vs.length = us.length
  · obtain ⟨n, hn⟩ : ∃ n, vs.length = n := ⟨_, rfl⟩
    have HN := hide hn
    have HM := hide (hlen.symm.trans hn)
    rw [← hlen, hn]
    rw [hn] at hl
    clear hn hlen hl2
    go_enter Try.func35, Try.ntmps35
    go_wp2
    go_loopg [13] n (fun gg s13 wr => ∃ kk : Nat, kk ≤ n ∧ n - kk ≤ gg ∧ s13 = .int .i64 kk ∧ Aside (Below w.heap.size w wr) ∧ Aside (∀ j, j < kk → vs[j]? = us[j]?))
    case atStart => exact ⟨0, Nat.zero_le _, by omega, rfl, Below.refl _ _, fun j hj => absurd hj (Nat.not_lt_zero _)⟩
    case round =>
      obtain ⟨kk, hkk, hg, rfl, BW, M⟩ := hrel
      by_cases hlt : kk < n
      · have hltz : (kk : Int) < (n : Int) := by omega
        obtain ⟨b, off, rfl, hc⟩ := rowP_at hA (by have := unhide HN; omega)
        obtain ⟨b2, off2, rfl, hc2⟩ := rowP_at hB (by have := unhide HM; omega)
        obtain ⟨x, hx⟩ : ∃ v, vs[kk]? = some v := ⟨_, List.getElem?_eq_getElem (by have := unhide HN; omega)⟩
        obtain ⟨y, hy⟩ : ∃ v, us[kk]? = some v := ⟨_, List.getElem?_eq_getElem (by have := unhide HM; omega)⟩
        obtain ⟨c0, c1, c2⟩ := hc wr BW.out kk x hx
        obtain ⟨d0, d1, d2⟩ := hc2 wr BW.out kk y hy
        have hgd := fun op p q w => guardP op p q x y w
        have hne := fun w => neqP x y w
        have HX := hide hx
        have HY := hide hy
        clear hc hc2 hA hB hx hy
        by_cases hxy : x = y
        · have HXY := hide hxy
          rw [decide_eq_true hxy] at hne
          clear hxy
          go_wp2_with fail
          go_quiet (fail)
          go_wp2
          go_roundg (n - (kk + 1))
          case measure => omega
          case rel =>
            refine ⟨kk + 1, by omega, by omega, by go_num, below_drewN BW.out _, (show Aside _ from fun j hj => ?_)⟩
            rcases Nat.lt_or_ge j kk with h | h
            · exact M.out j h
            · obtain rfl : j = kk := by omega
              rw [unhide HX, unhide HY, unhide HXY]
        · have HXY := hide hxy
          rw [decide_eq_false hxy] at hne
          clear hxy
          go_wp2_with fail
          go_quiet (fail)
          go_wp2
          go_ret
          refine ⟨ret_bool (decide_eq_false (fun e => ?_)).symm, below_drewN BW.out _⟩
          subst e
          have := unhide HX
          rw [unhide HY] at this
          cases this
          exact unhide HXY rfl
      · obtain rfl : kk = n := by omega
        have hltz : ¬ (kk : Int) < (kk : Int) := by omega
        go_wp2
        go_ret
        refine ⟨ret_bool (decide_eq_true (List.ext_getElem? (fun j => ?_))).symm, BW.out⟩
        rcases Nat.lt_or_ge j kk with h | h
        · exact M.out j h
        · rw [List.getElem?_eq_none (by have := unhide HN; omega), List.getElem?_eq_none (by have := unhide HM; omega)]
  · have hd : decide (vs = us) = false := decide_eq_false (fun e => hlen (by rw [e]))
    rw [hd]
    clear hd
    generalize vs.length = n at *
    generalize us.length = m at *
    have hnm : ¬ (n : Int) = (m : Int) := by omega
    go_enter Try.func35, Try.ntmps35
    go_wp2
    go_ret
    exact ⟨rfl, Below.refl _ _⟩
theorem neqS (a b : StatC) (w : World) : (binOp .neq 52 (.agg #[.int .u64 a.1, .int .i64 a.2.1, .int .i64 a.2.2]) (.agg #[.int .u64 b.1, .int .i64 b.2.1, .int .i64 b.2.2])).run Try.prog w = .ok (.bool (!decide (a = b))) w := by
  have u3 := Try.underlying3
  have ag3 := Try.isAgg3
  have z3 := Try.sizeOf3
  have u42 := Try.underlying42
  have a42 := Try.isAgg42
  have z42 := Try.sizeOf42
  have hS : Try.prog.underlying 52 = some (.struct (Try.prog.fieldsOf 52)) := by kernel_rfl
  have hp : Try.prog.stoodInHeld 52 = false := by kernel_rfl
  rw [run_neq_struct, show (10000 : Nat) = 9999 + 1 from rfl, run_equalIn_agg w 9999 52 _ _ hS hp]
  simp only [Program.fieldsOf, Try.underlying52]
  obtain ⟨a1, a2, a3'⟩ := a
  obtain ⟨b1, b2, b3⟩ := b
  go_simp
  by_cases h1 : a1 = b1 <;> by_cases h2 : a2 = b2 <;> by_cases h3 : a3' = b3 <;> simp [h1, h2, h3]
theorem guardS (op : BinOp) (x y : Operand) (a b : StatC) (w : World) : (eqGuard op 52 x y (.agg #[.int .u64 a.1, .int .i64 a.2.1, .int .i64 a.2.2]) (.agg #[.int .u64 b.1, .int .i64 b.2.1, .int .i64 b.2.2])).run Try.prog w = .ok () w := run_eqGuard_agg w op 52 x y _ _ (by kernel_rfl)
set_option maxHeartbeats 2000000 in
theorem equalS_any (A B : Option Addr) (vs us : List StatC) (ca cb : Nat) (w : World) (hA : RowA w A (fl encS vs)) (hB : RowA w B (fl encS us)) (hl : vs.length ≤ maxLen) (hl2 : us.length ≤ maxLen) :
    Calls Try.prog 37 #[.slice A vs.length ca, .slice B us.length cb] w fun e w' => e = .returned (.bool (decide (vs = us))) ∧ Below w.heap.size w w' := by
  unfold maxLen at hl hl2
  by_cases hlen : vs.length = us.length
  · obtain ⟨n, hn⟩ : ∃ n, vs.length = n := ⟨_, rfl⟩
    have HN := hide hn
    have HM := hide (hlen.symm.trans hn)
    rw [← hlen, hn]
    rw [hn] at hl
    clear hn hlen hl2
    go_enter Try.func37, Try.ntmps37
    go_wp2
    go_loopg [13] n (fun gg s13 wr => ∃ kk : Nat, kk ≤ n ∧ n - kk ≤ gg ∧ s13 = .int .i64 kk ∧ Aside (Below w.heap.size w wr) ∧ Aside (∀ j, j < kk → vs[j]? = us[j]?))
    case atStart => exact ⟨0, Nat.zero_le _, by omega, rfl, Below.refl _ _, fun j hj => absurd hj (Nat.not_lt_zero _)⟩
    case round =>
      obtain ⟨kk, hkk, hg, rfl, BW, M⟩ := hrel
      by_cases hlt : kk < n
      · have hltz : (kk : Int) < (n : Int) := by omega
        obtain ⟨b, off, rfl, hc⟩ := rowS_at hA (by have := unhide HN; omega)
        obtain ⟨b2, off2, rfl, hc2⟩ := rowS_at hB (by have := unhide HM; omega)
        obtain ⟨x, hx⟩ : ∃ v, vs[kk]? = some v := ⟨_, List.getElem?_eq_getElem (by have := unhide HN; omega)⟩
        obtain ⟨y, hy⟩ : ∃ v, us[kk]? = some v := ⟨_, List.getElem?_eq_getElem (by have := unhide HM; omega)⟩
        obtain ⟨c0, c1, c2⟩ := hc wr BW.out kk x hx
        obtain ⟨d0, d1, d2⟩ := hc2 wr BW.out kk y hy
        have hgd := fun op p q w => guardS op p q x y w
        have hne := fun w => neqS x y w
        have HX := hide hx
        have HY := hide hy
        clear hc hc2 hA hB hx hy
        by_cases hxy : x = y
        · have HXY := hide hxy
          rw [decide_eq_true hxy] at hne
          clear hxy
          go_wp2_with fail
          go_quiet (fail)
          go_wp2
          go_roundg (n - (kk + 1))
          case measure => omega
          case rel =>
            refine ⟨kk + 1, by omega, by omega, by go_num, below_drewN BW.out _, (show Aside _ from fun j hj => ?_)⟩
            rcases Nat.lt_or_ge j kk with h | h
            · exact M.out j h
            · obtain rfl : j = kk := by omega
              rw [unhide HX, unhide HY, unhide HXY]
        · have HXY := hide hxy
          rw [decide_eq_false hxy] at hne
          clear hxy
          go_wp2_with fail
          go_quiet (fail)
          go_wp2
          go_ret
          refine ⟨ret_bool (decide_eq_false (fun e => ?_)).symm, below_drewN BW.out _⟩
          subst e
          have := unhide HX
          rw [unhide HY] at this
          cases this
          exact unhide HXY rfl
      · obtain rfl : kk = n := by omega
        have hltz : ¬ (kk : Int) < (kk : Int) := by omega
        go_wp2
        go_ret
        refine ⟨ret_bool (decide_eq_true (List.ext_getElem? (fun j => ?_))).symm, BW.out⟩
        rcases Nat.lt_or_ge j kk with h | h
        · exact M.out j h
        · rw [List.getElem?_eq_none (by have := unhide HN; omega), List.getElem?_eq_none (by have := unhide HM; omega)]
  · have hd : decide (vs = us) = false := decide_eq_false (fun e => hlen (by rw [e]))
    rw [hd]
    clear hd
    generalize vs.length = n at *
    generalize us.length = m at *
    have hnm : ¬ (n : Int) = (m : Int) := by omega
    go_enter Try.func37, Try.ntmps37
    go_wp2
    go_ret
    exact ⟨rfl, Below.refl _ _⟩
def sameB (a b : Cfg) : Bool := (a.prio == b.prio) && (a.age == b.age) && (a.delay == b.delay) && decide (a.ports = b.ports) && decide (a.vlans = b.vlans) && decide (a.stats = b.stats)
set_option maxHeartbeats 4000000 in
theorem same_any (a b : Cfg) (A1 A2 A3 B1 B2 B3 : Option Addr) (c1 c2 c3 d1 d2 d3 : Nat) (hL : Lens a) (hL2 : Lens b) (w : World) (hA : CfgA w a A1 A2 A3) (hB : CfgA w b B1 B2 B3) :
    Calls Try.prog 16 #[.agg #[.int .i64 a.prio, .int .i64 a.age, .int .i64 a.delay, .slice A1 a.ports.length c1, .slice A2 a.vlans.length c2, .slice A3 a.stats.length c3], .agg #[.int .i64 b.prio, .int .i64 b.age, .int .i64 b.delay, .slice B1 b.ports.length d1, .slice B2 b.vlans.length d2, .slice B3 b.stats.length d3]] w fun e w' => e = .returned (.bool (sameB a b)) ∧ Below w.heap.size w w' := by
  have g1 := hide (fun W (hW : Below w.heap.size w W) => equalP_any A1 B1 a.ports b.ports c1 d1 W (rowA_below hA.1 hW) (rowA_below hB.1 hW) hL.1 hL2.1)
  have g2 := hide (fun W (hW : Below w.heap.size w W) => equalV_any A2 B2 a.vlans b.vlans c2 d2 W (rowA_below hA.2.1 hW) (rowA_below hB.2.1 hW) hL.2.1 hL2.2.1)
  have g3 := hide (fun W (hW : Below w.heap.size w W) => equalS_any A3 B3 a.stats b.stats c3 d3 W (rowA_below hA.2.2 hW) (rowA_below hB.2.2 hW) hL.2.2 hL2.2.2)
  have HS := hide (show sameB a b = ((a.prio == b.prio) && (a.age == b.age) && (a.delay == b.delay) && decide (a.ports = b.ports) && decide (a.vlans = b.vlans) && decide (a.stats = b.stats)) from rfl)
  rw [unhide HS]
  clear HS hA hB hL hL2
  obtain ⟨p1, q1, r1, x1, y1, z1⟩ := a
  obtain ⟨p2, q2, r2, x2, y2, z2⟩ := b
  dsimp only at *
  generalize hx : decide (x1 = x2) = ex at *
  generalize hy : decide (y1 = y2) = ey at *
  generalize hz : decide (z1 = z2) = ez at *
  generalize x1.length = n1 at *
  generalize y1.length = n2 at *
  generalize z1.length = n3 at *
  generalize x2.length = m1 at *
  generalize y2.length = m2 at *
  generalize z2.length = m3 at *
  clear hx hy hz
  have hcell : ∀ j v, (#[.int .i64 p1, .int .i64 q1, .int .i64 r1, .slice A1 n1 c1, .slice A2 n2 c2, .slice A3 n3 c3] : Array Value)[j]? = some v → ∀ W, Below (w.alloc (.cells #[.int .i64 p1, .int .i64 q1, .int .i64 r1, .slice A1 n1 c1, .slice A2 n2 c2, .slice A3 n3 c3] 26)).heap.size (w.alloc (.cells #[.int .i64 p1, .int .i64 q1, .int .i64 r1, .slice A1 n1 c1, .slice A2 n2 c2, .slice A3 n3 c3] 26)) W → W.cell? ⟨w.heap.size, j, none⟩ = some v := fun j v hj W hW => keep_cell (cell_lit rfl hj) hW
  have hcel2 : ∀ j v, (#[.int .i64 p2, .int .i64 q2, .int .i64 r2, .slice B1 m1 d1, .slice B2 m2 d2, .slice B3 m3 d3] : Array Value)[j]? = some v → ∀ W, Below ((w.alloc (.cells #[.int .i64 p1, .int .i64 q1, .int .i64 r1, .slice A1 n1 c1, .slice A2 n2 c2, .slice A3 n3 c3] 26)).alloc (.cells #[.int .i64 p2, .int .i64 q2, .int .i64 r2, .slice B1 m1 d1, .slice B2 m2 d2, .slice B3 m3 d3] 26)).heap.size ((w.alloc (.cells #[.int .i64 p1, .int .i64 q1, .int .i64 r1, .slice A1 n1 c1, .slice A2 n2 c2, .slice A3 n3 c3] 26)).alloc (.cells #[.int .i64 p2, .int .i64 q2, .int .i64 r2, .slice B1 m1 d1, .slice B2 m2 d2, .slice B3 m3 d3] 26)) W → W.cell? ⟨w.heap.size + 1, j, none⟩ = some v := fun j v hj W hW => keep_cell (cell_lit (by simp) hj) hW
  have HC1 := hide hcell
  have HC2 := hide hcel2
  have HB : Hid (Below w.heap.size w ((w.alloc (.cells #[.int .i64 p1, .int .i64 q1, .int .i64 r1, .slice A1 n1 c1, .slice A2 n2 c2, .slice A3 n3 c3] 26)).alloc (.cells #[.int .i64 p2, .int .i64 q2, .int .i64 r2, .slice B1 m1 d1, .slice B2 m2 d2, .slice B3 m3 d3] 26))) := below_alloc (below_alloc (Below.refl _ _) _) _
  clear hcell hcel2
  by_cases h1 : p1 = p2
  · subst h1
    by_cases h2 : q1 = q2
    · subst h2
      by_cases h3 : r1 = r2
      · subst h3
        cases ex with
        | false =>
          go_enter Try.func16, Try.ntmps16
          go_wp2_with (go_at_call 35; (with_reducible refine (unhide g1 _ (unhide HB)).mono ?_); rintro e w3 ⟨rfl, hb3⟩; have HB3 := hide (below_then (unhide HB) hb3); clear hb3)
          go_ret
          exact ⟨ret_bool (by simp), unhide HB3⟩
        | true =>
          cases ey with
          | false =>
            go_enter Try.func16, Try.ntmps16
            go_wp2_with (first
              | (go_at_call 35; (with_reducible refine (unhide g1 _ (unhide HB)).mono ?_); rintro e w3 ⟨rfl, hb3⟩; have k4 := unhide HC1 4 _ rfl w3 (below_then (below_alloc (Below.refl _ _) _) hb3); have l4 := unhide HC2 4 _ rfl w3 hb3; have HB3 := hide (below_then (unhide HB) hb3); clear hb3)
              | (go_at_call 36; (with_reducible refine (unhide g2 _ (unhide HB3)).mono ?_); rintro e w4 ⟨rfl, hb4⟩; have HB4 := hide (below_then (unhide HB3) hb4); clear hb4))
            go_ret
            exact ⟨ret_bool (by simp), unhide HB4⟩
          | true =>
            go_enter Try.func16, Try.ntmps16
            go_wp2_with (first
              | (go_at_call 35; (with_reducible refine (unhide g1 _ (unhide HB)).mono ?_); rintro e w3 ⟨rfl, hb3⟩; have k4 := unhide HC1 4 _ rfl w3 (below_then (below_alloc (Below.refl _ _) _) hb3); have l4 := unhide HC2 4 _ rfl w3 hb3; have HX3 := hide hb3; have HB3 := hide (below_then (unhide HB) hb3); clear hb3)
              | (go_at_call 36; (with_reducible refine (unhide g2 _ (unhide HB3)).mono ?_); rintro e w4 ⟨rfl, hb4⟩; have k5 := unhide HC1 5 _ rfl w4 (below_then (below_then (below_alloc (Below.refl _ _) _) (unhide HX3)) hb4); have l5 := unhide HC2 5 _ rfl w4 (below_then (unhide HX3) hb4); have HB4 := hide (below_then (unhide HB3) hb4); clear hb4)
              | (go_at_call 37; (with_reducible refine (unhide g3 _ (unhide HB4)).mono ?_); rintro e w5 ⟨rfl, hb5⟩; have HB5 := hide (below_then (unhide HB4) hb5); clear hb5))
            all_goals
              go_ret
              exact ⟨ret_bool (by simp), unhide HB5⟩
      · go_enter Try.func16, Try.ntmps16
        go_wp2
        go_ret
        exact ⟨ret_bool (by simp [h3]), unhide HB⟩
    · go_enter Try.func16, Try.ntmps16
      go_wp2
      go_ret
      exact ⟨ret_bool (by simp [h2]), unhide HB⟩
  · go_enter Try.func16, Try.ntmps16
    go_wp2
    go_ret
    exact ⟨ret_bool (by simp [h1]), unhide HB⟩
end Go.Proofs.Ytbbadncdkiganaa
