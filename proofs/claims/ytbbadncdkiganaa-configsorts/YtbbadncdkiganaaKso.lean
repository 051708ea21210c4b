/- The walk of ConfigSorts. -/
import Derived.Test.YtbbadncdkiganaaKsog
import Derived.Test.YtbbadncdkiganaaKlimx
namespace Go.Proofs.Ytbbadncdkiganaa
open Go.RowKit
set_option linter.unusedVariables false
set_option maxRecDepth 4000
def u16s (xs : List Nat) : List Value := xs.map fun (x : Nat) => Value.int .u16 (x : Int)
theorem u16s_at {w : World} {A : Option Addr} {xs : List Nat} (hA : RowA w A (u16s xs)) (hl : 0 < xs.length) : ∃ b off, A = some ⟨b, off, none⟩ ∧ ∀ (W : World), Below w.heap.size w W → ∀ (i x : Nat), xs[i]? = some x → W.cell? ⟨b, off + i, none⟩ = some (.int .u16 (x : Int)) := by
  obtain ⟨b, off, ha, hc⟩ := hA (by intro h; have := congrArg List.length h; simp only [u16s, List.length_map, List.length_nil] at this; omega)
  refine ⟨b, off, ha, fun W hW i x hi => keep_cell (hc i _ ?_) hW⟩
  unfold u16s; rw [List.getElem?_map, hi]; rfl
theorem first_two (W : World) : Calls Try.prog 11 #[.int .i64 2] W fun e w' => ∃ Ap cp Av cv, e = .returned (.tuple #[.agg #[.int .i64 32768, .int .i64 20, .int .i64 15, .slice Ap 2 cp, .slice Av 1 cv, .slice none 0 0], .int .i64 0]) ∧ CfgA w' (firstC 2) Ap Av none ∧ Below W.heap.size W w' := by
  refine (first_yes 2 (by omega) (by omega) W).mono ?_
  rintro e w' ⟨Ap, cp, Av, cv, h1, h2, h3⟩
  exact ⟨Ap, cp, Av, cv, h1, h2.addr, h3⟩
theorem vE_take (ids : List Nat) (i x : Nat) (h : ids[i]? = some x) : flE ((ids.take (i + 1)).map vE) = flE ((ids.take i).map vE) ++ flE [vE x] := by
  rw [← flE_app, List.take_add_one, h]
  simp
theorem sE_take (L : List Ed) (ms : List Nat) (i x : Nat) (h : ms[i]? = some x) : flE (L ++ (ms.take (i + 1)).map sE) = flE (L ++ (ms.take i).map sE) ++ flE [sE x] := by
  rw [← flE_app, List.take_add_one, h]
  simp
theorem rev_take (L : List Ed) (i : Nat) (e : Ed) (h : L.reverse[i]? = some e) : flE (L.reverse.take (i + 1)) = flE (L.reverse.take i) ++ flE [e] := by
  rw [← flE_app, List.take_add_one, h]
  rfl
theorem sort_mem (ids macs : List Nat) : ∀ e ∈ sortL ids macs, 0 ≤ e.member ∧ e.member ≤ 255 := by
  intro e he
  rcases List.mem_append.1 he with h | h
  · obtain ⟨x, _, rfl⟩ := List.mem_map.1 h; exact ⟨by simp [vE], by simp [vE]⟩
  · obtain ⟨x, _, rfl⟩ := List.mem_map.1 h; exact ⟨by simp [sE], by simp [sE]⟩
theorem sorts_no (A B : Option Addr) (n m c d : Nat) (w : World) (h : 12 < n ∨ 10 < m) : Calls Try.prog 7 #[.slice A n c, .slice B m d] w fun e w' => e = .returned (.bool true) ∧ Below w.heap.size w w' := by
  by_cases h1 : 12 < n
  · have h' : (12 : Int) < (n : Int) := by omega
    go_enter Try.func7, Try.ntmps7
    go_wp2_with (go_at_call 10; with_reducible refine (wakes_any _).mono ?_; rintro e w5 ⟨rfl, hb5⟩; have HB5 := hide hb5; clear hb5)
    go_ret
    exact ⟨rfl, unhide HB5⟩
  · have h' : ¬ (12 : Int) < (n : Int) := by omega
    have h'' : (10 : Int) < (m : Int) := by omega
    go_enter Try.func7, Try.ntmps7
    go_wp2_with (go_at_call 10; with_reducible refine (wakes_any _).mono ?_; rintro e w5 ⟨rfl, hb5⟩; have HB5 := hide hb5; clear hb5)
    go_ret
    exact ⟨rfl, unhide HB5⟩
set_option maxHeartbeats 16000000 in
theorem sorts_walk (ids macs : List Nat) (A B : Option Addr) (ca cb : Nat) (w : World) (hA : RowA w A (u16s ids)) (hB : RowA w B (u16s macs)) (hi : ∀ x ∈ ids, x < 65536) (hm : ∀ x ∈ macs, x < 65536) (h12 : ids.length ≤ 12) (h10 : macs.length ≤ 10) (hca : ids.length ≤ ca) (hcb : macs.length ≤ cb) : Calls Try.prog 7 #[.slice A ids.length ca, .slice B macs.length cb] w fun e w' => e = .returned (.bool true) ∧ Below w.heap.size w w' := by
  have hz1 : ¬ (12 : Int) < (ids.length : Int) := by omega
  have hz2 : ¬ (10 : Int) < (macs.length : Int) := by omega
  have HM := hide (sorts_main ids macs hm h12 h10)
  have HEM := hide (sort_mem ids macs)
  obtain ⟨i0, hi0, hy0, hy1, hy2⟩ := info_parts Try.info44
  have HZ0 := hide hy0
  have HZ1 := hide hy1
  have HZ2 := hide hy2
  clear hy0 hy1 hy2
  have HRA := hide hA
  have HRB := hide hB
  have HIA := hide hi
  have HIB := hide hm
  clear hA hB hi hm
  generalize hn : ids.length = n at *
  generalize hmm : macs.length = m at *
  have HN := hide hn
  have HMm := hide hmm
  clear hn hmm
  have hnz : (n : Int) ≤ 12 := by omega
  have hmz : (m : Int) ≤ 10 := by omega
  go_enter Try.func7, Try.ntmps7
  go_wp2_with (go_at_call 11; (with_reducible refine (first_two _).mono ?_); rintro e w1 ⟨Ap, cp, Av, cv, rfl, ha, hb1⟩; have HA1 := hide ha; have HB1 := hide hb1; have HC1 := hide (heap_new w1 (.cells #[.int .i64 32768, .int .i64 20, .int .i64 15, .slice Ap 2 cp, .slice Av 1 cv, .slice none 0 0] 26) _ rfl); clear ha hb1)
  have HA2 := hide ((unhide HA1).below (below_alloc (Below.refl _ _) (.cells #[.int .i64 32768, .int .i64 20, .int .i64 15, .slice Ap 2 cp, .slice Av 1 cv, .slice none 0 0] 26)))
  have HB2 := hide (below_alloc (unhide HB1) (.cells #[.int .i64 32768, .int .i64 20, .int .i64 15, .slice Ap 2 cp, .slice Av 1 cv, .slice none 0 0] 26))
  generalize w1.alloc (.cells #[.int .i64 32768, .int .i64 20, .int .i64 15, .slice Ap 2 cp, .slice Av 1 cv, .slice none 0 0] 26) = w2 at *
  generalize w1.heap.size = g5 at *
  have HOW0 : Hid (w2.ownsRow w2.heap.size 44 7 (.slice none 0 0) 0 (flE ((ids.take 0).map vE))) := hide (World.ownsRow_nil _ _ _ _)
  go_loopg [7, 9] n (fun gg s7 s9 wr => ∃ i : Nat, i ≤ n ∧ n - i ≤ gg ∧ s9 = .int .i64 i ∧ Aside (wr.ownsRow w2.heap.size 44 7 s7 i (flE ((ids.take i).map vE))) ∧ Aside (Below w2.heap.size w2 wr))
  case atStart => exact ⟨0, by omega, by omega, rfl, unhide HOW0, Below.refl _ _⟩
  case round =>
    obtain ⟨i, hi, hgg, rfl, OW, BW⟩ := hrel
    by_cases hlt : i < n
    · have hltz : (i : Int) < (n : Int) := by omega
      have hli : i < ids.length := by have := unhide HN; omega
      obtain ⟨x, hx⟩ : ∃ x, ids[i]? = some x := ⟨_, List.getElem?_eq_getElem hli⟩
      have hxl : x < 65536 := unhide HIA x (List.mem_of_getElem? hx)
      obtain ⟨b, off, rfl, hc⟩ := u16s_at (unhide HRA) (by omega)
      have hcell := hc wr (below_then (unhide HB2) BW.out) i x hx
      have HN2 := hide (vE_take ids i x hx)
      have hxm : (x : Int) % 4000 = ((x % 4000 : Nat) : Int) := by omega
      have HRX : Hid (∀ W N, W.heap[N]? = some (.cells #[.int .i64 7, .int .i64 0, .int .i64 0, .int .i64 (2 + ((x % 4000 : Nat) : Int)), .int .u8 3, .int .u8 0, .int .u64 0] 44 (0, 0)) → RowA W (some ⟨N, 0, none⟩) (flE [vE x])) := hide (fun W N h => rowE_of h rfl)
      have hxb : x % 4000 < 4000 := Nat.mod_lt _ (by omega)
      clear hc hx
      generalize vE x = ex at *
      generalize x % 4000 = xm at *
      go_wp2_with ((refine wpList_append_row rfl _ _ 37 rfl w2.heap.size 44 i0 _ 7 48 Try.underlying37 hi0 (unhide HZ0) (unhide HZ1) (unhide HZ2) rfl (by decide) (by decide) _ i (flE ((ids.take i).map vE)) rfl (own_below OW.out (below_alloc (Below.refl _ _) _)) (some ⟨wr.heap.size, 0, none⟩) 1 1 (flE [ex]) rfl rfl (unhide HRX _ _ (heap_new _ _ _ rfl)) (flE_one _) (by omega) (by have := BW.out.size; simp; omega) ?_); intro v' w' ho' hgw hat; have HO2 := hide ho'; have HG := hide hgw; clear ho' hgw hat)
      go_roundg (n - (i + 1))
      case measure => omega
      case rel =>
        refine ⟨i + 1, by omega, by omega, by go_num, (show Aside _ from ?_), (show Aside _ from ?_)⟩
        · show World.ownsRow _ _ _ _ _ (i + 1) (flE ((ids.take (i + 1)).map vE))
          rw [unhide HN2]
          exact unhide HO2
        · exact (below_alloc BW.out _).grown (unhide HG) (below_alloc BW.out _).size (fun k hk => (OW.out.lt k hk).1)
    · obtain rfl : i = n := by omega
      have hltz : ¬ (i : Int) < (i : Int) := by omega
      have hfull : ids.take i = ids := List.take_of_length_le (by have := unhide HN; omega)
      have HOW1 : Hid (wr.ownsRow w2.heap.size 44 7 u7 (i + 0) (flE (ids.map vE ++ (macs.take 0).map sE))) := hide (by have := OW.out; rw [hfull] at this; simpa using this)
      have HBW1 := hide BW.out
      clear OW BW hfull hgg hi
      go_wp2
      go_loopg [7, 10] m (fun gg t7 t10 ws => ∃ j : Nat, j ≤ m ∧ m - j ≤ gg ∧ t10 = .int .i64 j ∧ Aside (ws.ownsRow w2.heap.size 44 7 t7 (i + j) (flE (ids.map vE ++ (macs.take j).map sE))) ∧ Aside (Below w2.heap.size w2 ws))
      case atStart => exact ⟨0, by omega, by omega, rfl, unhide HOW1, unhide HBW1⟩
      case round =>
        obtain ⟨j, hj, hgg, rfl, OW, BW⟩ := hrel
        clear HOW1 HBW1
        by_cases hlt2 : j < m
        · have hltz2 : (j : Int) < (m : Int) := by omega
          have hlj : j < macs.length := by have := unhide HMm; omega
          obtain ⟨x, hx⟩ : ∃ x, macs[j]? = some x := ⟨_, List.getElem?_eq_getElem hlj⟩
          have hxl : x < 65536 := unhide HIB x (List.mem_of_getElem? hx)
          obtain ⟨b, off, rfl, hc⟩ := u16s_at (unhide HRB) (by omega)
          have hcell := hc wr (below_then (unhide HB2) BW.out) j x hx
          have HN2 := hide (sE_take (ids.map vE) macs j x hx)
          have HRX : Hid (∀ W N, W.heap[N]? = some (.cells #[.int .i64 9, .int .i64 1, .int .i64 0, .int .i64 1, .int .u8 0, .int .u8 0, .int .u64 ((x : Int) + 1)] 44 (0, 0)) → RowA W (some ⟨N, 0, none⟩) (flE [sE x])) := hide (fun W N h => rowE_of h rfl)
          clear hc hx
          generalize sE x = ex at *
          go_wp2_with ((refine wpList_append_row rfl _ _ 37 rfl w2.heap.size 44 i0 _ 7 48 Try.underlying37 hi0 (unhide HZ0) (unhide HZ1) (unhide HZ2) rfl (by decide) (by decide) _ (i + j) (flE (ids.map vE ++ (macs.take j).map sE)) rfl (own_below OW.out (below_alloc (Below.refl _ _) _)) (some ⟨wr.heap.size, 0, none⟩) 1 1 (flE [ex]) rfl rfl (unhide HRX _ _ (heap_new _ _ _ rfl)) (flE_one _) (by omega) (by have := BW.out.size; simp; omega) ?_); intro v' w' ho' hgw hat; have HO2 := hide ho'; have HG := hide hgw; clear ho' hgw hat)
          go_roundg (m - (j + 1))
          case measure => omega
          case rel =>
            refine ⟨j + 1, by omega, by omega, by go_num, (show Aside _ from ?_), (show Aside _ from ?_)⟩
            · show World.ownsRow _ _ _ _ _ (i + (j + 1)) (flE (ids.map vE ++ (macs.take (j + 1)).map sE))
              rw [unhide HN2, ← Nat.add_assoc]
              exact unhide HO2
            · exact (below_alloc BW.out _).grown (unhide HG) (below_alloc BW.out _).size (fun k hk => (OW.out.lt k hk).1)
        · obtain rfl : j = m := by omega
          obtain ⟨ws, hws⟩ : ∃ x, x = wr := ⟨_, rfl⟩
          subst hws
          have hltz2 : ¬ (j : Int) < (j : Int) := by omega
          have hfull : macs.take j = macs := List.take_of_length_le (by have := unhide HMm; omega)
          have how := OW.out
          rw [hfull] at how
          obtain ⟨A7, c7, hu, hrow⟩ := own_rowE how
          subst hu
          have HL : Hid ((sortL ids macs).length = i + j) := hide (by have h1 := unhide HN; have h2 := unhide HMm; simp only [sortL, List.length_append, List.length_map]; omega)
          have HR7 : Hid (RowA ws A7 (flE (sortL ids macs))) := hide hrow
          have HBW2 := hide BW.out
          have hNz : (i : Int) + (j : Int) ≤ 22 := by omega
          obtain ⟨N, hN⟩ : ∃ N, N = i + j := ⟨_, rfl⟩
          rw [← hN]
          rw [← hN] at HL
          have hNl : N ≤ 22 := by omega
          have hNz2 : (N : Int) ≤ 22 := by omega
          clear OW BW hfull hgg hj how hrow hN hNz
          generalize sortL ids macs = L at *
          have HOW2 : Hid (ws.ownsRow w2.heap.size 44 7 (.slice none 0 0) 0 (flE (L.reverse.take 0))) := hide (World.ownsRow_nil _ _ _ _)
          go_wp2
          go_loopg [8, 11] N (fun gg t8 t11 wt => ∃ k : Nat, k ≤ N ∧ N - k ≤ gg ∧ t11 = .int .i64 k ∧ Aside (wt.ownsRow ws.heap.size 44 7 t8 k (flE (L.reverse.take k))) ∧ Aside (Below ws.heap.size ws wt))
          case atStart => exact ⟨0, by omega, by omega, rfl, (World.ownsRow_nil _ _ _ _), Below.refl _ _⟩
          case round =>
            obtain ⟨k, hk, hgg, rfl, OW, BW⟩ := hrel
            by_cases hlt3 : k < N
            · have hltz3 : (k : Int) < (N : Int) := by omega
              have hlk : k < L.reverse.length := by have := unhide HL; simp; omega
              obtain ⟨e, he⟩ : ∃ e, L.reverse[k]? = some e := ⟨_, List.getElem?_eq_getElem hlk⟩
              have hq : L[N - 1 - k]? = some e := by
                have h1 := unhide HL
                rw [List.getElem?_reverse (by omega)] at he
                rw [← he]; congr 1; omega
              obtain ⟨b, off, rfl, hc⟩ := rowE_at (unhide HR7) (by have := unhide HL; omega)
              obtain ⟨y0, y1, y2, y3, y4, y5, y6⟩ := hc wr BW.out (N - 1 - k) e hq
              have HN2 := hide (rev_take L k e he)
              have hkz : (N : Int) - 1 - (k : Int) = ((N - 1 - k : Nat) : Int) := by omega
              have hkn : N - 1 - k < N := by omega
              have HRX : Hid (∀ W M, W.heap[M]? = some (.cells #[.int .i64 e.kind, .int .i64 e.port, .int .i64 e.n, .int .i64 e.vlan, .int .u8 e.member, .int .u8 e.tagged, .int .u64 e.mac] 44 (0, 0)) → RowA W (some ⟨M, 0, none⟩) (flE [e])) := hide (fun W M h => rowE_of h rfl)
              clear hc hq he
              generalize N - 1 - k = q at *
              have t0 := cell_any y0
              have t1 := cell_any y1
              have t2 := cell_any y2
              have t3 := cell_any y3
              have t4 := cell_any y4
              have t5 := cell_any y5
              have t6 := cell_any y6
              go_wp2_with ((refine wpList_append_row rfl _ _ 37 rfl ws.heap.size 44 i0 _ 7 48 Try.underlying37 hi0 (unhide HZ0) (unhide HZ1) (unhide HZ2) rfl (by decide) (by decide) _ k (flE (L.reverse.take k)) rfl (own_below OW.out (below_alloc (Below.refl _ _) _)) (some ⟨wr.heap.size, 0, none⟩) 1 1 (flE [e]) rfl rfl (unhide HRX _ _ (heap_new _ _ _ rfl)) (flE_one _) (by omega) (by have := BW.out.size; simp; omega) ?_); intro v' w' ho' hgw hat; have HO2 := hide ho'; have HG := hide hgw; clear ho' hgw hat)
              go_roundg (N - (k + 1))
              case measure => omega
              case rel =>
                refine ⟨k + 1, by omega, by omega, by go_num, (show Aside _ from ?_), (show Aside _ from ?_)⟩
                · show World.ownsRow _ _ _ _ _ (k + 1) (flE (L.reverse.take (k + 1)))
                  rw [unhide HN2]
                  exact unhide HO2
                · exact (below_alloc BW.out _).grown (unhide HG) (below_alloc BW.out _).size (fun k hk => (OW.out.lt k hk).1)
            · obtain rfl : k = N := by omega
              have hltz3 : ¬ (k : Int) < (k : Int) := by omega
              have hfull : L.reverse.take k = L.reverse := List.take_of_length_le (by have := unhide HL; simp; omega)
              have how := OW.out
              rw [hfull] at how
              obtain ⟨A8, c8, hu, hrow⟩ := own_rowE how
              subst hu
              have HR8 : Hid (RowA wr A8 (flE L.reverse)) := hide hrow
              have HR7b := hide (rowA_below (unhide HR7) BW.out)
              have HA3 := hide ((unhide HA2).below (below_then (unhide HBW2) BW.out))
              have HB3 := hide (below_then (unhide HB2) (below_then (unhide HBW2) BW.out))
              have HC3 := hide (heap_keep (unhide HC1) (below_then (unhide HBW2) BW.out))
              clear OW BW hfull hgg hk how hrow
              obtain ⟨hm1, hm2, hm3, hm4⟩ := unhide HM
              have K19a : Hid (∀ W, CfgA W (firstC 2) Ap Av none → RowA W A7 (flE L) → Calls Try.prog 19 #[.agg #[.int .i64 32768, .int .i64 20, .int .i64 15, .slice Ap 2 cp, .slice Av 1 cv, .slice none 0 0], .slice A7 k c7] W (EdP (resC (firstC 2) L) 0 W)) := hide (fun W h1 h2 => by
                have h := edit_uni (firstC 2) L Ap Av none A7 cp cv 0 c7 (first_lens 2 (by omega)) (first_mems 2 (by omega)) W h1 h2 (maxLen_ge _ (by have := unhide HL; omega)) (unhide HEM)
                rw [hm1, unhide HL] at h
                exact h)
              have K19b : Hid (∀ W, CfgA W (firstC 2) Ap Av none → RowA W A8 (flE L.reverse) → Calls Try.prog 19 #[.agg #[.int .i64 32768, .int .i64 20, .int .i64 15, .slice Ap 2 cp, .slice Av 1 cv, .slice none 0 0], .slice A8 k c8] W (EdP (resC (firstC 2) L) 0 W)) := hide (fun W h1 h2 => by
                have h := edit_uni (firstC 2) L.reverse Ap Av none A8 cp cv 0 c8 (first_lens 2 (by omega)) (first_mems 2 (by omega)) W h1 h2 (maxLen_ge _ (by have := unhide HL; simp; omega)) (fun e he => unhide HEM e (List.mem_reverse.1 he))
                rw [hm2, hm3, List.length_reverse, unhide HL] at h
                exact h)
              have HLR := hide (res_lens (firstC 2) L)
              have HWY := hide hm4
              clear hm1 hm2 hm3 hm4 HM HEM
              generalize resC (firstC 2) L = R at *
              have K16 := hide (fun W A1 A2 A3 B1 B2 B3 k1 k2 k3 l1 l2 l3 (h1 : CfgA W R A1 A2 A3) (h2 : CfgA W R B1 B2 B3) => same_any R R A1 A2 A3 B1 B2 B3 k1 k2 k3 l1 l2 l3 (unhide HLR) (unhide HLR) W h1 h2)
              rw [same_refl] at K16
              unfold EdP at K19a K19b
              obtain ⟨q0, -⟩ := heap_cell (unhide HC3) 0
              obtain ⟨q1, -⟩ := heap_cell (unhide HC3) 1
              obtain ⟨q2, -⟩ := heap_cell (unhide HC3) 2
              obtain ⟨q3, -⟩ := heap_cell (unhide HC3) 3
              obtain ⟨q4, -⟩ := heap_cell (unhide HC3) 4
              obtain ⟨q5, -⟩ := heap_cell (unhide HC3) 5
              go_wp2_with (first
                | (go_at_call 19; ((with_reducible refine (unhide K19a _ (unhide HA3) (unhide HR7b)).mono ?_); rintro e w3 ⟨hb3, A1, k1, A2, k2, A3, k3, rfl, ho3⟩; have HR8b := hide (rowA_below (unhide HR8) (below_alloc hb3 (.cells #[.int .i64 R.prio, .int .i64 R.age, .int .i64 R.delay, .slice A1 R.ports.length k1, .slice A2 R.vlans.length k2, .slice A3 R.stats.length k3] 26))); have HA4 := hide ((unhide HA3).below (below_alloc hb3 (.cells #[.int .i64 R.prio, .int .i64 R.age, .int .i64 R.delay, .slice A1 R.ports.length k1, .slice A2 R.vlans.length k2, .slice A3 R.stats.length k3] 26))); have HB4 := hide (below_then (unhide HB3) (below_alloc hb3 (.cells #[.int .i64 R.prio, .int .i64 R.age, .int .i64 R.delay, .slice A1 R.ports.length k1, .slice A2 R.vlans.length k2, .slice A3 R.stats.length k3] 26))); have HO4 := hide (ho3.adr.below (below_alloc (Below.refl _ _) (.cells #[.int .i64 R.prio, .int .i64 R.age, .int .i64 R.delay, .slice A1 R.ports.length k1, .slice A2 R.vlans.length k2, .slice A3 R.stats.length k3] 26))); have HY4 := hide (heap_new w3 (.cells #[.int .i64 R.prio, .int .i64 R.age, .int .i64 R.delay, .slice A1 R.ports.length k1, .slice A2 R.vlans.length k2, .slice A3 R.stats.length k3] 26) _ rfl); have HC4 := hide (heap_keep (unhide HC3) (below_alloc hb3 (.cells #[.int .i64 R.prio, .int .i64 R.age, .int .i64 R.delay, .slice A1 R.ports.length k1, .slice A2 R.vlans.length k2, .slice A3 R.stats.length k3] 26))); clear q0 q1 q2 q3 q4 q5; obtain ⟨q0, -⟩ := heap_cell (unhide HC4) 0; obtain ⟨q1, -⟩ := heap_cell (unhide HC4) 1; obtain ⟨q2, -⟩ := heap_cell (unhide HC4) 2; obtain ⟨q3, -⟩ := heap_cell (unhide HC4) 3; obtain ⟨q4, -⟩ := heap_cell (unhide HC4) 4; obtain ⟨q5, -⟩ := heap_cell (unhide HC4) 5; clear hb3 ho3))
                | (go_at_call 19; ((with_reducible refine (unhide K19b _ (unhide HA4) (unhide HR8b)).mono ?_); rintro e w5 ⟨hb5, B1, l1, B2, l2, B3, l3, rfl, ho5⟩; have HB6 := hide (below_then (unhide HB4) (below_alloc hb5 (.cells #[.int .i64 R.prio, .int .i64 R.age, .int .i64 R.delay, .slice B1 R.ports.length l1, .slice B2 R.vlans.length l2, .slice B3 R.stats.length l3] 26))); have HO6 := hide ((unhide HO4).below (below_alloc hb5 (.cells #[.int .i64 R.prio, .int .i64 R.age, .int .i64 R.delay, .slice B1 R.ports.length l1, .slice B2 R.vlans.length l2, .slice B3 R.stats.length l3] 26))); have HP6 := hide (ho5.adr.below (below_alloc (Below.refl _ _) (.cells #[.int .i64 R.prio, .int .i64 R.age, .int .i64 R.delay, .slice B1 R.ports.length l1, .slice B2 R.vlans.length l2, .slice B3 R.stats.length l3] 26))); have HY6 := hide (heap_keep (unhide HY4) (below_alloc hb5 (.cells #[.int .i64 R.prio, .int .i64 R.age, .int .i64 R.delay, .slice B1 R.ports.length l1, .slice B2 R.vlans.length l2, .slice B3 R.stats.length l3] 26))); clear q0 q1 q2 q3 q4 q5; obtain ⟨q0, -⟩ := heap_cell (unhide HY6) 0; obtain ⟨q1, -⟩ := heap_cell (unhide HY6) 1; obtain ⟨q2, -⟩ := heap_cell (unhide HY6) 2; obtain ⟨q3, -⟩ := heap_cell (unhide HY6) 3; obtain ⟨q4, -⟩ := heap_cell (unhide HY6) 4; obtain ⟨q5, -⟩ := heap_cell (unhide HY6) 5; clear hb5 ho5))
                | (go_at_call 16; ((with_reducible refine (unhide K16 _ _ _ _ _ _ _ _ _ _ _ _ _ (unhide HO6) (unhide HP6)).mono ?_); rintro e w7 ⟨rfl, hb7⟩; have HB7 := hide (below_then (unhide HB6) hb7); have HO7 := hide ((unhide HO6).below hb7); have HY7 := hide (heap_keep (unhide HY6) hb7); clear hb7)))
              have y4s : w7.cell? ⟨w3.heap.size, 4, none⟩ = some (.slice A2 R.vlans.length k2) := (heap_cell (unhide HY7) 4).1
              clear y4s q0 q1 q2 q3 q4 q5
              generalize hlnv : R.vlans.length = nv at *
              have HLNv := hide hlnv
              clear hlnv
              go_loopg [16] nv (fun gg tt wr => ∃ q : Nat, 1 ≤ q ∧ (q ≤ nv ∨ q = 1) ∧ nv - q ≤ gg ∧ tt = .int .i64 q ∧ Aside (Below w7.heap.size w7 wr))
              case atStart => exact ⟨1, by omega, by omega, by omega, rfl, Below.refl _ _⟩
              case round =>
                obtain ⟨q, hq1, hq2, hgq, rfl, BV⟩ := hrel
                have y4 : wr.cell? ⟨w3.heap.size, 4, none⟩ = some (.slice A2 nv k2) := (heap_cell (heap_keep (unhide HY7) BV.out) 4).1
                by_cases hlq : q < nv
                · have hqz : (q : Int) < (nv : Int) := by omega
                  have hk0 : (1 : Int) ≤ (q : Int) := by omega
                  have hnb : (nv : Int) ≤ 16 := by have h0 := unhide HLNv; have h1 := (unhide HWY).lv; have h2 := (unhide HWY).ls; omega
                  obtain ⟨mm, hm⟩ : ∃ mm : Nat, q - 1 = mm := ⟨_, rfl⟩
                  have hw1 : (q : Int) - 1 = (mm : Int) := by omega
                  have hw2 : IntKind.i64.wrap (mm : Int) = (mm : Int) := by rw [IntKind.wrap_i64]; omega
                  have hmn : (mm : Int) < (nv : Int) := by omega
                  obtain ⟨b, off, hAx, hc⟩ := rowV_at (unhide HO7).2.1 (by have := unhide HLNv; omega)
                  obtain ⟨u, hu⟩ : ∃ v, R.vlans[mm]? = some v := ⟨_, List.getElem?_eq_getElem (by have := unhide HLNv; omega)⟩
                  obtain ⟨v, hv⟩ : ∃ v, R.vlans[q]? = some v := ⟨_, List.getElem?_eq_getElem (by have := unhide HLNv; omega)⟩
                  have hup := wy_up (unhide HWY) mm u v hu (by rw [← hv]; congr 1; omega)
                  have HK := hide (fun (W : World) (h : Below w7.heap.size w7 W) => (⟨h, (heap_cell (heap_keep (unhide HY7) h) 4).1, (hc W h _ u hu).1, (hc W h _ v hv).1⟩ :
                    Below w7.heap.size w7 W ∧ W.cell? ⟨w3.heap.size, 4, none⟩ = some (.slice A2 nv k2) ∧ W.cell? ⟨b, off + mm * 3, none⟩ = some (.int .i64 u.1) ∧ W.cell? ⟨b, off + q * 3, none⟩ = some (.int .i64 v.1)))
                  subst hAx
                  have hbw := BV.out
                  clear hc hu hv hm
                  generalize u.1 = ua at *
                  generalize v.1 = va at *
                  have hd1 : decide (va ≤ ua) = false := by simp; omega
                  have hd2 : ¬ va ≤ ua := by omega
                  go_wp2
                  go_region_held3 (fun W => Below w7.heap.size w7 W ∧ W.cell? ⟨w3.heap.size, 4, none⟩ = some (.slice (some ⟨b, off, none⟩) nv k2) ∧ W.cell? ⟨b, off + mm * 3, none⟩ = some (.int .i64 ua) ∧ W.cell? ⟨b, off + q * 3, none⟩ = some (.int .i64 va)) ((go_split_ands; refine unhide HK _ ?_; (repeat (first | (with_reducible assumption) | (with_reducible exact Below.refl _ _) | (with_reducible refine Below.drew ?_) | (with_reducible refine below_drewN ?_ _) | (with_reducible refine below_alloc ?_ _))))) (fail)
                  all_goals
                    go_wp2
                    go_roundg (nv - (q + 1))
                    case measure => omega
                    case rel => exact ⟨q + 1, by omega, by omega, by omega, by go_num, Below.drew hbw⟩
                · have hqz : ¬ (q : Int) < (nv : Int) := by omega
                  obtain ⟨wx, hwx⟩ : ∃ x, x = wr := ⟨_, rfl⟩
                  subst hwx
                  have HBX := hide BV.out
                  clear BV hgq hq2
                  go_wp2
                  generalize hlns : R.stats.length = ns at *
                  have HLNs := hide hlns
                  clear hlns
                  go_loopg [17] ns (fun gg tt wr => ∃ q : Nat, 1 ≤ q ∧ (q ≤ ns ∨ q = 1) ∧ ns - q ≤ gg ∧ tt = .int .i64 q ∧ Aside (Below wx.heap.size wx wr))
                  case atStart => exact ⟨1, by omega, by omega, by omega, rfl, Below.refl _ _⟩
                  case round =>
                    obtain ⟨q, hq1, hq2, hgq, rfl, BV⟩ := hrel
                    have y4 : wr.cell? ⟨w3.heap.size, 5, none⟩ = some (.slice A3 ns k3) := (heap_cell (heap_keep (unhide HY7) (below_then (unhide HBX) BV.out)) 5).1
                    by_cases hlq : q < ns
                    · have hqz : (q : Int) < (ns : Int) := by omega
                      have hk0 : (1 : Int) ≤ (q : Int) := by omega
                      have hnb : (ns : Int) ≤ 16 := by have h0 := unhide HLNs; have h1 := (unhide HWY).lv; have h2 := (unhide HWY).ls; omega
                      obtain ⟨mm, hm⟩ : ∃ mm : Nat, q - 1 = mm := ⟨_, rfl⟩
                      have hw1 : (q : Int) - 1 = (mm : Int) := by omega
                      have hw2 : IntKind.i64.wrap (mm : Int) = (mm : Int) := by rw [IntKind.wrap_i64]; omega
                      have hmn : (mm : Int) < (ns : Int) := by omega
                      obtain ⟨b, off, hAx, hc⟩ := rowS_at (unhide HO7).2.2 (by have := unhide HLNs; omega)
                      obtain ⟨u, hu⟩ : ∃ v, R.stats[mm]? = some v := ⟨_, List.getElem?_eq_getElem (by have := unhide HLNs; omega)⟩
                      obtain ⟨v, hv⟩ : ∃ v, R.stats[q]? = some v := ⟨_, List.getElem?_eq_getElem (by have := unhide HLNs; omega)⟩
                      have hup := wy_ups (unhide HWY) mm u v hu (by rw [← hv]; congr 1; omega)
                      have HK := hide (fun (W : World) (h : Below wx.heap.size wx W) => (⟨h, (heap_cell (heap_keep (unhide HY7) (below_then (unhide HBX) h)) 5).1, (hc W (below_then (unhide HBX) h) _ u hu).1, (hc W (below_then (unhide HBX) h) _ v hv).1⟩ :
                        Below wx.heap.size wx W ∧ W.cell? ⟨w3.heap.size, 5, none⟩ = some (.slice A3 ns k3) ∧ W.cell? ⟨b, off + mm * 3, none⟩ = some (.int .u64 u.1) ∧ W.cell? ⟨b, off + q * 3, none⟩ = some (.int .u64 v.1)))
                      subst hAx
                      have hbw := BV.out
                      clear hc hu hv hm
                      generalize u.1 = ua at *
                      generalize v.1 = va at *
                      have hd1 : decide (va ≤ ua) = false := by simp; omega
                      have hd2 : ¬ va ≤ ua := by omega
                      go_wp2
                      go_region_held3 (fun W => Below wx.heap.size wx W ∧ W.cell? ⟨w3.heap.size, 5, none⟩ = some (.slice (some ⟨b, off, none⟩) ns k3) ∧ W.cell? ⟨b, off + mm * 3, none⟩ = some (.int .u64 ua) ∧ W.cell? ⟨b, off + q * 3, none⟩ = some (.int .u64 va)) ((go_split_ands; refine unhide HK _ ?_; (repeat (first | (with_reducible assumption) | (with_reducible exact Below.refl _ _) | (with_reducible refine Below.drew ?_) | (with_reducible refine below_drewN ?_ _) | (with_reducible refine below_alloc ?_ _))))) (fail)
                      all_goals
                        go_wp2
                        go_roundg (ns - (q + 1))
                        case measure => omega
                        case rel => exact ⟨q + 1, by omega, by omega, by omega, by go_num, Below.drew hbw⟩
                    · have hqz : ¬ (q : Int) < (ns : Int) := by omega
                      have hbv := BV.out
                      go_wp2_with (go_at_call 10; (with_reducible refine (wakes_any _).mono ?_); rintro e w9 ⟨rfl, hb9⟩; have HB9 := hide hb9; clear hb9)
                      go_ret
                      exact ⟨rfl, below_then (unhide HB7) (below_then (unhide HBX) (below_then hbv (unhide HB9)))⟩
end Go.Proofs.Ytbbadncdkiganaa
