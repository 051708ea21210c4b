/- ConfigUndoes: its walk. -/
import Derived.Test.YtbbadncdkiganabKrgl
import Derived.Test.YtbbadncdkiganabKund
import Derived.Test.YtbbadncdkiganabKfair
import Derived.Test.YtbbadncdkiganabKwakes
namespace Go.Proofs.Ytbbadncdkiganab
open Go.RowKit
set_option linter.unusedVariables false
set_option maxRecDepth 4000
theorem rgood_any (c : Cfg) (Ap Av As : Option Addr) (cp cv cs : Nat) (hM : Mems c) (w : World) (hA : CfgA w c Ap Av As) :
    Calls Try.prog 5 #[.agg #[.int .i64 c.prio, .int .i64 c.age, .int .i64 c.delay, .slice Ap c.ports.length cp, .slice Av c.vlans.length cv, .slice As c.stats.length cs]] w fun e w' => e = .returned (.bool (goodB c)) ∧ Below w.heap.size w w' := by
  cases ht : treeB c with
  | false =>
    have := rgood_tree c Ap Av As cp cv cs w ht
    rw [show goodB c = false by simp [goodB, ht]]
    exact this
  | true =>
    cases hs : sizesB c with
    | false =>
      have := rgood_size c Ap Av As cp cv cs w ht hs
      rw [show goodB c = false by simp [goodB, hs]]
      exact this
    | true =>
      have := rgood_loops c Ap Av As cp cv cs hM w hA ht hs
      rw [show goodB c = (vlansB c && portsB c && statsB c) by simp [goodB, ht, hs, Bool.and_assoc]]
      exact this
abbrev cCells (R : Cfg) (A1 A2 A3 : Option Addr) (k1 k2 k3 : Nat) : Array Value := #[.int .i64 R.prio, .int .i64 R.age, .int .i64 R.delay, .slice A1 R.ports.length k1, .slice A2 R.vlans.length k2, .slice A3 R.stats.length k3]
set_option maxHeartbeats 4000000 in
theorem und_no (c : Cfg) (p n : Int) (Ap Av As : Option Addr) (cp cv cs : Nat) (hM : Mems c) (w : World) (hA : CfgA w c Ap Av As) (h : ¬ ((c.ports.length ≤ 20 ∧ c.vlans.length ≤ 40 ∧ c.stats.length ≤ 40) ∧ goodB c = true)) :
    Calls Try.prog 3 #[.agg (cCells c Ap Av As cp cv cs), .int .u8 p, .int .u16 n] w fun e w' => e = .returned (.bool true) ∧ Below w.heap.size w w' := by
  have HB : Hid (Below w.heap.size w (w.alloc (.cells (cCells c Ap Av As cp cv cs) 26))) := hide (below_alloc (Below.refl _ _) _)
  by_cases hf : c.ports.length ≤ 20 ∧ c.vlans.length ≤ 40 ∧ c.stats.length ≤ 40
  · have hg : goodB c = false := by
      cases hg : goodB c with
      | false => rfl
      | true => exact absurd ⟨hf, hg⟩ h
    have HF := hide (fun W => fair_t c.prio c.age c.delay Ap Av As _ _ _ cp cv cs hf W)
    have HR := hide (fun W (hW : Below w.heap.size w W) => rgood_any c Ap Av As cp cv cs hM W (hA.below hW))
    rw [hg] at HR
    have HK := hide (heap_new w (.cells (cCells c Ap Av As cp cv cs) 26) _ rfl)
    clear h hf hg hA
    go_enter Try.func3, Try.ntmps3
    go_wp2_with (first
      | (go_at_call 4; (with_reducible refine (unhide HF _).mono ?_); rintro e w1 ⟨rfl, hb1⟩; have HB1 := hide (below_then (unhide HB) hb1); have hk := heap_keep (unhide HK) hb1; obtain ⟨m0, -⟩ := heap_cell hk 0; obtain ⟨m1, -⟩ := heap_cell hk 1; obtain ⟨m2, -⟩ := heap_cell hk 2; obtain ⟨m3, -⟩ := heap_cell hk 3; obtain ⟨m4, -⟩ := heap_cell hk 4; obtain ⟨m5, -⟩ := heap_cell hk 5; clear hb1 hk)
      | (go_at_call 5; (with_reducible refine (unhide HR _ (unhide HB1)).mono ?_); rintro e w3 ⟨rfl, hb3⟩; have HB3 := hide (below_then (unhide HB1) hb3); clear hb3)
      | (go_at_call 6; (with_reducible refine (wakes_any _).mono ?_); rintro e w2 ⟨rfl, hb2⟩; have HB2 := hide (below_then (unhide HB3) hb2); clear hb2))
    go_ret
    exact ⟨rfl, unhide HB2⟩
  · have HF := hide (fun W => fair_f c.prio c.age c.delay Ap Av As _ _ _ cp cv cs hf W)
    clear h hf hA
    go_enter Try.func3, Try.ntmps3
    go_wp2_with (first
      | (go_at_call 4; (with_reducible refine (unhide HF _).mono ?_); rintro e w1 ⟨rfl, hb1⟩; have HB1 := hide (below_then (unhide HB) hb1); clear hb1)
      | (go_at_call 6; (with_reducible refine (wakes_any _).mono ?_); rintro e w2 ⟨rfl, hb2⟩; have HB2 := hide (below_then (unhide HB1) hb2); clear hb2))
    go_ret
    exact ⟨rfl, unhide HB2⟩
abbrev aCells (k : Nat) (u : Bool) (n : Nat) : Array Value := #[.int .i64 5, .int .i64 k, .int .i64 (1 + (n : Int)), .int .i64 0, .int .u8 0, .int .u8 0, .int .u64 0, .int .i64 4, .int .i64 k, .int .i64 (1 - wasI u), .int .i64 0, .int .u8 0, .int .u8 0, .int .u64 0, .int .i64 1, .int .i64 0, .int .i64 (4096 * ((n : Int) % 16)), .int .i64 0, .int .u8 0, .int .u8 0, .int .u64 0]
abbrev bCells (k : Nat) (u : Bool) (prio co : Int) : Array Value := #[.int .i64 1, .int .i64 0, .int .i64 prio, .int .i64 0, .int .u8 0, .int .u8 0, .int .u64 0, .int .i64 4, .int .i64 k, .int .i64 (wasI u), .int .i64 0, .int .u8 0, .int .u8 0, .int .u64 0, .int .i64 5, .int .i64 k, .int .i64 co, .int .i64 0, .int .u8 0, .int .u8 0, .int .u64 0]
theorem und_memA (k : Nat) (u : Bool) (n : Nat) : ∀ e ∈ undA k u n, 0 ≤ e.member ∧ e.member ≤ 255 := by simp [undA]
theorem und_memB (k : Nat) (u : Bool) (a b : Int) : ∀ e ∈ undB k u a b, 0 ≤ e.member ∧ e.member ≤ 255 := by simp [undB]
set_option maxHeartbeats 16000000 in
theorem und_yes (c : Cfg) (p n : Nat) (hp : p ≤ 255) (hn : n ≤ 65535) (Ap Av As : Option Addr) (cp cv cs : Nat) (hL : Lens c) (hM : Mems c) (w : World) (hA : CfgA w c Ap Av As) (hf : c.ports.length ≤ 20 ∧ c.vlans.length ≤ 40 ∧ c.stats.length ≤ 40) (hg : goodB c = true) :
    Calls Try.prog 3 #[.agg (cCells c Ap Av As cp cv cs), .int .u8 p, .int .u16 n] w fun e w' => e = .returned (.bool true) ∧ Below w.heap.size w w' := by
  have HB : Hid (Below w.heap.size w (w.alloc (.cells (cCells c Ap Av As cp cv cs) 26))) := hide (below_alloc (Below.refl _ _) _)
  have hs := sizes_lim (c := c) (by
    cases h : sizesB c with
    | true => rfl
    | false => have : goodB c = false := by simp [goodB, h]
               rw [this] at hg; cases hg)
  obtain ⟨⟨s1, s2⟩, _⟩ := hs
  obtain ⟨k, hk⟩ : ∃ k : Nat, k = p % c.ports.length := ⟨_, rfl⟩
  have hkn : k < c.ports.length := by rw [hk]; exact Nat.mod_lt _ (by omega)
  have hkk : (p : Int) % (c.ports.length : Int) = (k : Int) := by rw [hk]; simp
  obtain ⟨q, hq⟩ : ∃ q, c.ports[k]? = some q := ⟨_, List.getElem?_eq_getElem hkn⟩
  have HQ := hide hq
  obtain ⟨qc1, qc2⟩ := und_cost hq hg
  have HW := hide (show IntKind.i64.wrap q.2.1 = q.2.1 by rw [IntKind.wrap_i64]; omega)
  have HF := hide (fun W => fair_t c.prio c.age c.delay Ap Av As _ _ _ cp cv cs hf W)
  have HR := hide (fun W (hW : Below w.heap.size w W) => rgood_any c Ap Av As cp cv cs hM W (hA.below hW))
  rw [hg] at HR
  have HK := hide (heap_new w (.cells (cCells c Ap Av As cp cv cs) 26) _ rfl)
  have E1 := hide (fun (W : World) (N : Nat) (hN : W.heap[N]? = some (.cells (aCells k q.1 n) 38 (0, 0))) (hW : Below w.heap.size w W) => by
    have := edit_uni c (undA k q.1 n) Ap Av As (some ⟨N, 0, none⟩) cp cv cs 3 hL hM W (hA.below hW) (rowE_of hN rfl) (maxLen_ge _ (by simp [undA])) (und_memA k q.1 n)
    rw [(und_a hq n hn hg).1, (und_a hq n hn hg).2, show (undA k q.1 n).length = 3 from rfl] at this
    exact this)
  have hDL : Lens (undD c k q n) := ⟨by show (c.ports.set k _).length ≤ _; rw [List.length_set]; exact hL.1, hL.2.1, hL.2.2⟩
  have E2 := hide (fun (W : World) Dp Dv Ds dp dv ds (N : Nat) (hD : CfgA W (undD c k q n) Dp Dv Ds) (hN : W.heap[N]? = some (.cells (bCells k q.1 c.prio q.2.1) 38 (0, 0))) => by
    have := edit_uni (undD c k q n) (undB k q.1 c.prio q.2.1) Dp Dv Ds (some ⟨N, 0, none⟩) dp dv ds 3 hDL hM W hD (rowE_of hN rfl) (maxLen_ge _ (by simp [undB])) (und_memB k q.1 _ _)
    rw [(und_b hq n hn hg).1, (und_b hq n hn hg).2, show (undB k q.1 c.prio q.2.1).length = 3 from rfl] at this
    exact this)
  have SM := hide (fun W B1 B2 B3 b1 b2 b3 (hB : CfgA W c B1 B2 B3) (hW : Below w.heap.size w W) => bool_to (same_any c c B1 B2 B3 Ap Av As b1 b2 b3 cp cv cs hL hL W hB (hA.below hW)) (same_refl c))
  have HAA := hide hA
  have HDQ := hide (get_set (x := (!q.1, 1 + (n : Int), q.2.2)) hq)
  have hlen : (undD c k q n).ports.length = c.ports.length := List.length_set
  have HLEN := hide hlen
  have hkz : (k : Int) < (c.ports.length : Int) := by omega
  have hnz : ¬ ((c.ports.length : Int) = 0) := by omega
  obtain ⟨bp, op, hAp, hc⟩ := rowP_at hA.1 (by omega)
  have HCP := hide hc
  subst hAp
  clear hc hA hg hL hM hf hq hDL hlen hk
  go_enter Try.func3, Try.ntmps3
  go_upto_region 5 with (first
    | (go_at_call 4; (with_reducible refine (unhide HF _).mono ?_); rintro e w1 ⟨rfl, hb1⟩; have HB1 := hide (below_then (unhide HB) hb1); have hk := heap_keep (unhide HK) hb1; have HK1 := hide hk; obtain ⟨m0, -⟩ := heap_cell hk 0; obtain ⟨m1, -⟩ := heap_cell hk 1; obtain ⟨m2, -⟩ := heap_cell hk 2; obtain ⟨m3, -⟩ := heap_cell hk 3; obtain ⟨m4, -⟩ := heap_cell hk 4; obtain ⟨m5, -⟩ := heap_cell hk 5; clear hb1 hk)
    | (go_at_call 5; (with_reducible refine (unhide HR _ (unhide HB1)).mono ?_); rintro e w2 ⟨rfl, hb2⟩; have HB2 := hide (below_then (unhide HB1) hb2); have hk := heap_keep (unhide HK1) hb2; have HK2 := hide hk; obtain ⟨m0, -⟩ := heap_cell hk 0; obtain ⟨m1, -⟩ := heap_cell hk 1; obtain ⟨m2, -⟩ := heap_cell hk 2; obtain ⟨m3, -⟩ := heap_cell hk 3; obtain ⟨m4, -⟩ := heap_cell hk 4; obtain ⟨m5, -⟩ := heap_cell hk 5; clear hb2 hk))
  rw [hkk]
  obtain ⟨e0, e1, e2⟩ := unhide HCP w2 (unhide HB2) k q (unhide HQ)
  go_upto_if 33 with fail
  go_cut [8] from 34 (fun r w' => w' = w2 ∧ r = .int .i64 (wasI q.1))
  case first =>
    obtain ⟨u, co, pv⟩ := q
    dsimp only at *
    cases u with
    | true =>
      go_wp2
      go_meet
      case rel => exact ⟨rfl, rfl⟩
    | false =>
      go_wp2
      go_meet
      case rel => exact ⟨rfl, rfl⟩
  obtain ⟨rfl, rfl⟩ := hcut
  have z0 : 0 ≤ wasI q.1 := by unfold wasI; cases q.1 <;> decide
  have z1 : wasI q.1 ≤ 1 := by unfold wasI; cases q.1 <;> decide
  go_upto_region 8 with (first
    | (go_at_call 7; (with_reducible refine (unhide E1 _ _ (heap_new _ _ _ ?_) ?_).mono ?_); (focus (simp; done)); (focus (exact below_alloc (unhide HB2) _)); rintro e w3 ⟨hb3, Dp, d1, Dv, d2, Ds, dN3, rfl, ho⟩; have HB3 := hide (below_then (below_alloc (unhide HB2) _) hb3); have HK3 := hide (heap_keep (heap_keep (unhide HK2) (below_alloc (Below.refl _ _) _)) hb3); have HDO := hide ho.adr; clear hb3 ho m0 m1 m2 m3 m4 m5 e0 e1 e2))
  have hb4 := below_alloc (Below.refl w3.heap.size w3) (.cells #[.int .i64 (undD c k q n).prio, .int .i64 (undD c k q n).age, .int .i64 (undD c k q n).delay, .slice Dp (undD c k q n).ports.length d1, .slice Dv (undD c k q n).vlans.length d2, .slice Ds (undD c k q n).stats.length dN3] 26)
  have HD4 := hide (heap_new w3 (.cells #[.int .i64 (undD c k q n).prio, .int .i64 (undD c k q n).age, .int .i64 (undD c k q n).delay, .slice Dp (undD c k q n).ports.length d1, .slice Dv (undD c k q n).vlans.length d2, .slice Ds (undD c k q n).stats.length dN3] 26) _ rfl)
  have HB4 := hide (below_then (unhide HB3) hb4)
  have HK4 := hide (heap_keep (unhide HK3) hb4)
  have HDO4 := hide ((unhide HDO).below hb4)
  clear hb4 HB3 HK3 HDO
  generalize w3.alloc (.cells #[.int .i64 (undD c k q n).prio, .int .i64 (undD c k q n).age, .int .i64 (undD c k q n).delay, .slice Dp (undD c k q n).ports.length d1, .slice Dv (undD c k q n).vlans.length d2, .slice Ds (undD c k q n).stats.length dN3] 26) = w4 at *
  generalize w3.heap.size = g4 at *
  obtain ⟨bd, od, hDp, hcd⟩ := rowP_at (unhide HDO4).1 (by have := unhide HLEN; omega)
  have HDP := hide hDp
  subst hDp
  obtain ⟨f0, f1, f2⟩ := hcd w4 (Below.refl _ _) k _ (unhide HDQ)
  obtain ⟨e0, e1, e2⟩ := unhide HCP w4 (unhide HB4) k q (unhide HQ)
  obtain ⟨m3, -⟩ := heap_cell (unhide HK4) 3
  obtain ⟨d0, -⟩ := heap_cell (unhide HD4) 0
  obtain ⟨d3, -⟩ := heap_cell (unhide HD4) 3
  rw [unhide HLEN] at d3 ⊢
  have hub : ((!q.1) == q.1) = false := by cases q.1 <;> rfl
  rw [show (1 + (n : Int)) = (n : Int) + 1 from Int.add_comm _ _] at f1
  rw [show (undD c k q n).prio = 4096 * ((n : Int) % 16) from rfl] at d0
  have n0 : (0 : Int) ≤ (n : Int) := by omega
  have n1 : (n : Int) ≤ 65535 := by omega
  clear hcd
  go_cut [115] from 13 to 115 (fun r w' => (∃ j, w' = w4.drewN j) ∧ r = .bool false)
  case first =>
    --R8<
    go_quiet (fail)
    go_wp2
    go_meet
    case rel => exact ⟨⟨_, rfl⟩, rfl⟩
    --R8>
  obtain ⟨⟨jj, hjj⟩, rfl⟩ := hcut
  have hb5 : Below w4.heap.size w4 wc := by rw [hjj]; exact below_drewN (Below.refl _ _) _
  have HB5 := hide (below_then (unhide HB4) hb5)
  have HK5 := hide (heap_keep (unhide HK4) hb5)
  have HD5 := hide (heap_keep (unhide HD4) hb5)
  have HDO5 := hide ((unhide HDO4).below hb5)
  clear hb5 hjj f0 f1 f2 e0 e1 e2 m3 d0 d3 hub HB4 HK4 HD4 HDO4
  generalize wc = w5 at *
  go_upto_region 10 with fail
  have HSK := hide (fun (W : World) (hW : Below w5.heap.size w5 W) => (⟨hW, (heap_cell (heap_keep (unhide HD5) hW) 0).1, (heap_cell (heap_keep (unhide HD5) hW) 1).1, (heap_cell (heap_keep (unhide HD5) hW) 2).1, (heap_cell (heap_keep (unhide HD5) hW) 3).1, (heap_cell (heap_keep (unhide HD5) hW) 4).1, (heap_cell (heap_keep (unhide HD5) hW) 5).1, (heap_cell (heap_keep (unhide HK5) hW) 0).1, (heap_cell (heap_keep (unhide HK5) hW) 3).1, (unhide HCP W (below_then (unhide HB5) hW) k q (unhide HQ)).2.1⟩ : Below w5.heap.size w5 W ∧ W.cell? ⟨g4, 0, none⟩ = some (.int .i64 (undD c k q n).prio) ∧ W.cell? ⟨g4, 1, none⟩ = some (.int .i64 (undD c k q n).age) ∧ W.cell? ⟨g4, 2, none⟩ = some (.int .i64 (undD c k q n).delay) ∧ W.cell? ⟨g4, 3, none⟩ = some (.slice (some ⟨bd, od, none⟩) (undD c k q n).ports.length d1) ∧ W.cell? ⟨g4, 4, none⟩ = some (.slice Dv (undD c k q n).vlans.length d2) ∧ W.cell? ⟨g4, 5, none⟩ = some (.slice Ds (undD c k q n).stats.length dN3) ∧ W.cell? ⟨w.heap.size, 0, none⟩ = some (.int .i64 c.prio) ∧ W.cell? ⟨w.heap.size, 3, none⟩ = some (.slice (some ⟨bp, op, none⟩) c.ports.length cp) ∧ W.cell? ⟨bp, op + k * 3 + 1, none⟩ = some (.int .u32 q.2.1)))
  go_cut [11, 12] from 117 (fun va vb w' => ∃ g F1 f1 F2 f2 F3 f3, va = .pointer (some ⟨g, 0, none⟩) ∧ vb = .int .i64 0 ∧ w'.heap[g]? = some (.cells (cCells c F1 F2 F3 f1 f2 f3) 26 (0, 0)) ∧ CfgA w' c F1 F2 F3 ∧ Below w5.heap.size w5 w')
  case first =>
    --R10<
    go_region_held3 (fun W => Below w5.heap.size w5 W ∧ W.cell? ⟨g4, 0, none⟩ = some (.int .i64 (undD c k q n).prio) ∧ W.cell? ⟨g4, 1, none⟩ = some (.int .i64 (undD c k q n).age) ∧ W.cell? ⟨g4, 2, none⟩ = some (.int .i64 (undD c k q n).delay) ∧ W.cell? ⟨g4, 3, none⟩ = some (.slice (some ⟨bd, od, none⟩) (undD c k q n).ports.length d1) ∧ W.cell? ⟨g4, 4, none⟩ = some (.slice Dv (undD c k q n).vlans.length d2) ∧ W.cell? ⟨g4, 5, none⟩ = some (.slice Ds (undD c k q n).stats.length dN3) ∧ W.cell? ⟨w.heap.size, 0, none⟩ = some (.int .i64 c.prio) ∧ W.cell? ⟨w.heap.size, 3, none⟩ = some (.slice (some ⟨bp, op, none⟩) c.ports.length cp) ∧ W.cell? ⟨bp, op + k * 3 + 1, none⟩ = some (.int .u32 q.2.1)) ((go_split_ands; refine unhide HSK _ ?_; (repeat (first | (with_reducible assumption) | exact Below.refl _ _ | (with_reducible refine Below.drew ?_) | (with_reducible refine below_drewN ?_ _) | (with_reducible refine below_alloc ?_ _) | (with_reducible refine below_set ?_ _ _ _ (by omega))))))
      (first | (go_at_call 7; (with_reducible refine (unhide E2 _ _ _ _ _ _ _ _ ((unhide HDO5).below ?_) ?_).mono ?_); (focus (repeat (first | (with_reducible assumption) | exact Below.refl _ _ | (with_reducible refine Below.drew ?_) | (with_reducible refine below_drewN ?_ _) | (with_reducible refine below_alloc ?_ _)))); (focus (rw [unhide HW]; first | exact heap_new _ _ _ (by simp) | exact heap_keep (heap_new _ _ _ (by simp)) (Below.drew (Below.refl _ _)) | exact heap_keep (heap_new _ _ _ (by simp)) (below_alloc (Below.refl _ _) _) | exact heap_keep (heap_new _ _ _ (by simp)) (below_alloc (Below.drew (Below.refl _ _)) _) | exact heap_keep (heap_new _ _ _ (by simp)) (Below.drew (below_alloc (Below.refl _ _) _)) | exact heap_keep (heap_new _ _ _ (by simp)) (Below.drew (below_alloc (Below.drew (Below.refl _ _)) _)))); rintro e w6 ⟨hb6, F1, l1', F2, l2', F3, l3', rfl, ho6⟩; have HO6 := hide ho6; have hc6 := below_then (by (repeat (first | (with_reducible assumption) | exact Below.refl _ _ | (with_reducible refine Below.drew ?_) | (with_reducible refine below_drewN ?_ _) | (with_reducible refine below_alloc ?_ _))) : Below w5.heap.size w5 _) hb6; have HB6 := hide hc6; (first
        | (have hz6 : w6.heap[w5.heap.size + 1]? = some (.cells #[.int .i64 0, .int .i64 0, .int .i64 0, .slice none 0 0, .slice none 0 0, .slice none 0 0] 26 (0, 0)) := (by (with_reducible refine heap_keep (heap_keep (heap_new _ _ _ ?_) (Below.drew (Below.refl _ _))) hb6); simp; done); have HZ6 := hide hz6; obtain ⟨m0, l0⟩ := heap_cell hz6 0; obtain ⟨m1, l1⟩ := heap_cell hz6 1; obtain ⟨m2, l2⟩ := heap_cell hz6 2; obtain ⟨m3, l3⟩ := heap_cell hz6 3; obtain ⟨m4, l4⟩ := heap_cell hz6 4; obtain ⟨m5, l5⟩ := heap_cell hz6 5; have hlt6 := lt_of_get hz6; have HO7 := hide (CfgO.mono ho6 (show w5.heap.size + 2 ≤ _ by simp)); clear hz6)
        | (have hz6 : w6.heap[w5.heap.size]? = some (.cells #[.int .i64 0, .int .i64 0, .int .i64 0, .slice none 0 0, .slice none 0 0, .slice none 0 0] 26 (0, 0)) := (by (with_reducible refine heap_keep (heap_keep (heap_new _ _ _ rfl) (Below.drew (below_alloc (Below.refl _ _) _))) hb6)); have HZ6 := hide hz6; obtain ⟨m0, l0⟩ := heap_cell hz6 0; obtain ⟨m1, l1⟩ := heap_cell hz6 1; obtain ⟨m2, l2⟩ := heap_cell hz6 2; obtain ⟨m3, l3⟩ := heap_cell hz6 3; obtain ⟨m4, l4⟩ := heap_cell hz6 4; obtain ⟨m5, l5⟩ := heap_cell hz6 5; have hlt6 := lt_of_get hz6; have HO7 := hide (CfgO.mono ho6 (show w5.heap.size + 2 ≤ _ by simp)); clear hz6)
        | skip); clear ho6 hb6))
    all_goals
      --R11<
      go_wp2
      go_meet
      case rel =>
        first
        | (refine ⟨w5.heap.size + 1, F1, l1', F2, l2', F3, l3', rfl, rfl, ?_, ?_, ?_⟩; (focus (exact heap_sets6 (unhide HZ6) _ _ _ _ _ _)); (focus (refine CfgO.adr (base := w5.heap.size + 2) (A1 := F1) (A2 := F2) (A3 := F3) (n1 := c.ports.length) (n2 := c.vlans.length) (n3 := c.stats.length) (c1 := l1') (c2 := l2') (c3 := l3') ⟨?_, ?_, ?_⟩; (focus (exact own_sets6 (unhide HO7).1 _ (by omega) _ _ _ _ _ _)); (focus (exact own_sets6 (unhide HO7).2.1 _ (by omega) _ _ _ _ _ _)); (focus (exact own_sets6 (unhide HO7).2.2 _ (by omega) _ _ _ _ _ _)))); (focus (exact below_set (below_set (below_set (below_set (below_set (below_set (unhide HB6) _ _ _ (by omega)) _ _ _ (by omega)) _ _ _ (by omega)) _ _ _ (by omega)) _ _ _ (by omega)) _ _ _ (by omega))))
        | (refine ⟨w5.heap.size, F1, l1', F2, l2', F3, l3', rfl, rfl, ?_, ?_, ?_⟩; (focus (exact heap_sets6 (unhide HZ6) _ _ _ _ _ _)); (focus (refine CfgO.adr (base := w5.heap.size + 2) (A1 := F1) (A2 := F2) (A3 := F3) (n1 := c.ports.length) (n2 := c.vlans.length) (n3 := c.stats.length) (c1 := l1') (c2 := l2') (c3 := l3') ⟨?_, ?_, ?_⟩; (focus (exact own_sets6 (unhide HO7).1 _ (by omega) _ _ _ _ _ _)); (focus (exact own_sets6 (unhide HO7).2.1 _ (by omega) _ _ _ _ _ _)); (focus (exact own_sets6 (unhide HO7).2.2 _ (by omega) _ _ _ _ _ _)))); (focus (exact below_set (below_set (below_set (below_set (below_set (below_set (unhide HB6) _ _ _ (by omega)) _ _ _ (by omega)) _ _ _ (by omega)) _ _ _ (by omega)) _ _ _ (by omega)) _ _ _ (by omega))))
        | exact ⟨_, F1, l1', F2, l2', F3, l3', rfl, rfl, heap_new _ _ _ rfl, ((unhide HO6).adr).below (below_alloc (Below.refl _ _) _), below_alloc (unhide HB6) _⟩
        | (trace_state; sorry)
      --R11>
    --R10>
  obtain ⟨g10, F1, f1, F2, f2, F3, f3, rfl, rfl, hr6, ho6, hb6⟩ := hcut
  have HB6 := hide (below_then (unhide HB5) hb6)
  have HO6 := hide ho6
  have HR6 := hide hr6
  have HK6 := hide (heap_keep (unhide HK5) hb6)
  clear hb6 hr6 ho6
  generalize wc = w6 at *
  obtain ⟨p0, -⟩ := heap_cell (unhide HR6) 0
  obtain ⟨p1, -⟩ := heap_cell (unhide HR6) 1
  obtain ⟨p2, -⟩ := heap_cell (unhide HR6) 2
  obtain ⟨p3, -⟩ := heap_cell (unhide HR6) 3
  obtain ⟨p4, -⟩ := heap_cell (unhide HR6) 4
  obtain ⟨p5, -⟩ := heap_cell (unhide HR6) 5
  obtain ⟨m0, -⟩ := heap_cell (unhide HK6) 0
  obtain ⟨m1, -⟩ := heap_cell (unhide HK6) 1
  obtain ⟨m2, -⟩ := heap_cell (unhide HK6) 2
  obtain ⟨m3, -⟩ := heap_cell (unhide HK6) 3
  obtain ⟨m4, -⟩ := heap_cell (unhide HK6) 4
  obtain ⟨m5, -⟩ := heap_cell (unhide HK6) 5
  go_wp2_with (first
    | (go_at_call 8; (with_reducible refine (unhide SM _ _ _ _ _ _ _ (unhide HO6) (unhide HB6)).mono ?_); rintro e w7 ⟨rfl, hb7⟩; have HB7 := hide (below_then (unhide HB6) hb7); clear hb7)
    | (go_at_call 6; (with_reducible refine (wakes_any _).mono ?_); rintro e w8 ⟨rfl, hb8⟩; have HB8 := hide (below_then (unhide HB7) hb8); clear hb8))
  go_ret
  exact ⟨rfl, unhide HB8⟩
end Go.Proofs.Ytbbadncdkiganab
