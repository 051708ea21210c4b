/- Where a static stands in a list that rises. -/
import Derived.Test.YtbbadncdkiganaaKbs
namespace Go.Proofs.Ytbbadncdkiganaa
open Go.RowKit
set_option linter.unusedVariables false
set_option maxRecDepth 4000

set_option maxHeartbeats 4000000 in
theorem searchS_any (A : Option Addr) (vs : List StatC) (cap : Nat) (t : StatC) (w : World) (hA : RowA w A (fl encS vs)) (hl : vs.length ≤ 100) (hr : risB ltS vs = true) :
    Calls Try.prog 68 #[.slice A vs.length cap, .agg #[.int .u64 t.1, .int .i64 t.2.1, .int .i64 t.2.2], .func (.func 50) #[] #[]] w fun e w' => e = .returned (.tuple #[.int .i64 (atL ltS t vs : Nat), .bool (hasL ltS eqS t vs)]) ∧ Below w.heap.size w w' := by
  have HR := hide (fun i j x y hij hx hy => ris_get transS hr i j x y hij hx hy)
  have HT := hide transS
  clear hr
  obtain ⟨n, hn⟩ : ∃ n, vs.length = n := ⟨_, rfl⟩
  have HN := hide hn
  rw [hn] at hl ⊢
  clear hn
  obtain ⟨at_, hat⟩ : ∃ k, atL ltS t vs = k := ⟨_, rfl⟩
  have HAT := hide hat
  rw [hat]
  clear hat
  obtain ⟨has, hhas⟩ : ∃ b, hasL ltS eqS t vs = b := ⟨_, rfl⟩
  have HHAS := hide hhas
  rw [hhas]
  clear hhas
  have HB : Hid (Below w.heap.size w (w.alloc (.cells #[.int .u64 t.1, .int .i64 t.2.1, .int .i64 t.2.2] 52))) := below_alloc (Below.refl _ _) _
  have HT3 : Hid (∀ W, Below (w.alloc (.cells #[.int .u64 t.1, .int .i64 t.2.1, .int .i64 t.2.2] 52)).heap.size (w.alloc (.cells #[.int .u64 t.1, .int .i64 t.2.1, .int .i64 t.2.2] 52)) W → W.cell? ⟨w.heap.size, 0, none⟩ = some (.int .u64 t.1) ∧ W.cell? ⟨w.heap.size, 1, none⟩ = some (.int .i64 t.2.1) ∧ W.cell? ⟨w.heap.size, 2, none⟩ = some (.int .i64 t.2.2)) := hide (fun W hW => ⟨keep_cell (cell_lit rfl rfl) hW, keep_cell (cell_lit rfl rfl) hW, keep_cell (cell_lit rfl rfl) hW⟩)
  go_enter Try.func68, Try.ntmps68
  go_wp2
  generalize w.alloc (.cells #[.int .u64 t.1, .int .i64 t.2.1, .int .i64 t.2.2] 52) = w1 at *
  obtain ⟨tb, htb⟩ : ∃ tb, w.heap.size = tb := ⟨_, rfl⟩
  have HTB := hide htb
  rw [htb] at HT3 ⊢
  clear htb
  go_loopg [9, 10] n (fun gg s9 s10 wr => ∃ lo hi : Nat, s9 = .int .i64 lo ∧ s10 = .int .i64 hi ∧ lo ≤ hi ∧ hi ≤ n ∧ hi - lo ≤ gg ∧ Aside (Below w1.heap.size w1 wr) ∧ Aside ((∀ j x, j < lo → vs[j]? = some x → ltS x t = true) ∧ (∀ j x, hi ≤ j → vs[j]? = some x → ltS x t = false)))
  case atStart => exact ⟨0, n, rfl, rfl, Nat.zero_le _, Nat.le_refl _, by omega, Below.refl _ _, (⟨fun j x hj => absurd hj (Nat.not_lt_zero _), fun j x hj hx => by have := lt_get hx; have := unhide HN; omega⟩ : (∀ j x, j < 0 → vs[j]? = some x → ltS x t = true) ∧ (∀ j x, n ≤ j → vs[j]? = some x → ltS x t = false))⟩
  case round =>
    obtain ⟨lo, hi, rfl, rfl, hlh, hin, hg, BW, M⟩ := hrel
    by_cases hlt : lo < hi
    · obtain ⟨m, hm⟩ : ∃ m, (lo + hi) / 2 = m := ⟨_, rfl⟩
      have hlt2 : (lo : Int) < (hi : Int) := by omega
      have hm0 : ((lo : Int) + (hi : Int)) / 2 = (m : Int) := by omega
      have hmn : (m : Int) < (n : Int) := by omega
      have hmh : m < hi := by omega
      have hlm : lo ≤ m := by omega
      obtain ⟨b, off, rfl, hc⟩ := rowS_at hA (by have := unhide HN; omega)
      obtain ⟨v, hv⟩ : ∃ v, vs[m]? = some v := ⟨_, List.getElem?_eq_getElem (by have := unhide HN; omega)⟩
      have hbw := BW.out
      have HK := hide (fun (W : World) (h : Below w1.heap.size w1 W) => (⟨h, (hc W (below_then (unhide HB) h) _ v hv).1, (hc W (below_then (unhide HB) h) _ v hv).2.1, (hc W (below_then (unhide HB) h) _ v hv).2.2, (unhide HT3 W h).1, (unhide HT3 W h).2.1, (unhide HT3 W h).2.2⟩ :
        Below w1.heap.size w1 W ∧ W.cell? ⟨b, off + m * 3, none⟩ = some (.int .u64 v.1) ∧ W.cell? ⟨b, off + m * 3 + 1, none⟩ = some (.int .i64 v.2.1) ∧ W.cell? ⟨b, off + m * 3 + 2, none⟩ = some (.int .i64 v.2.2) ∧
        W.cell? ⟨tb, 0, none⟩ = some (.int .u64 t.1) ∧ W.cell? ⟨tb, 1, none⟩ = some (.int .i64 t.2.1) ∧ W.cell? ⟨tb, 2, none⟩ = some (.int .i64 t.2.2)))
      have HV := hide hv
      have HM := hide hm
      clear hc hv hA hm
      cases hq : ltS v t with
      | true =>
        have hcall := hide (byVM_lt hq)
        have HQ := hide hq
        clear hq
        go_wp2
        go_region_held3 (fun W => Below w1.heap.size w1 W ∧ W.cell? ⟨b, off + m * 3, none⟩ = some (.int .u64 v.1) ∧ W.cell? ⟨b, off + m * 3 + 1, none⟩ = some (.int .i64 v.2.1) ∧ W.cell? ⟨b, off + m * 3 + 2, none⟩ = some (.int .i64 v.2.2) ∧ W.cell? ⟨tb, 0, none⟩ = some (.int .u64 t.1) ∧ W.cell? ⟨tb, 1, none⟩ = some (.int .i64 t.2.1) ∧ W.cell? ⟨tb, 2, none⟩ = some (.int .i64 t.2.2)) ((go_split_ands; refine unhide HK _ ?_; (repeat (first | (with_reducible assumption) | exact Below.refl _ _ | (with_reducible refine Below.drew ?_) | (with_reducible refine below_drewN ?_ _) | (with_reducible refine below_alloc ?_ _))))) (first | (go_at_call 50; refine (unhide hcall _).mono ?_; rintro e w' ⟨rfl, hb'⟩; have hbw' : Below w1.heap.size w1 w' := below_then (by (repeat (first | (with_reducible assumption) | exact Below.refl _ _ | (with_reducible refine Below.drew ?_) | (with_reducible refine below_drewN ?_ _) | (with_reducible refine below_alloc ?_ _)))) hb'))
        all_goals
          go_wp2
          go_roundg (hi - (m + 1))
          case measure => omega
          case rel =>
            refine ⟨m + 1, hi, by go_num, rfl, by omega, hin, Nat.le_refl _, hbw', (show Aside _ from ?_)⟩
            refine ⟨fun j x hj hx => ?_, M.out.2⟩
            rcases Nat.lt_or_ge j m with h | h
            · exact unhide HT x v t (unhide HR j m x v h hx (unhide HV)) (unhide HQ)
            · obtain rfl : j = m := by omega
              rw [unhide HV] at hx
              cases hx
              exact unhide HQ
      | false =>
        obtain ⟨o, ho, hcall⟩ : ∃ o : Int, 0 ≤ o ∧ Hid (∀ W, Calls Try.prog 50 #[.agg #[.int .u64 v.1, .int .i64 v.2.1, .int .i64 v.2.2], .agg #[.int .u64 t.1, .int .i64 t.2.1, .int .i64 t.2.2]] W fun e w' => e = .returned (.int .i64 o) ∧ Below W.heap.size W w') := ⟨_, ord_ge hq, byVM_any v t⟩
        have HQ := hide hq
        clear hq
        go_wp2
        go_region_held3 (fun W => Below w1.heap.size w1 W ∧ W.cell? ⟨b, off + m * 3, none⟩ = some (.int .u64 v.1) ∧ W.cell? ⟨b, off + m * 3 + 1, none⟩ = some (.int .i64 v.2.1) ∧ W.cell? ⟨b, off + m * 3 + 2, none⟩ = some (.int .i64 v.2.2) ∧ W.cell? ⟨tb, 0, none⟩ = some (.int .u64 t.1) ∧ W.cell? ⟨tb, 1, none⟩ = some (.int .i64 t.2.1) ∧ W.cell? ⟨tb, 2, none⟩ = some (.int .i64 t.2.2)) ((go_split_ands; refine unhide HK _ ?_; (repeat (first | (with_reducible assumption) | exact Below.refl _ _ | (with_reducible refine Below.drew ?_) | (with_reducible refine below_drewN ?_ _) | (with_reducible refine below_alloc ?_ _))))) (first | (go_at_call 50; refine (unhide hcall _).mono ?_; rintro e w' ⟨rfl, hb'⟩; have hbw' : Below w1.heap.size w1 w' := below_then (by (repeat (first | (with_reducible assumption) | exact Below.refl _ _ | (with_reducible refine Below.drew ?_) | (with_reducible refine below_drewN ?_ _) | (with_reducible refine below_alloc ?_ _)))) hb'))
        all_goals
          go_wp2
          go_roundg (m - lo)
          case measure => omega
          case rel =>
            refine ⟨lo, m, rfl, rfl, by omega, by omega, Nat.le_refl _, hbw', (show Aside _ from ?_)⟩
            refine ⟨M.out.1, fun j x hj hx => ?_⟩
            cases h : ltS x t with
            | false => rfl
            | true =>
              rcases Nat.lt_or_ge m j with h2 | h2
              · have := unhide HT v x t (unhide HR m j v x h2 (unhide HV) hx) h
                rw [unhide HQ] at this
                cases this
              · obtain rfl : j = m := by omega
                rw [unhide HV] at hx
                cases hx
                rw [unhide HQ] at h
                cases h
    · obtain rfl : hi = lo := by omega
      have hlt2 : ¬ (hi : Int) < (hi : Int) := by omega
      have HKK : Hid (at_ = hi) := hide (by rw [← unhide HAT]; exact at_eq (by have := unhide HN; omega) M.out.1 (fun y hy => M.out.2 hi y (Nat.le_refl _) hy))
      by_cases hnn : hi < n
      · obtain ⟨m, hm⟩ : ∃ m, hi = m := ⟨_, rfl⟩
        subst hm
        have hmn : (hi : Int) < (n : Int) := by omega
        obtain ⟨b, off, rfl, hc⟩ := rowS_at hA (by have := unhide HN; omega)
        obtain ⟨v, hv⟩ : ∃ v, vs[hi]? = some v := ⟨_, List.getElem?_eq_getElem (by have := unhide HN; omega)⟩
        have hbw := BW.out
        have HK := hide (fun (W : World) (h : Below w1.heap.size w1 W) => (⟨h, (hc W (below_then (unhide HB) h) _ v hv).1, (hc W (below_then (unhide HB) h) _ v hv).2.1, (hc W (below_then (unhide HB) h) _ v hv).2.2, (unhide HT3 W h).1, (unhide HT3 W h).2.1, (unhide HT3 W h).2.2⟩ :
          Below w1.heap.size w1 W ∧ W.cell? ⟨b, off + hi * 3, none⟩ = some (.int .u64 v.1) ∧ W.cell? ⟨b, off + hi * 3 + 1, none⟩ = some (.int .i64 v.2.1) ∧ W.cell? ⟨b, off + hi * 3 + 2, none⟩ = some (.int .i64 v.2.2) ∧
          W.cell? ⟨tb, 0, none⟩ = some (.int .u64 t.1) ∧ W.cell? ⟨tb, 1, none⟩ = some (.int .i64 t.2.1) ∧ W.cell? ⟨tb, 2, none⟩ = some (.int .i64 t.2.2)))
        have hge := M.out.2 hi v (Nat.le_refl _) hv
        have HH : Hid (has = eqS v t) := hide (by rw [← unhide HHAS]; exact has_at (by rw [unhide HAT, unhide HKK]) hv)
        clear hc hv hA
        cases hq : eqS v t with
        | true =>
          have hcall := hide (byVM_any v t)
          rw [show ordS v t = 0 from by unfold ordS ordB; rw [hge, hq]; rfl] at hcall
          have HQ := hide hq
          clear hq hge
          go_wp2
          go_region_held3 (fun W => Below w1.heap.size w1 W ∧ W.cell? ⟨b, off + hi * 3, none⟩ = some (.int .u64 v.1) ∧ W.cell? ⟨b, off + hi * 3 + 1, none⟩ = some (.int .i64 v.2.1) ∧ W.cell? ⟨b, off + hi * 3 + 2, none⟩ = some (.int .i64 v.2.2) ∧ W.cell? ⟨tb, 0, none⟩ = some (.int .u64 t.1) ∧ W.cell? ⟨tb, 1, none⟩ = some (.int .i64 t.2.1) ∧ W.cell? ⟨tb, 2, none⟩ = some (.int .i64 t.2.2)) ((go_split_ands; refine unhide HK _ ?_; (repeat (first | (with_reducible assumption) | exact Below.refl _ _ | (with_reducible refine Below.drew ?_) | (with_reducible refine below_drewN ?_ _) | (with_reducible refine below_alloc ?_ _))))) (first | (go_at_call 50; refine (unhide hcall _).mono ?_; rintro e w' ⟨rfl, hb'⟩; have hbw' : Below w1.heap.size w1 w' := below_then (by (repeat (first | (with_reducible assumption) | exact Below.refl _ _ | (with_reducible refine Below.drew ?_) | (with_reducible refine below_drewN ?_ _) | (with_reducible refine below_alloc ?_ _)))) hb'))
          all_goals
            go_wp2
            go_ret2
            exact ⟨ret_pair (val_int (congrArg (Nat.cast (R := Int)) (unhide HKK)).symm) (val_bool ((unhide HH).trans (unhide HQ)).symm), below_then (unhide HB) hbw'⟩
        | false =>
          have hcall := hide (byVM_any v t)
          rw [show ordS v t = 1 from by unfold ordS ordB; rw [hge, hq]; rfl] at hcall
          have HQ := hide hq
          clear hq hge
          go_wp2
          go_region_held3 (fun W => Below w1.heap.size w1 W ∧ W.cell? ⟨b, off + hi * 3, none⟩ = some (.int .u64 v.1) ∧ W.cell? ⟨b, off + hi * 3 + 1, none⟩ = some (.int .i64 v.2.1) ∧ W.cell? ⟨b, off + hi * 3 + 2, none⟩ = some (.int .i64 v.2.2) ∧ W.cell? ⟨tb, 0, none⟩ = some (.int .u64 t.1) ∧ W.cell? ⟨tb, 1, none⟩ = some (.int .i64 t.2.1) ∧ W.cell? ⟨tb, 2, none⟩ = some (.int .i64 t.2.2)) ((go_split_ands; refine unhide HK _ ?_; (repeat (first | (with_reducible assumption) | exact Below.refl _ _ | (with_reducible refine Below.drew ?_) | (with_reducible refine below_drewN ?_ _) | (with_reducible refine below_alloc ?_ _))))) (first | (go_at_call 50; refine (unhide hcall _).mono ?_; rintro e w' ⟨rfl, hb'⟩; have hbw' : Below w1.heap.size w1 w' := below_then (by (repeat (first | (with_reducible assumption) | exact Below.refl _ _ | (with_reducible refine Below.drew ?_) | (with_reducible refine below_drewN ?_ _) | (with_reducible refine below_alloc ?_ _)))) hb'))
          all_goals
            go_wp2
            go_ret2
            exact ⟨ret_pair (val_int (congrArg (Nat.cast (R := Int)) (unhide HKK)).symm) (val_bool ((unhide HH).trans (unhide HQ)).symm), below_then (unhide HB) hbw'⟩
      · have hnn2 : ¬ (hi : Int) < (n : Int) := by omega
        have HH : Hid (has = false) := hide (by rw [← unhide HHAS]; exact has_end (by rw [unhide HAT, unhide HKK]; have := unhide HN; omega))
        have hdd : decide ((hi : Int) < (n : Int)) = false := by simpa using hnn2
        go_wp2
        go_quiet (fail)
        go_wp2
        go_ret2
        exact ⟨ret_pair (val_int (congrArg (Nat.cast (R := Int)) (unhide HKK)).symm) (val_bool (unhide HH).symm), below_drewN (below_then (unhide HB) BW.out) _⟩
end Go.Proofs.Ytbbadncdkiganaa
