/- Where an element stands in a list that rises: slices.BinarySearchFunc. -/
import Derived.Test.YtbbadncdkiganaaKcopy
namespace Go.Proofs.Ytbbadncdkiganaa
open Go.RowKit
set_option linter.unusedVariables false
set_option maxRecDepth 4000

def Trans {α : Type} (lt : α → α → Bool) : Prop := ∀ a b c, lt a b = true → lt b c = true → lt a c = true
theorem transV : Trans ltV := fun a b c h1 h2 => by
  simp [ltV] at *
  omega
theorem transS : Trans ltS := fun a b c h1 h2 => by
  simp [ltS] at *
  omega
theorem ris_tail {α : Type} {lt : α → α → Bool} {a : α} {l : List α} (h : risB lt (a :: l) = true) : risB lt l = true := by
  cases l with
  | nil => rfl
  | cons b t => simp only [risB, Bool.and_eq_true] at h; exact h.2
theorem ris_head {α : Type} {lt : α → α → Bool} (ht : Trans lt) : ∀ {l : List α} {a : α}, risB lt (a :: l) = true → ∀ (j : Nat) (y : α), l[j]? = some y → lt a y = true
  | [], a, _, j, y, hy => by simp at hy
  | b :: t, a, h, 0, y, hy => by
    simp at hy
    subst hy
    simp only [risB, Bool.and_eq_true] at h
    exact h.1
  | b :: t, a, h, j + 1, y, hy => by
    have h2 := h
    simp only [risB, Bool.and_eq_true] at h
    exact ht a b y h.1 (ris_head ht h.2 j y (by simpa using hy))
theorem ris_get {α : Type} {lt : α → α → Bool} (ht : Trans lt) : ∀ {l : List α}, risB lt l = true → ∀ (i j : Nat) (x y : α), i < j → l[i]? = some x → l[j]? = some y → lt x y = true
  | [], _, i, j, x, y, _, hx, _ => by simp at hx
  | a :: t, h, 0, j + 1, x, y, _, hx, hy => by
    simp at hx
    subst hx
    exact ris_head ht h j y (by simpa using hy)
  | a :: t, h, i + 1, j + 1, x, y, hij, hx, hy => ris_get ht (ris_tail h) i j x y (by omega) (by simpa using hx) (by simpa using hy)
theorem at_eq {α : Type} {lt : α → α → Bool} {x : α} : ∀ {l : List α} {k : Nat}, k ≤ l.length → (∀ t y, t < k → l[t]? = some y → lt y x = true) → (∀ y, l[k]? = some y → lt y x = false) → atL lt x l = k
  | [], k, hk, _, _ => by simp at hk; simp [atL, hk]
  | a :: t, 0, _, _, h2 => by
    have := h2 a rfl
    simp [atL, this]
  | a :: t, k + 1, hk, h1, h2 => by
    have ha := h1 0 a (by omega) rfl
    have := at_eq (lt := lt) (x := x) (l := t) (k := k) (by simpa using hk) (fun s y hs hy => h1 (s + 1) y (by omega) (by simpa using hy)) (fun y hy => h2 y (by simpa using hy))
    unfold atL at this ⊢
    rw [List.takeWhile_cons, if_pos ha, List.length_cons, this]
theorem has_at {α : Type} {lt eq : α → α → Bool} {x y : α} {l : List α} {k : Nat} (h : atL lt x l = k) (hy : l[k]? = some y) : hasL lt eq x l = eq y x := by
  unfold hasL
  rw [h, hy]
theorem has_end {α : Type} {lt eq : α → α → Bool} {x : α} {l : List α} (h : atL lt x l = l.length) : hasL lt eq x l = false := by
  unfold hasL
  rw [h, List.getElem?_eq_none (Nat.le_refl _)]
theorem at_le {α : Type} (lt : α → α → Bool) (x : α) (l : List α) : atL lt x l ≤ l.length := by
  unfold atL
  exact (List.takeWhile_sublist _).length_le

theorem ret_pair {x y : Value} {a b : Value} (h : x = a) (k : y = b) : Ending.returned (.tuple #[x, y]) = .returned (.tuple #[a, b]) := by rw [h, k]
theorem val_int {k : IntKind} {a b : Int} (h : a = b) : Value.int k a = .int k b := by rw [h]
theorem val_bool {a b : Bool} (h : a = b) : Value.bool a = .bool b := by rw [h]
set_option maxHeartbeats 4000000 in
theorem searchV_any (A : Option Addr) (vs : List VlanC) (cap : Nat) (t : VlanC) (w : World) (hA : RowA w A (fl encV vs)) (hl : vs.length ≤ 100) (hr : risB ltV vs = true) :
    Calls Try.prog 65 #[.slice A vs.length cap, .agg #[.int .i64 t.1, .int .u8 t.2.1, .int .u8 t.2.2], .func (.func 44) #[] #[]] w fun e w' => e = .returned (.tuple #[.int .i64 (atL ltV t vs : Nat), .bool (hasL ltV eqV t vs)]) ∧ Below w.heap.size w w' := by
  have HR := hide (fun i j x y hij hx hy => ris_get transV hr i j x y hij hx hy)
  have HT := hide transV
  clear hr
  obtain ⟨n, hn⟩ : ∃ n, vs.length = n := ⟨_, rfl⟩
  have HN := hide hn
  rw [hn] at hl ⊢
  clear hn
  obtain ⟨at_, hat⟩ : ∃ k, atL ltV t vs = k := ⟨_, rfl⟩
  have HAT := hide hat
  rw [hat]
  clear hat
  obtain ⟨has, hhas⟩ : ∃ b, hasL ltV eqV t vs = b := ⟨_, rfl⟩
  have HHAS := hide hhas
  rw [hhas]
  clear hhas
  have HB : Hid (Below w.heap.size w (w.alloc (.cells #[.int .i64 t.1, .int .u8 t.2.1, .int .u8 t.2.2] 46))) := below_alloc (Below.refl _ _) _
  have HT3 : Hid (∀ W, Below (w.alloc (.cells #[.int .i64 t.1, .int .u8 t.2.1, .int .u8 t.2.2] 46)).heap.size (w.alloc (.cells #[.int .i64 t.1, .int .u8 t.2.1, .int .u8 t.2.2] 46)) W → W.cell? ⟨w.heap.size, 0, none⟩ = some (.int .i64 t.1) ∧ W.cell? ⟨w.heap.size, 1, none⟩ = some (.int .u8 t.2.1) ∧ W.cell? ⟨w.heap.size, 2, none⟩ = some (.int .u8 t.2.2)) := hide (fun W hW => ⟨keep_cell (cell_lit rfl rfl) hW, keep_cell (cell_lit rfl rfl) hW, keep_cell (cell_lit rfl rfl) hW⟩)
  go_enter Try.func65, Try.ntmps65
  go_wp2
  generalize w.alloc (.cells #[.int .i64 t.1, .int .u8 t.2.1, .int .u8 t.2.2] 46) = w1 at *
  obtain ⟨tb, htb⟩ : ∃ tb, w.heap.size = tb := ⟨_, rfl⟩
  have HTB := hide htb
  rw [htb] at HT3 ⊢
  clear htb
  go_loopg [9, 10] n (fun gg s9 s10 wr => ∃ lo hi : Nat, s9 = .int .i64 lo ∧ s10 = .int .i64 hi ∧ lo ≤ hi ∧ hi ≤ n ∧ hi - lo ≤ gg ∧ Aside (Below w1.heap.size w1 wr) ∧ Aside ((∀ j x, j < lo → vs[j]? = some x → ltV x t = true) ∧ (∀ j x, hi ≤ j → vs[j]? = some x → ltV x t = false)))
  case atStart => exact ⟨0, n, rfl, rfl, Nat.zero_le _, Nat.le_refl _, by omega, Below.refl _ _, (⟨fun j x hj => absurd hj (Nat.not_lt_zero _), fun j x hj hx => by have := lt_get hx; have := unhide HN; omega⟩ : (∀ j x, j < 0 → vs[j]? = some x → ltV x t = true) ∧ (∀ j x, n ≤ j → vs[j]? = some x → ltV x t = false))⟩
  case round =>
    obtain ⟨lo, hi, rfl, rfl, hlh, hin, hg, BW, M⟩ := hrel
    by_cases hlt : lo < hi
    · obtain ⟨m, hm⟩ : ∃ m, (lo + hi) / 2 = m := ⟨_, rfl⟩
      have hlt2 : (lo : Int) < (hi : Int) := by omega
      have hm0 : ((lo : Int) + (hi : Int)) / 2 = (m : Int) := by omega
      have hmn : (m : Int) < (n : Int) := by omega
      have hmh : m < hi := by omega
      have hlm : lo ≤ m := by omega
      obtain ⟨b, off, rfl, hc⟩ := rowV_at hA (by have := unhide HN; omega)
      obtain ⟨v, hv⟩ : ∃ v, vs[m]? = some v := ⟨_, List.getElem?_eq_getElem (by have := unhide HN; omega)⟩
      have hbw := BW.out
      have HK := hide (fun (W : World) (h : Below w1.heap.size w1 W) => (⟨h, (hc W (below_then (unhide HB) h) _ v hv).1, (hc W (below_then (unhide HB) h) _ v hv).2.1, (hc W (below_then (unhide HB) h) _ v hv).2.2, (unhide HT3 W h).1, (unhide HT3 W h).2.1, (unhide HT3 W h).2.2⟩ :
        Below w1.heap.size w1 W ∧ W.cell? ⟨b, off + m * 3, none⟩ = some (.int .i64 v.1) ∧ W.cell? ⟨b, off + m * 3 + 1, none⟩ = some (.int .u8 v.2.1) ∧ W.cell? ⟨b, off + m * 3 + 2, none⟩ = some (.int .u8 v.2.2) ∧
        W.cell? ⟨tb, 0, none⟩ = some (.int .i64 t.1) ∧ W.cell? ⟨tb, 1, none⟩ = some (.int .u8 t.2.1) ∧ W.cell? ⟨tb, 2, none⟩ = some (.int .u8 t.2.2)))
      have HV := hide hv
      have HM := hide hm
      clear hc hv hA hm
      cases hq : ltV v t with
      | true =>
        have hcall := hide (byId_lt hq)
        have HQ := hide hq
        clear hq
        go_wp2
        go_region_held3 (fun W => Below w1.heap.size w1 W ∧ W.cell? ⟨b, off + m * 3, none⟩ = some (.int .i64 v.1) ∧ W.cell? ⟨b, off + m * 3 + 1, none⟩ = some (.int .u8 v.2.1) ∧ W.cell? ⟨b, off + m * 3 + 2, none⟩ = some (.int .u8 v.2.2) ∧ W.cell? ⟨tb, 0, none⟩ = some (.int .i64 t.1) ∧ W.cell? ⟨tb, 1, none⟩ = some (.int .u8 t.2.1) ∧ W.cell? ⟨tb, 2, none⟩ = some (.int .u8 t.2.2)) ((go_split_ands; refine unhide HK _ ?_; (repeat (first | (with_reducible assumption) | exact Below.refl _ _ | (with_reducible refine Below.drew ?_) | (with_reducible refine below_drewN ?_ _) | (with_reducible refine below_alloc ?_ _))))) (first | (go_at_call 44; refine (unhide hcall _).mono ?_; rintro e w' ⟨rfl, hb'⟩; have hbw' : Below w1.heap.size w1 w' := below_then (by (repeat (first | (with_reducible assumption) | exact Below.refl _ _ | (with_reducible refine Below.drew ?_) | (with_reducible refine below_drewN ?_ _) | (with_reducible refine below_alloc ?_ _)))) hb'))
        all_goals
          go_wp2
          go_roundg (hi - (m + 1))
          case measure => omega
          case rel =>
            refine ⟨m + 1, hi, by go_num, rfl, by omega, hin, Nat.le_refl _, hbw', (show Aside _ from ?_)⟩
            refine ⟨fun j x hj hx => ?_, M.out.2⟩
            rcases Nat.lt_or_ge j m with h | h
            · exact unhide HT x v t (unhide HR j m x v h hx (unhide HV)) (unhide HQ)
            · obtain rfl : j = m := by omega
              rw [unhide HV] at hx
              cases hx
              exact unhide HQ
      | false =>
        obtain ⟨o, ho, hcall⟩ : ∃ o : Int, 0 ≤ o ∧ Hid (∀ W, Calls Try.prog 44 #[.agg #[.int .i64 v.1, .int .u8 v.2.1, .int .u8 v.2.2], .agg #[.int .i64 t.1, .int .u8 t.2.1, .int .u8 t.2.2]] W fun e w' => e = .returned (.int .i64 o) ∧ Below W.heap.size W w') := ⟨_, ord_ge hq, byId_any v t⟩
        have HQ := hide hq
        clear hq
        go_wp2
        go_region_held3 (fun W => Below w1.heap.size w1 W ∧ W.cell? ⟨b, off + m * 3, none⟩ = some (.int .i64 v.1) ∧ W.cell? ⟨b, off + m * 3 + 1, none⟩ = some (.int .u8 v.2.1) ∧ W.cell? ⟨b, off + m * 3 + 2, none⟩ = some (.int .u8 v.2.2) ∧ W.cell? ⟨tb, 0, none⟩ = some (.int .i64 t.1) ∧ W.cell? ⟨tb, 1, none⟩ = some (.int .u8 t.2.1) ∧ W.cell? ⟨tb, 2, none⟩ = some (.int .u8 t.2.2)) ((go_split_ands; refine unhide HK _ ?_; (repeat (first | (with_reducible assumption) | exact Below.refl _ _ | (with_reducible refine Below.drew ?_) | (with_reducible refine below_drewN ?_ _) | (with_reducible refine below_alloc ?_ _))))) (first | (go_at_call 44; refine (unhide hcall _).mono ?_; rintro e w' ⟨rfl, hb'⟩; have hbw' : Below w1.heap.size w1 w' := below_then (by (repeat (first | (with_reducible assumption) | exact Below.refl _ _ | (with_reducible refine Below.drew ?_) | (with_reducible refine below_drewN ?_ _) | (with_reducible refine below_alloc ?_ _)))) hb'))
        all_goals
          go_wp2
          go_roundg (m - lo)
          case measure => omega
          case rel =>
            refine ⟨lo, m, rfl, rfl, by omega, by omega, Nat.le_refl _, hbw', (show Aside _ from ?_)⟩
            refine ⟨M.out.1, fun j x hj hx => ?_⟩
            cases h : ltV x t with
            | false => rfl
            | true =>
              rcases Nat.lt_or_ge m j with h2 | h2
              · have := unhide HT v x t (unhide HR m j v x h2 (unhide HV) hx) h
                rw [unhide HQ] at this
                cases this
              · obtain rfl : j = m := by omega
                rw [unhide HV] at hx
                cases hx
                rw [unhide HQ] at h
                cases h
    · obtain rfl : hi = lo := by omega
      have hlt2 : ¬ (hi : Int) < (hi : Int) := by omega
      have HKK : Hid (at_ = hi) := hide (by rw [← unhide HAT]; exact at_eq (by have := unhide HN; omega) M.out.1 (fun y hy => M.out.2 hi y (Nat.le_refl _) hy))
      by_cases hnn : hi < n
      · obtain ⟨m, hm⟩ : ∃ m, hi = m := ⟨_, rfl⟩
        subst hm
        have hmn : (hi : Int) < (n : Int) := by omega
        obtain ⟨b, off, rfl, hc⟩ := rowV_at hA (by have := unhide HN; omega)
        obtain ⟨v, hv⟩ : ∃ v, vs[hi]? = some v := ⟨_, List.getElem?_eq_getElem (by have := unhide HN; omega)⟩
        have hbw := BW.out
        have HK := hide (fun (W : World) (h : Below w1.heap.size w1 W) => (⟨h, (hc W (below_then (unhide HB) h) _ v hv).1, (hc W (below_then (unhide HB) h) _ v hv).2.1, (hc W (below_then (unhide HB) h) _ v hv).2.2, (unhide HT3 W h).1, (unhide HT3 W h).2.1, (unhide HT3 W h).2.2⟩ :
          Below w1.heap.size w1 W ∧ W.cell? ⟨b, off + hi * 3, none⟩ = some (.int .i64 v.1) ∧ W.cell? ⟨b, off + hi * 3 + 1, none⟩ = some (.int .u8 v.2.1) ∧ W.cell? ⟨b, off + hi * 3 + 2, none⟩ = some (.int .u8 v.2.2) ∧
          W.cell? ⟨tb, 0, none⟩ = some (.int .i64 t.1) ∧ W.cell? ⟨tb, 1, none⟩ = some (.int .u8 t.2.1) ∧ W.cell? ⟨tb, 2, none⟩ = some (.int .u8 t.2.2)))
        have hge := M.out.2 hi v (Nat.le_refl _) hv
        have HH : Hid (has = eqV v t) := hide (by rw [← unhide HHAS]; exact has_at (by rw [unhide HAT, unhide HKK]) hv)
        clear hc hv hA
        cases hq : eqV v t with
        | true =>
          have hcall := hide (byId_any v t)
          rw [show ordV v t = 0 from by unfold ordV ordB; rw [hge, hq]; rfl] at hcall
          have HQ := hide hq
          clear hq hge
          go_wp2
          go_region_held3 (fun W => Below w1.heap.size w1 W ∧ W.cell? ⟨b, off + hi * 3, none⟩ = some (.int .i64 v.1) ∧ W.cell? ⟨b, off + hi * 3 + 1, none⟩ = some (.int .u8 v.2.1) ∧ W.cell? ⟨b, off + hi * 3 + 2, none⟩ = some (.int .u8 v.2.2) ∧ W.cell? ⟨tb, 0, none⟩ = some (.int .i64 t.1) ∧ W.cell? ⟨tb, 1, none⟩ = some (.int .u8 t.2.1) ∧ W.cell? ⟨tb, 2, none⟩ = some (.int .u8 t.2.2)) ((go_split_ands; refine unhide HK _ ?_; (repeat (first | (with_reducible assumption) | exact Below.refl _ _ | (with_reducible refine Below.drew ?_) | (with_reducible refine below_drewN ?_ _) | (with_reducible refine below_alloc ?_ _))))) (first | (go_at_call 44; refine (unhide hcall _).mono ?_; rintro e w' ⟨rfl, hb'⟩; have hbw' : Below w1.heap.size w1 w' := below_then (by (repeat (first | (with_reducible assumption) | exact Below.refl _ _ | (with_reducible refine Below.drew ?_) | (with_reducible refine below_drewN ?_ _) | (with_reducible refine below_alloc ?_ _)))) hb'))
          all_goals
            go_wp2
            go_ret2
            exact ⟨ret_pair (val_int (congrArg (Nat.cast (R := Int)) (unhide HKK)).symm) (val_bool ((unhide HH).trans (unhide HQ)).symm), below_then (unhide HB) hbw'⟩
        | false =>
          have hcall := hide (byId_any v t)
          rw [show ordV v t = 1 from by unfold ordV ordB; rw [hge, hq]; rfl] at hcall
          have HQ := hide hq
          clear hq hge
          go_wp2
          go_region_held3 (fun W => Below w1.heap.size w1 W ∧ W.cell? ⟨b, off + hi * 3, none⟩ = some (.int .i64 v.1) ∧ W.cell? ⟨b, off + hi * 3 + 1, none⟩ = some (.int .u8 v.2.1) ∧ W.cell? ⟨b, off + hi * 3 + 2, none⟩ = some (.int .u8 v.2.2) ∧ W.cell? ⟨tb, 0, none⟩ = some (.int .i64 t.1) ∧ W.cell? ⟨tb, 1, none⟩ = some (.int .u8 t.2.1) ∧ W.cell? ⟨tb, 2, none⟩ = some (.int .u8 t.2.2)) ((go_split_ands; refine unhide HK _ ?_; (repeat (first | (with_reducible assumption) | exact Below.refl _ _ | (with_reducible refine Below.drew ?_) | (with_reducible refine below_drewN ?_ _) | (with_reducible refine below_alloc ?_ _))))) (first | (go_at_call 44; refine (unhide hcall _).mono ?_; rintro e w' ⟨rfl, hb'⟩; have hbw' : Below w1.heap.size w1 w' := below_then (by (repeat (first | (with_reducible assumption) | exact Below.refl _ _ | (with_reducible refine Below.drew ?_) | (with_reducible refine below_drewN ?_ _) | (with_reducible refine below_alloc ?_ _)))) hb'))
          all_goals
            go_wp2
            go_ret2
            exact ⟨ret_pair (val_int (congrArg (Nat.cast (R := Int)) (unhide HKK)).symm) (val_bool ((unhide HH).trans (unhide HQ)).symm), below_then (unhide HB) hbw'⟩
      · have hnn2 : ¬ (hi : Int) < (n : Int) := by omega
        have HH : Hid (has = false) := hide (by rw [← unhide HHAS]; exact has_end (by rw [unhide HAT, unhide HKK]; have := unhide HN; omega))
        have hdd : decide ((hi : Int) < (n : Int)) = false := by simpa using hnn2
        go_wp2
        go_quiet (fail)
        go_wp2
        go_ret2
        exact ⟨ret_pair (val_int (congrArg (Nat.cast (R := Int)) (unhide HKK)).symm) (val_bool (unhide HH).symm), below_drewN (below_then (unhide HB) BW.out) _⟩
end Go.Proofs.Ytbbadncdkiganaa
