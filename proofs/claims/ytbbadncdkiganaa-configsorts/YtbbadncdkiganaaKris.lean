/- Whether a list rises. -/
import Derived.Test.YtbbadncdkiganaaKfind
namespace Go.Proofs.Ytbbadncdkiganaa
open Go.RowKit
set_option linter.unusedVariables false
set_option maxRecDepth 4000

theorem ris_prefix {α : Type} (lt : α → α → Bool) : ∀ (l : List α) (k : Nat), risB lt l = true → risB lt (l.take k) = true
  | [], k, _ => by simp [risB]
  | [x], 0, _ => rfl
  | [x], k + 1, _ => by simp [risB]
  | x :: y :: t, 0, _ => rfl
  | x :: y :: t, 1, _ => rfl
  | x :: y :: t, k + 2, h => by
    simp only [risB, Bool.and_eq_true] at h
    have := ris_prefix lt (y :: t) (k + 1) h.2
    simp only [List.take_succ_cons, risB, Bool.and_eq_true] at this ⊢
    exact ⟨h.1, this⟩
theorem ris_next {α : Type} (lt : α → α → Bool) (l : List α) (k : Nat) (a b : α) (h1 : 1 ≤ k) (ha : l[k - 1]? = some a) (hb : l[k]? = some b) : risB lt (l.take (k + 1)) = (risB lt (l.take k) && lt a b) := by
  have := ris_take_succ lt l (k - 1) a b ha (by rw [show k - 1 + 1 = k from by omega]; exact hb)
  rw [show k - 1 + 2 = k + 1 from by omega, show k - 1 + 1 = k from by omega] at this
  exact this
theorem ord_neg {lt eq : Bool} : (0 ≤ ordB lt eq) ↔ lt = false := by
  unfold ordB
  cases lt <;> cases eq <;> simp
theorem ord_lt {lt eq : Bool} (h : lt = true) : ordB lt eq = -1 := by simp [ordB, h]
theorem ord_ge {lt eq : Bool} (h : lt = false) : 0 ≤ ordB lt eq := ord_neg.2 h

theorem byId_lt {u v : VlanC} (h : ltV u v = true) (W : World) : Calls Try.prog 44 #[.agg #[.int .i64 u.1, .int .u8 u.2.1, .int .u8 u.2.2], .agg #[.int .i64 v.1, .int .u8 v.2.1, .int .u8 v.2.2]] W fun e w' => e = .returned (.int .i64 (-1)) ∧ Below W.heap.size W w' := by
  have := byId_any u v W
  rw [show ordV u v = -1 from ord_lt h] at this
  exact this
set_option maxHeartbeats 2000000 in
theorem risingV_any (A : Option Addr) (vs : List VlanC) (cap : Nat) (w : World) (hA : RowA w A (fl encV vs)) (hl : vs.length ≤ 100) :
    Calls Try.prog 43 #[.slice A vs.length cap, .func (.func 44) #[] #[]] w fun e w' => e = .returned (.bool (risB ltV vs)) ∧ Below w.heap.size w w' := by
  obtain ⟨n, hn⟩ : ∃ n, vs.length = n := ⟨_, rfl⟩
  have HN := hide hn
  rw [hn] at hl ⊢
  clear hn
  obtain ⟨r, hr⟩ : ∃ r, risB ltV vs = r := ⟨_, rfl⟩
  have HR := hide hr
  rw [hr]
  clear hr
  go_enter Try.func43, Try.ntmps43
  go_wp2
  go_loopg [5] n (fun gg s5 wr => ∃ kk : Nat, 1 ≤ kk ∧ (kk ≤ n ∨ kk = 1) ∧ n - kk ≤ gg ∧ s5 = .int .i64 kk ∧ Aside (Below w.heap.size w wr) ∧ Aside (risB ltV (vs.take kk) = true))
  case atStart => exact ⟨1, by omega, by omega, by omega, rfl, Below.refl _ w, (by cases vs <;> rfl : risB ltV (vs.take 1) = true)⟩
  case round =>
    obtain ⟨kk, hk1, hk2, hg, rfl, BW, M⟩ := hrel
    by_cases hlt : kk < n
    · have hltz : (kk : Int) < (n : Int) := by omega
      have hk0 : (1 : Int) ≤ (kk : Int) := by omega
      obtain ⟨m, hm⟩ : ∃ m : Nat, kk - 1 = m := ⟨_, rfl⟩
      have hw1 : (kk : Int) - 1 = (m : Int) := by omega
      have hw2 : IntKind.i64.wrap (m : Int) = (m : Int) := by rw [IntKind.wrap_i64]; omega
      have hmn : (m : Int) < (n : Int) := by omega
      obtain ⟨b, off, rfl, hc⟩ := rowV_at hA (by have := unhide HN; omega)
      obtain ⟨u, hu⟩ : ∃ v, vs[m]? = some v := ⟨_, List.getElem?_eq_getElem (by have := unhide HN; omega)⟩
      obtain ⟨v, hv⟩ : ∃ v, vs[kk]? = some v := ⟨_, List.getElem?_eq_getElem (by have := unhide HN; omega)⟩
      have HS := hide (ris_next ltV vs kk u v hk1 (by rw [hm]; exact hu) hv)
      have HK := hide (fun (W : World) (h : Below w.heap.size w W) => (⟨h, (hc W h _ u hu).1, (hc W h _ u hu).2.1, (hc W h _ u hu).2.2, (hc W h _ v hv).1, (hc W h _ v hv).2.1, (hc W h _ v hv).2.2⟩ :
        Below w.heap.size w W ∧ W.cell? ⟨b, off + m * 3, none⟩ = some (.int .i64 u.1) ∧ W.cell? ⟨b, off + m * 3 + 1, none⟩ = some (.int .u8 u.2.1) ∧ W.cell? ⟨b, off + m * 3 + 2, none⟩ = some (.int .u8 u.2.2) ∧
        W.cell? ⟨b, off + kk * 3, none⟩ = some (.int .i64 v.1) ∧ W.cell? ⟨b, off + kk * 3 + 1, none⟩ = some (.int .u8 v.2.1) ∧ W.cell? ⟨b, off + kk * 3 + 2, none⟩ = some (.int .u8 v.2.2)))
      have hbw := BW.out
      clear hc hu hv hA hm
      cases hq : ltV u v with
      | true =>
        have hcall := hide (byId_lt hq)
        have HQ := hide hq
        clear hq
        go_wp2
        go_region_held3 (fun W => Below w.heap.size w W ∧ W.cell? ⟨b, off + m * 3, none⟩ = some (.int .i64 u.1) ∧ W.cell? ⟨b, off + m * 3 + 1, none⟩ = some (.int .u8 u.2.1) ∧ W.cell? ⟨b, off + m * 3 + 2, none⟩ = some (.int .u8 u.2.2) ∧
        W.cell? ⟨b, off + kk * 3, none⟩ = some (.int .i64 v.1) ∧ W.cell? ⟨b, off + kk * 3 + 1, none⟩ = some (.int .u8 v.2.1) ∧ W.cell? ⟨b, off + kk * 3 + 2, none⟩ = some (.int .u8 v.2.2)) ((go_split_ands; refine unhide HK _ ?_; (repeat (first | (with_reducible assumption) | exact Below.refl _ _ | (with_reducible refine Below.drew ?_) | (with_reducible refine below_drewN ?_ _) | (with_reducible refine below_alloc ?_ _))))) (first | (go_at_call 44; refine (unhide hcall _).mono ?_; rintro e w' ⟨rfl, hb'⟩; have hbw' : Below w.heap.size w w' := below_then (by (repeat (first | (with_reducible assumption) | exact Below.refl _ _ | (with_reducible refine Below.drew ?_) | (with_reducible refine below_drewN ?_ _) | (with_reducible refine below_alloc ?_ _)))) hb'))
        all_goals
          go_wp2
          go_roundg (n - (kk + 1))
          case measure => omega
          case rel =>
            refine ⟨kk + 1, by omega, by omega, by omega, by go_num, hbw', (show Aside _ from ?_)⟩
            show risB ltV (vs.take (kk + 1)) = true
            rw [unhide HS, M.out, unhide HQ]
            rfl
      | false =>
        obtain ⟨o, ho, hcall⟩ : ∃ o : Int, 0 ≤ o ∧ Hid (∀ W, Calls Try.prog 44 #[.agg #[.int .i64 u.1, .int .u8 u.2.1, .int .u8 u.2.2], .agg #[.int .i64 v.1, .int .u8 v.2.1, .int .u8 v.2.2]] W fun e w' => e = .returned (.int .i64 o) ∧ Below W.heap.size W w') := ⟨_, ord_ge hq, byId_any u v⟩
        have HQ := hide hq
        clear hq
        go_wp2
        go_region_held3 (fun W => Below w.heap.size w W ∧ W.cell? ⟨b, off + m * 3, none⟩ = some (.int .i64 u.1) ∧ W.cell? ⟨b, off + m * 3 + 1, none⟩ = some (.int .u8 u.2.1) ∧ W.cell? ⟨b, off + m * 3 + 2, none⟩ = some (.int .u8 u.2.2) ∧
        W.cell? ⟨b, off + kk * 3, none⟩ = some (.int .i64 v.1) ∧ W.cell? ⟨b, off + kk * 3 + 1, none⟩ = some (.int .u8 v.2.1) ∧ W.cell? ⟨b, off + kk * 3 + 2, none⟩ = some (.int .u8 v.2.2)) ((go_split_ands; refine unhide HK _ ?_; (repeat (first | (with_reducible assumption) | exact Below.refl _ _ | (with_reducible refine Below.drew ?_) | (with_reducible refine below_drewN ?_ _) | (with_reducible refine below_alloc ?_ _))))) (first | (go_at_call 44; refine (unhide hcall _).mono ?_; rintro e w' ⟨rfl, hb'⟩; have hbw' : Below w.heap.size w w' := below_then (by (repeat (first | (with_reducible assumption) | exact Below.refl _ _ | (with_reducible refine Below.drew ?_) | (with_reducible refine below_drewN ?_ _) | (with_reducible refine below_alloc ?_ _)))) hb'))
        all_goals
          go_wp2
          go_ret
          refine ⟨ret_bool ?_, hbw'⟩
          rw [← unhide HR]
          cases hz : risB ltV vs with
          | false => rfl
          | true =>
            have h1 := ris_prefix ltV vs (kk + 1) hz
            rw [unhide HS, unhide HQ, Bool.and_false] at h1
            cases h1
    · have hltz : ¬ (kk : Int) < (n : Int) := by omega
      go_wp2
      go_ret
      refine ⟨ret_bool ?_, BW.out⟩
      rw [← unhide HR]
      have := M.out
      rw [List.take_of_length_le (by have := unhide HN; omega)] at this
      exact this.symm
theorem byVM_lt {u v : StatC} (h : ltS u v = true) (W : World) : Calls Try.prog 50 #[.agg #[.int .u64 u.1, .int .i64 u.2.1, .int .i64 u.2.2], .agg #[.int .u64 v.1, .int .i64 v.2.1, .int .i64 v.2.2]] W fun e w' => e = .returned (.int .i64 (-1)) ∧ Below W.heap.size W w' := by
  have := byVM_any u v W
  rw [show ordS u v = -1 from ord_lt h] at this
  exact this
set_option maxHeartbeats 2000000 in
theorem risingS_any (A : Option Addr) (vs : List StatC) (cap : Nat) (w : World) (hA : RowA w A (fl encS vs)) (hl : vs.length ≤ 100) :
    Calls Try.prog 49 #[.slice A vs.length cap, .func (.func 50) #[] #[]] w fun e w' => e = .returned (.bool (risB ltS vs)) ∧ Below w.heap.size w w' := by
  obtain ⟨n, hn⟩ : ∃ n, vs.length = n := ⟨_, rfl⟩
  have HN := hide hn
  rw [hn] at hl ⊢
  clear hn
  obtain ⟨r, hr⟩ : ∃ r, risB ltS vs = r := ⟨_, rfl⟩
  have HR := hide hr
  rw [hr]
  clear hr
  go_enter Try.func49, Try.ntmps49
  go_wp2
  go_loopg [5] n (fun gg s5 wr => ∃ kk : Nat, 1 ≤ kk ∧ (kk ≤ n ∨ kk = 1) ∧ n - kk ≤ gg ∧ s5 = .int .i64 kk ∧ Aside (Below w.heap.size w wr) ∧ Aside (risB ltS (vs.take kk) = true))
  case atStart => exact ⟨1, by omega, by omega, by omega, rfl, Below.refl _ w, (by cases vs <;> rfl : risB ltS (vs.take 1) = true)⟩
  case round =>
    obtain ⟨kk, hk1, hk2, hg, rfl, BW, M⟩ := hrel
    by_cases hlt : kk < n
    · have hltz : (kk : Int) < (n : Int) := by omega
      have hk0 : (1 : Int) ≤ (kk : Int) := by omega
      obtain ⟨m, hm⟩ : ∃ m : Nat, kk - 1 = m := ⟨_, rfl⟩
      have hw1 : (kk : Int) - 1 = (m : Int) := by omega
      have hw2 : IntKind.i64.wrap (m : Int) = (m : Int) := by rw [IntKind.wrap_i64]; omega
      have hmn : (m : Int) < (n : Int) := by omega
      obtain ⟨b, off, rfl, hc⟩ := rowS_at hA (by have := unhide HN; omega)
      obtain ⟨u, hu⟩ : ∃ v, vs[m]? = some v := ⟨_, List.getElem?_eq_getElem (by have := unhide HN; omega)⟩
      obtain ⟨v, hv⟩ : ∃ v, vs[kk]? = some v := ⟨_, List.getElem?_eq_getElem (by have := unhide HN; omega)⟩
      have HS := hide (ris_next ltS vs kk u v hk1 (by rw [hm]; exact hu) hv)
      have HK := hide (fun (W : World) (h : Below w.heap.size w W) => (⟨h, (hc W h _ u hu).1, (hc W h _ u hu).2.1, (hc W h _ u hu).2.2, (hc W h _ v hv).1, (hc W h _ v hv).2.1, (hc W h _ v hv).2.2⟩ :
        Below w.heap.size w W ∧ W.cell? ⟨b, off + m * 3, none⟩ = some (.int .u64 u.1) ∧ W.cell? ⟨b, off + m * 3 + 1, none⟩ = some (.int .i64 u.2.1) ∧ W.cell? ⟨b, off + m * 3 + 2, none⟩ = some (.int .i64 u.2.2) ∧
        W.cell? ⟨b, off + kk * 3, none⟩ = some (.int .u64 v.1) ∧ W.cell? ⟨b, off + kk * 3 + 1, none⟩ = some (.int .i64 v.2.1) ∧ W.cell? ⟨b, off + kk * 3 + 2, none⟩ = some (.int .i64 v.2.2)))
      have hbw := BW.out
      clear hc hu hv hA hm
      cases hq : ltS u v with
      | true =>
        have hcall := hide (byVM_lt hq)
        have HQ := hide hq
        clear hq
        go_wp2
        go_region_held3 (fun W => Below w.heap.size w W ∧ W.cell? ⟨b, off + m * 3, none⟩ = some (.int .u64 u.1) ∧ W.cell? ⟨b, off + m * 3 + 1, none⟩ = some (.int .i64 u.2.1) ∧ W.cell? ⟨b, off + m * 3 + 2, none⟩ = some (.int .i64 u.2.2) ∧
        W.cell? ⟨b, off + kk * 3, none⟩ = some (.int .u64 v.1) ∧ W.cell? ⟨b, off + kk * 3 + 1, none⟩ = some (.int .i64 v.2.1) ∧ W.cell? ⟨b, off + kk * 3 + 2, none⟩ = some (.int .i64 v.2.2)) ((go_split_ands; refine unhide HK _ ?_; (repeat (first | (with_reducible assumption) | exact Below.refl _ _ | (with_reducible refine Below.drew ?_) | (with_reducible refine below_drewN ?_ _) | (with_reducible refine below_alloc ?_ _))))) (first | (go_at_call 50; refine (unhide hcall _).mono ?_; rintro e w' ⟨rfl, hb'⟩; have hbw' : Below w.heap.size w w' := below_then (by (repeat (first | (with_reducible assumption) | exact Below.refl _ _ | (with_reducible refine Below.drew ?_) | (with_reducible refine below_drewN ?_ _) | (with_reducible refine below_alloc ?_ _)))) hb'))
        all_goals
          go_wp2
          go_roundg (n - (kk + 1))
          case measure => omega
          case rel =>
            refine ⟨kk + 1, by omega, by omega, by omega, by go_num, hbw', (show Aside _ from ?_)⟩
            show risB ltS (vs.take (kk + 1)) = true
            rw [unhide HS, M.out, unhide HQ]
            rfl
      | false =>
        obtain ⟨o, ho, hcall⟩ : ∃ o : Int, 0 ≤ o ∧ Hid (∀ W, Calls Try.prog 50 #[.agg #[.int .u64 u.1, .int .i64 u.2.1, .int .i64 u.2.2], .agg #[.int .u64 v.1, .int .i64 v.2.1, .int .i64 v.2.2]] W fun e w' => e = .returned (.int .i64 o) ∧ Below W.heap.size W w') := ⟨_, ord_ge hq, byVM_any u v⟩
        have HQ := hide hq
        clear hq
        go_wp2
        go_region_held3 (fun W => Below w.heap.size w W ∧ W.cell? ⟨b, off + m * 3, none⟩ = some (.int .u64 u.1) ∧ W.cell? ⟨b, off + m * 3 + 1, none⟩ = some (.int .i64 u.2.1) ∧ W.cell? ⟨b, off + m * 3 + 2, none⟩ = some (.int .i64 u.2.2) ∧
        W.cell? ⟨b, off + kk * 3, none⟩ = some (.int .u64 v.1) ∧ W.cell? ⟨b, off + kk * 3 + 1, none⟩ = some (.int .i64 v.2.1) ∧ W.cell? ⟨b, off + kk * 3 + 2, none⟩ = some (.int .i64 v.2.2)) ((go_split_ands; refine unhide HK _ ?_; (repeat (first | (with_reducible assumption) | exact Below.refl _ _ | (with_reducible refine Below.drew ?_) | (with_reducible refine below_drewN ?_ _) | (with_reducible refine below_alloc ?_ _))))) (first | (go_at_call 50; refine (unhide hcall _).mono ?_; rintro e w' ⟨rfl, hb'⟩; have hbw' : Below w.heap.size w w' := below_then (by (repeat (first | (with_reducible assumption) | exact Below.refl _ _ | (with_reducible refine Below.drew ?_) | (with_reducible refine below_drewN ?_ _) | (with_reducible refine below_alloc ?_ _)))) hb'))
        all_goals
          go_wp2
          go_ret
          refine ⟨ret_bool ?_, hbw'⟩
          rw [← unhide HR]
          cases hz : risB ltS vs with
          | false => rfl
          | true =>
            have h1 := ris_prefix ltS vs (kk + 1) hz
            rw [unhide HS, unhide HQ, Bool.and_false] at h1
            cases h1
    · have hltz : ¬ (kk : Int) < (n : Int) := by omega
      go_wp2
      go_ret
      refine ⟨ret_bool ?_, BW.out⟩
      rw [← unhide HR]
      have := M.out
      rw [List.take_of_length_le (by have := unhide HN; omega)] at this
      exact this.symm
end Go.Proofs.Ytbbadncdkiganaa
