/- Contracts of put and lay: sectors that are written, and made to last. -/
import Derived.Test.YtfceileohkngnaaJents
import Derived.Deep.RegionWith
namespace Go.Proofs.Ytfceileohkngnaa
open Go.RowKit
set_option linter.unusedVariables false
set_option maxRecDepth 4000

theorem nil_write (a : Addr) (w : World) : (nilAhead 253 46 (.pointer (some a)) "Write").run Try.prog w = .ok (some false) w := by kernel_rfl
theorem method_write (a : Addr) (w : World) : (method 253 46 (.pointer (some a)) "Write").run Try.prog w = .ok (35, .pointer (some a)) w := by kernel_rfl
theorem method_flush (a : Addr) (w : World) : (method 253 46 (.pointer (some a)) "Flush").run Try.prog w = .ok (36, .pointer (some a)) w := by kernel_rfl

/-- The writes of the first k of some sectors, from a place on. -/
def wrP (at_ : Nat) (T : List Sct) (k : Nat) : List (Nat × Sct) := (List.range k).map fun i => (at_ + i, T.getD i zeroS)
theorem wrP_succ (at_ : Nat) (T : List Sct) (k : Nat) : wrP at_ T (k + 1) = wrP at_ T k ++ [(at_ + k, T.getD k zeroS)] := by
  unfold wrP; rw [List.range_succ, List.map_append]; rfl
theorem wrP_len (at_ : Nat) (T : List Sct) (k : Nat) : (wrP at_ T k).length = k := by unfold wrP; simp

attribute [local go_sem ↓] ldS_of
set_option maxHeartbeats 1000000 in
theorem put_any {base g gs : Nat} {S : List Sct} (w : World) (h : Dsk 102 120 w base g gs S []) (at_ : Nat) (T : List Sct) (b off c : Nat) (hT : ScsA w (some ⟨b, off, none⟩) T) (hsafe : Safe 120 w base g gs b) (hl : at_ + T.length ≤ S.length) :
    Calls Try.prog 71 #[.iface 46 (.pointer (some ⟨g, 0, none⟩)), .int .i64 at_, .slice (some ⟨b, off, none⟩) T.length c] w fun e w' => e = .returned (.int .i64 0) ∧ Dsk 102 120 w' base g gs (flushS S (wrP at_ T T.length)) [] ∧ Turned 120 base g gs w w' := by
  have hS : S.length ≤ 4096 := by obtain ⟨_, _, _, _, _, _, _, h'⟩ := h; exact h'
  have nw := nil_write
  have mw := method_write
  have mf := method_flush
  have HD := hide h
  clear h
  go_enter Try.func71, Try.ntmps71
  go_wp2
  go_loopw [11] (fun i wr => ∃ k : Nat, k ≤ T.length ∧ i = .int .i64 k ∧ Dsk 102 120 wr base g gs S (wrP at_ T k) ∧ Turned 120 base g gs w wr) (fun i _ => T.length - (intOf i).toNat)
  case atStart => exact ⟨0, Nat.zero_le _, rfl, unhide HD, Turned.refl _ _ _ _ _⟩
  case round =>
    obtain ⟨k, hk, rfl, hd, ht⟩ := hrel
    have HDK := hide hd
    have HTK := hide ht
    clear hd ht
    by_cases hlt : k < T.length
    · have hsk : T[k]? = some (T.getD k zeroS) := by rw [List.getD_eq_getElem?_getD, List.getElem?_eq_getElem hlt]; rfl
      obtain ⟨b', off', e', hr⟩ := hT.range (k := k) hlt
      cases e'
      have hrk := range_of_block (hr k _ hsk) ((unhide HTK).block b hsafe.1 hsafe.2.1 hsafe.2.2.1 hsafe.2.2.2)
      have HWS := hide (wrP_succ at_ T k)
      have HWL := hide (wrP_len at_ T k)
      generalize T.getD k zeroS = sk at *
      have hld := ldS_is b (off + k * 64) sk wr.drew hrk
      have HWR : Hid (∀ W : World, Below wr.heap.size wr W → Calls Try.prog 35 #[.pointer (some ⟨g, 0, none⟩), .int .i64 ((at_ : Int) + (k : Int)), .agg (bytes sk).toArray] W fun e w' => e = .returned (.int .i64 0) ∧ Dsk 102 120 w' base g gs S (wrP at_ T k ++ [(at_ + k, sk)]) ∧ Turned 120 base g gs W w') := fun W hW => by
        have := write_yes W ((unhide HDK).below hW) (at_ + k) (by omega) sk (by rw [unhide HWL]; omega)
        rw [show ((at_ + k : Nat) : Int) = (at_ : Int) + (k : Int) by omega] at this
        exact this
      have hlt' : (k : Int) < (T.length : Int) := by omega
      have hwrap : IntKind.i64.wrap ((at_ : Int) + (k : Int)) = (at_ : Int) + (k : Int) := by rw [IntKind.wrap_i64]; omega
      clear hr hrk hsk
      go_wp2
      go_region_with (go_at_call 35; (with_reducible refine (unhide HWR _ ?_).mono ?_); (focus (repeat (first | assumption | exact Below.refl _ _ | (with_reducible refine Below.drew ?_) | (with_reducible refine below_alloc ?_ _)))); rintro e w2 ⟨rfl, hd2, ht2⟩)
      all_goals
        go_wp2
        go_roundw
        case rel => exact ⟨k + 1, by omega, by go_num, by rw [unhide HWS]; exact hd2, (unhide HTK).trans ((Turned.of_below (Below.drew (Below.refl _ _))).trans ht2)⟩
        case measure => simp [intOf]; omega
    · obtain rfl : k = T.length := by omega
      have HWL := hide (wrP_len at_ T T.length)
      have HFL := hide (flush_any wr (unhide HDK) (by rw [unhide HWL]; omega))
      go_wp2_with (go_at_call 36; (with_reducible refine (unhide HFL).mono ?_); rintro e w2 ⟨rfl, hd2, ht2⟩)
      go_ret
      exact ⟨rfl, hd2, (unhide HTK).trans ht2⟩

/-- What lay writes: all but the first one, then the first one. -/
def layS (S : List Sct) (at_ : Nat) (T : List Sct) : List Sct := flushS (flushS S (wrP (at_ + 1) (T.drop 1) (T.drop 1).length)) (wrP at_ (T.take 1) (T.take 1).length)

theorem scs_take {w : World} {A : Option Addr} {T : List Sct} (h : ScsA w A T) (k : Nat) : ScsA w A (T.take k) := scsA_take h k

set_option maxHeartbeats 1000000 in
theorem lay_any {base g gs : Nat} {S : List Sct} (w : World) (h : Dsk 102 120 w base g gs S []) (at_ : Nat) (T : List Sct) (b c : Nat) (h0 : 0 < T.length) (hT : ScsA w (some ⟨b, 0, none⟩) T) (hc : T.length ≤ c) (hsafe : Safe 120 w base g gs b) (hl : at_ + T.length ≤ S.length) :
    Calls Try.prog 50 #[.iface 46 (.pointer (some ⟨g, 0, none⟩)), .int .i64 at_, .slice (some ⟨b, 0, none⟩) T.length c] w fun e w' => e = .returned (.int .i64 0) ∧ Dsk 102 120 w' base g gs (layS S at_ T) [] ∧ Turned 120 base g gs w w' := by
  have hS : S.length ≤ 4096 := by obtain ⟨_, _, _, _, _, _, _, h'⟩ := h; exact h'
  have h1' : (1 : Int) ≤ (T.length : Int) := by omega
  have hc' : (T.length : Int) ≤ (c : Int) := by omega
  have hc1 : (1 : Int) ≤ (c : Int) := by omega
  have hdl : (T.drop 1).length = T.length - 1 := by rw [List.length_drop]
  have htl : (T.take 1).length = 1 := by rw [List.length_take]; omega
  have HP1 : Hid (∀ (off c' : Nat), ScsA w (some ⟨b, off, none⟩) (T.drop 1) → Calls Try.prog 71 #[.iface 46 (.pointer (some ⟨g, 0, none⟩)), .int .i64 ((at_ : Int) + 1), .slice (some ⟨b, off, none⟩) (T.length - 1) c'] w fun e w' => e = .returned (.int .i64 0) ∧ Dsk 102 120 w' base g gs (flushS S (wrP (at_ + 1) (T.drop 1) (T.drop 1).length)) [] ∧ Turned 120 base g gs w w') := fun off c' hR => by
    have := put_any w h (at_ + 1) (T.drop 1) b off c' hR hsafe (by omega)
    rw [show ((at_ + 1 : Nat) : Int) = (at_ : Int) + 1 by omega] at this
    rw [hdl] at this ⊢
    exact this
  have HP2 : Hid (∀ (W : World) (c' : Nat), Dsk 102 120 W base g gs (flushS S (wrP (at_ + 1) (T.drop 1) (T.drop 1).length)) [] → Turned 120 base g gs w W → Calls Try.prog 71 #[.iface 46 (.pointer (some ⟨g, 0, none⟩)), .int .i64 (at_ : Int), .slice (some ⟨b, 0, none⟩) 1 c'] W fun e w' => e = .returned (.int .i64 0) ∧ Dsk 102 120 w' base g gs (layS S at_ T) [] ∧ Turned 120 base g gs W w') := fun W c' hW ht => by
    have hb := ht.block b hsafe.1 hsafe.2.1 hsafe.2.2.1 hsafe.2.2.2
    have := put_any W hW at_ (T.take 1) b 0 c' (rowA_block (scs_take hT 1) (fun b' off e => by cases e; exact hb)) ⟨Nat.lt_of_lt_of_le hsafe.1 ht.size, hsafe.2.1, hsafe.2.2.1, by rw [hb]; exact hsafe.2.2.2⟩ (by rw [flushS_len]; omega)
    unfold layS
    rw [htl] at this ⊢
    exact this
  have HSD : Hid (ScsA w (some ⟨b, 64, none⟩) (T.drop 1)) := scs_drop hT 1
  have HD0 : Hid (T.length = 1 → ∀ A, ScsA w A (T.drop 1)) := fun e A => by
    have : T.drop 1 = [] := List.drop_eq_nil_of_le (by omega)
    rw [this]; exact rowA_nil _ _
  generalize layS S at_ T = L at *
  generalize flushS S (wrP (at_ + 1) (T.drop 1) (T.drop 1).length) = L1 at *
  clear hT hdl htl h hsafe
  by_cases hcc : c = 1
  · subst hcc
    have e1 : T.length = 1 := by omega
    have HSZ := hide (unhide HD0 e1)
    clear HD0 HSD
    rw [e1] at HP1 ⊢
    clear hc hc' h1' h0 e1 hc1
    go_enter Try.func50, Try.ntmps50
    go_wp2_with (go_at_call 71; first
      | ((with_reducible refine (unhide HP1 _ _ (unhide HSZ _)).mono ?_); rintro e w2 ⟨rfl, hd2, ht2⟩; have HD2 := hide hd2; have HT2 := hide ht2; clear hd2 ht2)
      | ((with_reducible refine (unhide HP2 _ _ (unhide HD2) (unhide HT2)).mono ?_); rintro e w3 ⟨rfl, hd3, ht3⟩))
    go_ret
    exact ⟨rfl, hd3, (unhide HT2).trans ht3⟩
  · clear HD0
    go_enter Try.func50, Try.ntmps50
    go_wp2_with (go_at_call 71; first
      | ((with_reducible refine (unhide HP1 _ _ (unhide HSD)).mono ?_); rintro e w2 ⟨rfl, hd2, ht2⟩; have HD2 := hide hd2; have HT2 := hide ht2; clear hd2 ht2)
      | ((with_reducible refine (unhide HP2 _ _ (unhide HD2) (unhide HT2)).mono ?_); rintro e w3 ⟨rfl, hd3, ht3⟩))
    go_ret
    exact ⟨rfl, hd3, (unhide HT2).trans ht3⟩
end Go.Proofs.Ytfceileohkngnaa
