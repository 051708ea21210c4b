/- snap: hasPlaces, sectors. -/
import Derived.Test.YtnadknmammjfiaaJput
namespace Go.Proofs.Ytnadknmammjfiaa
open Go.RowKit
set_option linter.unusedVariables false
set_option maxRecDepth 4000

theorem method_len (a : Addr) (w : World) : (method 252 25 (.pointer (some a)) "Len").run Try.prog w = .ok (40, .pointer (some a)) w := by kernel_rfl
theorem method_len0 (w : World) : (method 252 25 (.pointer none) "Len").run Try.prog w = .ok (40, .pointer none) w := by kernel_rfl
theorem method_read (a : Addr) (w : World) : (method 252 25 (.pointer (some a)) "Read").run Try.prog w = .ok (22, .pointer (some a)) w := by kernel_rfl

theorem hp_yes {base g gs : Nat} {S : List Sct} {P : List (Nat × Sct)} (w : World) (h : Dsk 71 82 w base g gs S P) (hS : 32 ≤ S.length) :
    Calls Try.prog 26 #[.iface 25 (.pointer (some ⟨g, 0, none⟩))] w fun e w' => e = .returned (.bool true) ∧ w' = w := by
  have ml := method_len
  have HL := hide (len_any w h)
  have h1 : (32 : Int) ≤ (S.length : Int) := by omega
  clear h
  go_enter Try.func26, Try.ntmps26
  go_wp2_with (go_at_call 40; (with_reducible refine (unhide HL).mono ?_); rintro e w2 ⟨rfl, rfl⟩)
  go_ret
  exact ⟨rfl, rfl⟩
theorem hp_no {base g gs : Nat} {S : List Sct} {P : List (Nat × Sct)} (w : World) (h : Dsk 71 82 w base g gs S P) (hS : S.length < 32) :
    Calls Try.prog 26 #[.iface 25 (.pointer (some ⟨g, 0, none⟩))] w fun e w' => e = .returned (.bool false) ∧ w' = w := by
  have ml := method_len
  have HL := hide (len_any w h)
  have h1 : ¬ (32 : Int) ≤ (S.length : Int) := by omega
  clear h
  go_enter Try.func26, Try.ntmps26
  go_wp2_with (go_at_call 40; (with_reducible refine (unhide HL).mono ?_); rintro e w2 ⟨rfl, rfl⟩)
  go_ret
  refine ⟨?_, rfl⟩
  show Ending.returned (.bool (decide ((32 : Int) ≤ (S.length : Int)))) = _
  rw [decide_eq_false (by omega)]
theorem hp_nil (w : World) : Calls Try.prog 26 #[.iface 25 (.pointer none)] w fun e w' => e = .returned (.bool false) ∧ w' = w := by
  have ml := method_len0
  have HL := hide (len_nil w)
  go_enter Try.func26, Try.ntmps26
  go_wp2_with (go_at_call 40; (with_reducible refine (unhide HL).mono ?_); rintro e w2 ⟨rfl, rfl⟩)
  go_ret
  exact ⟨rfl, rfl⟩

set_option maxHeartbeats 1000000 in
theorem sectors_any {base g gs : Nat} {S : List Sct} (w : World) (h : Dsk 71 82 w base g gs S []) (fr : Nat) (D : List Sct) (hD : D = (S.drop fr).take 16) (hn : fr + 16 ≤ S.length) :
    Calls Try.prog 46 #[.iface 25 (.pointer (some ⟨g, 0, none⟩)), .int .i64 fr] w fun e w' => ∃ q, e = .returned (.slice (some ⟨q, 0, none⟩) 16 16) ∧ ScsA w' (some ⟨q, 0, none⟩) D ∧ Below w.heap.size w w' := by
  obtain ⟨i36, hi36, hz0, hz1, hz2⟩ := info_parts Try.info44
  obtain ⟨i', hi', hz36⟩ := Try.zero44
  obtain rfl : i' = i36 := by rw [hi36] at hi'; exact (Option.some.inj hi').symm
  clear hi' hz0
  have mr := method_read
  have hS : S.length ≤ 4096 := by obtain ⟨_, _, _, _, _, _, _, h'⟩ := h; exact h'
  have hDl : D.length = 16 := by rw [hD, List.length_take, List.length_drop]; omega
  have HDG : Hid (∀ k, k < 16 → D.getD k zeroS = S.getD (fr + k) zeroS) := fun k hk => by
    rw [hD, List.getD_eq_getElem?_getD, List.getElem?_take, if_pos hk, List.getElem?_drop, ← List.getD_eq_getElem?_getD]
  clear hD
  have HDL := hide hDl
  clear hDl
  have HD := hide h
  clear h
  go_enter Try.func46, Try.ntmps46
  go_wp2_with (first
    | (at_make; refine wpList_make_full _ rfl _ _ 49 rfl w.heap.size 44 i' (sv zeroS) 64 Try.underlying49 hi36 hz36 hz1 _ _ _ _ 16 rfl rfl rfl rfl (by rw [hz2]; omega) (maxLen_ge _ (by omega)) ?_ ?_; (focus (exact Nat.le_refl _)); intro w1 hown hgrow))
  have hb1 : Below w.heap.size w w1 := (Below.refl _ _).grown hgrow (Nat.le_refl _) (fun k e => by cases e)
  have hs1 := secs_made hown
  have hf0 : List.replicate 16 zeroS = fillS D 0 := by rw [fillS_zero, unhide HDL]
  rw [hf0] at hs1
  clear hgrow hown hf0
  go_loopw [10] (fun i wr => ∃ k : Nat, k ≤ 16 ∧ i = .int .i64 k ∧ Below w.heap.size w wr ∧ SecsAt wr 44 w.heap.size (fillS D k)) (fun i _ => 16 - (intOf i).toNat)
  case atStart => exact ⟨0, by omega, rfl, hb1, hs1⟩
  case round =>
    obtain ⟨k, hk, rfl, hbel, hsec⟩ := hrel
    have hkl := fillS_len D k (by rw [unhide HDL]; exact hk)
    rw [unhide HDL] at hkl
    clear hb1 hs1
    by_cases hlt : k < 16
    · have HR : Hid (Calls Try.prog 22 #[.pointer (some ⟨g, 0, none⟩), .int .i64 ((fr : Int) + (k : Int))] wr fun e w' => e = .returned (.tuple #[sv (D.getD k zeroS), .int .i64 0]) ∧ Below wr.heap.size wr w') := by
        have := read_yes wr ((unhide HD).below hbel) (fr + k) (by omega) (by simp)
        rw [readS_nil, ← unhide HDG k hlt] at this
        rw [show ((fr + k : Nat) : Int) = (fr : Int) + (k : Int) by omega] at this
        exact this
      have HSE := hide hsec
      have HST := hide (fillS_set D k (by rw [unhide HDL]; exact hlt))
      have hlt' : (k : Int) < 16 := by omega
      have HKL := hide hkl
      generalize D.getD k zeroS = d at *
      clear hsec hkl
      go_wp2_with (first
        | (go_at_call 22; (with_reducible refine (unhide HR).mono ?_); rintro e w2 ⟨rfl, hb2⟩; have HS2 := hide ((unhide HSE).below hb2); have HB2 := hide (below_then hbel hb2); clear hb2)
        | ((with_reducible refine wpList_storeS Try.size44 _ _ w.heap.size (k * 64) d ?_ ?_ ((unhide HS2).there (by rw [unhide HKL]; omega)) ?_); (focus rfl); (focus rfl); intro w3 H3))
      have hs3 := (unhide HS2).set (i := k) (by rw [unhide HKL]; omega) d
      rw [unhide HST, ← unhide H3] at hs3
      have hb3 := below_sets (unhide HB2) w.heap.size (k * 64) (bytes d) (Nat.le_refl _)
      rw [← unhide H3] at hb3
      clear H3
      go_roundw
      case rel => exact ⟨k + 1, by omega, by go_num, hb3, hs3⟩
      case measure => simp [intOf]; omega
    · obtain rfl : k = 16 := by omega
      have hfa : fillS D 16 = D := by have := fillS_all D; rw [unhide HDL] at this; exact this
      rw [hfa] at hsec
      go_wp2
      go_ret
      exact ⟨_, rfl, secs_scs hsec, hbel⟩
end Go.Proofs.Ytnadknmammjfiaa
