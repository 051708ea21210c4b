/- Contracts: need, and all parts put together, also where there are no bytes. -/
import Derived.Test.YtfceileohkngnaaJleaf
namespace Go.Proofs.Ytfceileohkngnaa
open Go.RowKit
set_option linter.unusedVariables false
set_option maxRecDepth 4000

theorem needI_zero {n : Int} (h : needI n = 0) : n < 0 ∨ 4000 < n := by
  unfold needI at h
  split at h
  · assumption
  · omega
theorem needI_big {n : Int} (h : 4000 < n) : needI n = 0 := by unfold needI; rw [if_pos (.inr h)]
theorem flk_mono (pss : List (List Int)) (i j : Nat) (h : i ≤ j) : (flk pss i).length ≤ (flk pss j).length := by
  unfold flk
  have : pss.take i = (pss.take j).take i := by rw [List.take_take, Nat.min_eq_left h]
  rw [this]
  exact flat_le (pss.take j) i

set_option maxHeartbeats 1000000 in
theorem need_all (a : Option Addr) (pss : List (List Int)) (cap : Nat) (w : World) (hp : PartsA w a pss) (hl : pss.length ≤ 100) (hf : (flk pss pss.length).length ≤ 10000) :
    Calls Try.prog 48 #[.slice a pss.length cap] w fun e w' => e = .returned (.int .i64 (needI ((flk pss pss.length).length : Int))) ∧ w' = w := by
  have HP := hide hp
  have HF := hide (flk_le pss)
  have HFT := hide (flk_succ pss)
  have HPL := hide (flk_part pss)
  clear hp
  go_enter Try.func48, Try.ntmps48
  go_wp2
  go_loop [3, 8] (fun s i => ∃ k : Nat, k ≤ pss.length ∧ i = .int .i64 k ∧ s = .int .i64 ((flk pss k).length : Int)) (fun _ i => pss.length - (intOf i).toNat)
  case atStart => exact ⟨0, Nat.zero_le _, rfl, rfl⟩
  case round =>
    obtain ⟨k, hk, rfl, rfl⟩ := hrel
    by_cases hlt : k < pss.length
    · obtain ⟨b, off, rfl, hc⟩ := (unhide HP) (by rintro rfl; simp at hlt)
      obtain ⟨a', cap', hck, hby⟩ := hc k hlt
      have h1 := unhide HF k
      have h2 := unhide HPL k
      have HS := hide (unhide HFT k hlt)
      generalize pss.getD k [] = ps at *
      have HSL : Hid ((flk pss (k + 1)).length = (flk pss k).length + ps.length) := by show _ = _; rw [unhide HS, List.length_append]
      have HMO := hide (flk_mono pss (k + 1) pss.length (by omega))
      have HN := hide (fun (W : World) => need_any ((flk pss k).length + ps.length : Int) (by omega) W)
      by_cases hz : needI ((flk pss k).length + ps.length : Int) = 0
      · have HZ : Hid (needI ((flk pss pss.length).length : Int) = 0) := by
          show _ = _
          have := needI_zero hz
          have h3 := unhide HMO
          rw [unhide HSL] at h3
          exact needI_big (by omega)
        rw [hz] at HN
        generalize (flk pss k).length = n at *
        clear hc hby HS hz
        go_wp2_with (go_at_call 13; (with_reducible refine (unhide HN _).mono ?_); rintro e w1 ⟨rfl, rfl⟩)
        go_ret
        exact ⟨ret_int (unhide HZ).symm, rfl⟩
      · generalize hq : needI ((flk pss k).length + ps.length : Int) = q at *
        have hqz : (q == 0) = false := beq_eq_false_iff_ne.2 hz
        generalize (flk pss k).length = n at *
        clear hc hby HS hq
        go_wp2_with (go_at_call 13; (with_reducible refine (unhide HN _).mono ?_); rintro e w1 ⟨rfl, rfl⟩)
        go_round
        case rel => exact ⟨k + 1, by omega, by go_num, by rw [unhide HSL]; go_num⟩
        case measure => simp [intOf]; omega
    · obtain rfl : k = pss.length := by omega
      have HN := hide (fun (W : World) => need_any ((flk pss pss.length).length : Int) (by omega) W)
      go_wp2_with (go_at_call 13; (with_reducible refine (unhide HN _).mono ?_); rintro e w1 ⟨rfl, rfl⟩)
      go_ret
      exact ⟨rfl, rfl⟩

theorem grow_zero (w : World) : Calls Try.prog 70 #[.slice none 0 0, .int .i64 0] w fun e w' => e = .returned (.slice none 0 0) ∧ w' = w := by
  go_enter Try.func70, Try.ntmps70
  go_wp2
  go_ret
  exact ⟨rfl, rfl⟩

set_option maxHeartbeats 1000000 in
theorem concat_zero (a : Option Addr) (pss : List (List Int)) (cap : Nat) (w : World) (hp : PartsA w a pss) (hl : pss.length ≤ 100) (h0 : (flk pss pss.length).length = 0) :
    Calls Try.prog 49 #[.slice a pss.length cap] w fun e w' => ∃ v, e = .returned v ∧ w'.ownsRow w.heap.size 5 1 v (flk pss pss.length).length ((flk pss pss.length).map (Value.int .u8)) ∧ Below w.heap.size w w' := by
  have HP := hide hp
  have HF : Hid (∀ k, (flk pss k).length = 0) := fun k => by have := flk_le pss k; omega
  have HFT := hide (flk_succ pss)
  have HPL : Hid (∀ k, (pss.getD k []).length = 0) := fun k => by have := flk_part pss k; omega
  clear hp
  go_enter Try.func49, Try.ntmps49
  go_wp2
  go_loop [3, 11] (fun s i => ∃ k : Nat, k ≤ pss.length ∧ i = .int .i64 k ∧ s = .int .i64 0) (fun _ i => pss.length - (intOf i).toNat)
  case atStart => exact ⟨0, Nat.zero_le _, rfl, rfl⟩
  case round =>
    obtain ⟨k, hk, rfl, rfl⟩ := hrel
    by_cases hlt : k < pss.length
    · obtain ⟨b, off, rfl, hc⟩ := (unhide HP) (by rintro rfl; simp at hlt)
      obtain ⟨a', cap', hck, hby⟩ := hc k hlt
      have h2 := unhide HPL k
      rw [h2] at hck
      clear hc hby h2
      go_wp2
      go_round
      case rel => exact ⟨k + 1, by omega, by go_num, by go_num⟩
      case measure => simp [intOf]; omega
    · obtain rfl : k = pss.length := by omega
      go_wp2_with (go_at_call 70; refine (grow_zero _).mono ?_; rintro e w1 ⟨rfl, rfl⟩)
      go_loopw [6, 27] (fun v i wr => ∃ k : Nat, k ≤ pss.length ∧ i = .int .i64 k ∧ Below w1.heap.size w1 wr ∧ wr.ownsRow w1.heap.size 5 1 v (flk pss k).length ((flk pss k).map (Value.int .u8))) (fun _ i _ => pss.length - (intOf i).toNat)
      case atStart => exact ⟨0, Nat.zero_le _, rfl, Below.refl _ _, ⟨rfl, .inl ⟨rfl, rfl⟩⟩⟩
      case round =>
        obtain ⟨k, hk, rfl, hbel, hown⟩ := hrel
        obtain ⟨A, capA, rfl, hbys, hcapA⟩ := own_bys hown
        have HOW := hide hown
        clear hown hbys
        by_cases hlt : k < pss.length
        · obtain ⟨b, off, rfl, hc⟩ := (unhide HP) (by rintro rfl; simp at hlt)
          obtain ⟨a', cap', hck0, hby⟩ := hc k hlt
          have hck : wr.cell? ⟨b, off + k, none⟩ = some (.slice a' (pss.getD k []).length cap') := by rw [hbel.cell (World.block_lt_of_cell? _ _ hck0)]; exact hck0
          have HY := hide (bysA_below hby hbel)
          have H1 := hide (unhide HF k)
          have H2 := hide (unhide HPL k)
          have HS := hide (unhide HFT k hlt)
          generalize pss.getD k [] = ps at *
          clear hc hby hck0
          go_wp2_with ((with_reducible refine wpList_appendB _ _ w1.heap.size _ (flk pss k) ps ?_ (unhide HOW) a' ps.length cap' ?_ ?_ (unhide HY) ?_ hbel.size ?_); (focus rfl); (focus rfl); (focus rfl); (focus (have := unhide H1; have := unhide H2; omega)); intro v2 w2 hown2 hg2)
          have hob := unhide HOW
          have hbl : ∀ j, (Value.slice A (flk pss k).length capA).ownBlock = some j → w1.heap.size ≤ j := fun j hj => (own_block hob hj).1
          have hb2 : Below w1.heap.size w1 w2 := hbel.grown hg2 hbel.size hbl
          rw [← unhide HS] at hown2
          clear hob hbl hg2
          go_roundw
          case rel => exact ⟨k + 1, by omega, by go_num, hb2, hown2⟩
          case measure => simp [intOf]; omega
        · obtain rfl : k = pss.length := by omega
          go_wp2
          go_ret
          exact ⟨_, rfl, unhide HOW, hbel⟩

theorem concat_all (a : Option Addr) (pss : List (List Int)) (cap : Nat) (w : World) (hp : PartsA w a pss) (hB : Byts pss) (hl : pss.length ≤ 100) (hf : (flk pss pss.length).length ≤ 10000) :
    Calls Try.prog 49 #[.slice a pss.length cap] w fun e w' => ∃ A c, e = .returned (.slice A (flk pss pss.length).length c) ∧ BysA w' A (flk pss pss.length) ∧ Below w.heap.size w w' := by
  have key : Calls Try.prog 49 #[.slice a pss.length cap] w fun e w' => ∃ v, e = .returned v ∧ w'.ownsRow w.heap.size 5 1 v (flk pss pss.length).length ((flk pss pss.length).map (Value.int .u8)) ∧ Below w.heap.size w w' := by
    by_cases h0 : (flk pss pss.length).length = 0
    · exact concat_zero a pss cap w hp hl h0
    · exact concat_go a pss cap w hp hB hl (by omega) hf
  refine key.mono ?_
  rintro e w' ⟨v, rfl, ho, hb⟩
  obtain ⟨A, c, rfl, hy, _⟩ := own_bys ho
  exact ⟨A, c, rfl, hy, hb⟩
end Go.Proofs.Ytfceileohkngnaa
