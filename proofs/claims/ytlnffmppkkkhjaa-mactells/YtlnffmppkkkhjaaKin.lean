/- MacKinds: the walk. -/
import Derived.Test.YtlnffmppkkkhjaaWak
namespace Go.Proofs.Ytlnffmppkkkhjaa
open Go.RowKit
set_option linter.unusedVariables false
theorem kept_group (b : Nat) (h : keptN b = true) : groupN b = true := by
  unfold keptN at h
  unfold groupN
  simp at h ⊢
  omega
theorem lay_eq (m n : Nat) (h : m % 281474976710656 = n % 281474976710656) : lay m 6 = lay n 6 := by
  have e : ∀ j, j < 6 → byN m j = byN n j := by
    intro j hj
    have : j = 0 ∨ j = 1 ∨ j = 2 ∨ j = 3 ∨ j = 4 ∨ j = 5 := by omega
    rcases this with rfl | rfl | rfl | rfl | rfl | rfl <;> simp [byN] <;> omega
  show #[Value.int .u8 (byN m 0 : Nat), Value.int .u8 (byN m 1 : Nat), Value.int .u8 (byN m 2 : Nat), Value.int .u8 (byN m 3 : Nat), Value.int .u8 (byN m 4 : Nat), Value.int .u8 (byN m 5 : Nat)] = #[Value.int .u8 (byN n 0 : Nat), Value.int .u8 (byN n 1 : Nat), Value.int .u8 (byN n 2 : Nat), Value.int .u8 (byN n 3 : Nat), Value.int .u8 (byN n 4 : Nat), Value.int .u8 (byN n 5 : Nat)]
  rw [e 0 (by decide), e 1 (by decide), e 2 (by decide), e 3 (by decide), e 4 (by decide), e 5 (by decide)]
theorem Try.size5 : (Try.prog.info? 5).map (·.size) = some 1 := by kernel_rfl
theorem part_lay (n k : Nat) (h : k < 6) (w : World) : (part 5 (lay n 6) k).run Try.prog w = .ok (.int .u8 (byN n k : Nat)) w := by
  have hg := lay_get n 6 k h
  unfold cel at hg
  rw [if_pos h] at hg
  simp [part, isAgg, run_underlying Try.underlying5, hg]
theorem eq_lay (n : Nat) (w : World) : (Op.equalIn 10000 25 (.agg (lay n 6)) (.agg (lay n 6))).run Try.prog w = .ok true w := by
  obtain ⟨j5, hj5, hs5⟩ := Option.map_eq_some_iff.1 Try.size5
  rw [Op.equalIn]
  simp only [Sem.run_bind, run_underlying Try.underlying25, Result.andThen_ok, sizeOf, typeInfo, run_program, hj5, Sem.run_pure, hs5]
  rw [Std.Legacy.Range.forIn_eq_forIn_range']
  have e : List.range' [:6].start [:6].size [:6].step = [0, 1, 2, 3, 4, 5] := rfl
  rw [e]
  simp only [List.forIn_cons, List.forIn_nil, Sem.run_bind, Nat.mul_one, part_lay n 0 (by decide), part_lay n 1 (by decide), part_lay n 2 (by decide), part_lay n 3 (by decide), part_lay n 4 (by decide), part_lay n 5 (by decide), Result.andThen_ok, run_equalIn_int w _ 5 .u8 .u8 _ _ Try.underlying5, BEq.rfl, Bool.not_true, Bool.false_eq_true, if_false, Sem.run_pure]
set_option maxHeartbeats 4000000 in
theorem kinds_any (a : Nat) (ha : a < 18446744073709551616) (w : World) : Calls Try.prog 5 #[.int .u64 a] w fun e w' => e = .returned (.bool true) ∧ Below w.heap.size w w' := by
  obtain ⟨b, hb⟩ : ∃ b, b = a % 281474976710656 := ⟨_, rfl⟩
  have hb' : (a : Int) % 281474976710656 = (b : Int) := by omega
  have hlt : b < 281474976710656 := by omega
  obtain ⟨x, hx⟩ : ∃ x, x = b ^^^ 1099511627776 := ⟨_, rfl⟩
  have hx2 := bits_xor b 1099511627776 (by omega) (by decide)
  rw [← hx] at hx2
  have hx3 : bits .xor .u64 (b : Int) 1099511627776 = (x : Int) := hx2
  have hxl : x < 281474976710656 := by rw [hx]; exact Nat.xor_lt_two_pow (n := 48) (by simpa using hlt) (by decide)
  have hxg : groupN x = !groupN b := by
    have := xor_bit b 40
    rw [show (2 : Nat) ^ 40 = 1099511627776 from rfl, ← hx] at this
    unfold groupN
    simp only [hxl, hlt, decide_true, Bool.true_and]
    exact this
  obtain ⟨c, hc⟩ : ∃ c, c = b + 281474976710656 := ⟨_, rfl⟩
  have hc' : (b : Int) + 281474976710656 = (c : Int) := by omega
  have GB := hide (fun W => group_any b (by omega) W)
  have GX := hide (fun W => group_any x (by omega) W)
  rw [hxg] at GX
  have GC := hide (fun W => group_any c (by omega) W)
  have KB := hide (fun W => kept_any b W)
  have KC := hide (fun W => kept_any c W)
  have DB := hide (fun W => good_any b W)
  have DC := hide (fun W => good_any c W)
  have TB := hide (fun W => text_any b (by omega) W)
  have TC := hide (fun W => text_any c (by omega) W)
  have BB := hide (fun W => bytes_any b W)
  have BC := hide (fun W => bytes_any c W)
  have WK := hide (fun W => wakes_any W)
  rw [show goodN b = true by simp [goodN, hlt]] at DB
  rw [show goodN c = false by simp [goodN]; omega] at DC
  rw [show groupN c = false by simp [groupN]; omega] at GC
  rw [show keptN c = false by simp [keptN]; omega] at KC
  rw [show txt c = [] from if_neg (by omega), show str [] = { data := #[] } from rfl] at TC
  rw [lay_eq c b (by omega)] at BC
  have hsz : (str (txt b)).size = 17 := by rw [str_size, show txt b = txtP b 6 from if_pos hlt, txtP_len]
  have hkg := kept_group b
  clear hx2 hxg hb hc hx
  have HQ := fun W => eq_lay b W
  generalize lay b 6 = L at *
  generalize str (txt b) = t at *
  by_cases hk : keptN b = true
  · have hg := hkg hk
    rw [hk] at KB
    rw [hg] at GB GX
    clear hkg hk hg
    go_enter Try.func5, Try.ntmps5
    go_wp2_with (first
      | (go_at_call 17; with_reducible refine (unhide KB _).mono ?_; rintro e w' ⟨rfl, rfl⟩)
      | (go_at_call 17; with_reducible refine (unhide KC _).mono ?_; rintro e w' ⟨rfl, rfl⟩)
      | (go_at_call 15; with_reducible refine (unhide GB _).mono ?_; rintro e w' ⟨rfl, rfl⟩)
      | (go_at_call 15; with_reducible refine (unhide GX _).mono ?_; rintro e w' ⟨rfl, rfl⟩)
      | (go_at_call 15; with_reducible refine (unhide GC _).mono ?_; rintro e w' ⟨rfl, rfl⟩)
      | (go_at_call 13; with_reducible refine (unhide DB _).mono ?_; rintro e w' ⟨rfl, rfl⟩)
      | (go_at_call 13; with_reducible refine (unhide DC _).mono ?_; rintro e w' ⟨rfl, rfl⟩)
      | (go_at_call 21; with_reducible refine (unhide TC _).mono ?_; rintro e w1 ⟨rfl, hb1⟩; have HB1 := hide hb1; clear hb1)
      | (go_at_call 21; with_reducible refine (unhide TB _).mono ?_; rintro e w2 ⟨rfl, hb2⟩; have HB2 := hide hb2; clear hb2)
      | (go_at_call 8; with_reducible refine (unhide BC _).mono ?_; rintro e w3 ⟨rfl, hb3⟩; have HB3 := hide hb3; clear hb3)
      | (go_at_call 8; with_reducible refine (unhide BB _).mono ?_; rintro e w4 ⟨rfl, hb4⟩; have HB4 := hide hb4; clear hb4)
      | (go_at_call 7; with_reducible refine (unhide WK _).mono ?_; rintro e w5 ⟨rfl, hb5⟩; have HB5 := hide hb5; clear hb5))
    go_ret
    exact ⟨rfl, below_then (below_then (below_then (below_then (unhide HB1) (unhide HB2)) (unhide HB3)) (unhide HB4)) (unhide HB5)⟩
  · have hk' : keptN b = false := by simpa using hk
    rw [hk'] at KB
    clear hkg hk hk'
    by_cases hg : groupN b = true
    · rw [hg] at GB GX
      clear hg
      go_enter Try.func5, Try.ntmps5
      go_wp2_with (first
        | (go_at_call 17; with_reducible refine (unhide KB _).mono ?_; rintro e w' ⟨rfl, rfl⟩)
        | (go_at_call 17; with_reducible refine (unhide KC _).mono ?_; rintro e w' ⟨rfl, rfl⟩)
        | (go_at_call 15; with_reducible refine (unhide GB _).mono ?_; rintro e w' ⟨rfl, rfl⟩)
        | (go_at_call 15; with_reducible refine (unhide GX _).mono ?_; rintro e w' ⟨rfl, rfl⟩)
        | (go_at_call 15; with_reducible refine (unhide GC _).mono ?_; rintro e w' ⟨rfl, rfl⟩)
        | (go_at_call 13; with_reducible refine (unhide DB _).mono ?_; rintro e w' ⟨rfl, rfl⟩)
        | (go_at_call 13; with_reducible refine (unhide DC _).mono ?_; rintro e w' ⟨rfl, rfl⟩)
        | (go_at_call 21; with_reducible refine (unhide TC _).mono ?_; rintro e w1 ⟨rfl, hb1⟩; have HB1 := hide hb1; clear hb1)
        | (go_at_call 21; with_reducible refine (unhide TB _).mono ?_; rintro e w2 ⟨rfl, hb2⟩; have HB2 := hide hb2; clear hb2)
        | (go_at_call 8; with_reducible refine (unhide BC _).mono ?_; rintro e w3 ⟨rfl, hb3⟩; have HB3 := hide hb3; clear hb3)
        | (go_at_call 8; with_reducible refine (unhide BB _).mono ?_; rintro e w4 ⟨rfl, hb4⟩; have HB4 := hide hb4; clear hb4)
        | (go_at_call 7; with_reducible refine (unhide WK _).mono ?_; rintro e w5 ⟨rfl, hb5⟩; have HB5 := hide hb5; clear hb5))
      go_ret
      exact ⟨rfl, below_then (below_then (below_then (below_then (unhide HB1) (unhide HB2)) (unhide HB3)) (unhide HB4)) (unhide HB5)⟩
    · have hg' : groupN b = false := by simpa using hg
      rw [hg'] at GB GX
      clear hg hg'
      go_enter Try.func5, Try.ntmps5
      go_wp2_with (first
        | (go_at_call 17; with_reducible refine (unhide KB _).mono ?_; rintro e w' ⟨rfl, rfl⟩)
        | (go_at_call 17; with_reducible refine (unhide KC _).mono ?_; rintro e w' ⟨rfl, rfl⟩)
        | (go_at_call 15; with_reducible refine (unhide GB _).mono ?_; rintro e w' ⟨rfl, rfl⟩)
        | (go_at_call 15; with_reducible refine (unhide GX _).mono ?_; rintro e w' ⟨rfl, rfl⟩)
        | (go_at_call 15; with_reducible refine (unhide GC _).mono ?_; rintro e w' ⟨rfl, rfl⟩)
        | (go_at_call 13; with_reducible refine (unhide DB _).mono ?_; rintro e w' ⟨rfl, rfl⟩)
        | (go_at_call 13; with_reducible refine (unhide DC _).mono ?_; rintro e w' ⟨rfl, rfl⟩)
        | (go_at_call 21; with_reducible refine (unhide TC _).mono ?_; rintro e w1 ⟨rfl, hb1⟩; have HB1 := hide hb1; clear hb1)
        | (go_at_call 21; with_reducible refine (unhide TB _).mono ?_; rintro e w2 ⟨rfl, hb2⟩; have HB2 := hide hb2; clear hb2)
        | (go_at_call 8; with_reducible refine (unhide BC _).mono ?_; rintro e w3 ⟨rfl, hb3⟩; have HB3 := hide hb3; clear hb3)
        | (go_at_call 8; with_reducible refine (unhide BB _).mono ?_; rintro e w4 ⟨rfl, hb4⟩; have HB4 := hide hb4; clear hb4)
        | (go_at_call 7; with_reducible refine (unhide WK _).mono ?_; rintro e w5 ⟨rfl, hb5⟩; have HB5 := hide hb5; clear hb5))
      go_ret
      exact ⟨rfl, below_then (below_then (below_then (below_then (unhide HB1) (unhide HB2)) (unhide HB3)) (unhide HB4)) (unhide HB5)⟩
end Go.Proofs.Ytlnffmppkkkhjaa
