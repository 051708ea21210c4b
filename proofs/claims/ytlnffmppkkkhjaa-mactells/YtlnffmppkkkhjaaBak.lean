/- MacBack: the walk. -/
import Derived.Test.YtlnffmppkkkhjaaKin
namespace Go.Proofs.Ytlnffmppkkkhjaa
open Go.RowKit
set_option linter.unusedVariables false
theorem six_rowT (w : World) (t : TypeId) (u0 u1 u2 u3 u4 u5 : Value) : RowA (w.alloc (.cells #[u0, u1, u2, u3, u4, u5] t)) (some ⟨w.heap.size, 0, none⟩) [u0, u1, u2, u3, u4, u5] := by
  intro _
  refine ⟨_, _, rfl, fun j x hj => ?_⟩
  rw [World.cell?_alloc_at _ _ _ _ rfl, Nat.zero_add]
  rw [← hj]; exact (Array.getElem?_toList).symm
def six (b0 b1 b2 b3 b4 b5 : Nat) : Array Value := #[.int .u8 b0, .int .u8 b1, .int .u8 b2, .int .u8 b3, .int .u8 b4, .int .u8 b5]
theorem of_six (n : Nat) (hn : n < 281474976710656) (W : World) : Calls Try.prog 9 #[.slice (some ⟨W.heap.size, 0, none⟩) 6 6] (W.alloc (.cells #[.int .u8 (byN n 0 : Nat), .int .u8 (byN n 1 : Nat), .int .u8 (byN n 2 : Nat), .int .u8 (byN n 3 : Nat), .int .u8 (byN n 4 : Nat), .int .u8 (byN n 5 : Nat)] 25)) fun e w' =>
    e = .returned (.tuple #[.int .u64 n, .int .i64 0]) ∧ w' = W.alloc (.cells #[.int .u8 (byN n 0 : Nat), .int .u8 (byN n 1 : Nat), .int .u8 (byN n 2 : Nat), .int .u8 (byN n 3 : Nat), .int .u8 (byN n 4 : Nat), .int .u8 (byN n 5 : Nat)] 25) := by
  have h := of_any (W.alloc (.cells #[.int .u8 (byN n 0 : Nat), .int .u8 (byN n 1 : Nat), .int .u8 (byN n 2 : Nat), .int .u8 (byN n 3 : Nat), .int .u8 (byN n 4 : Nat), .int .u8 (byN n 5 : Nat)] 25)) (some ⟨W.heap.size, 0, none⟩) 6 [byN n 0, byN n 1, byN n 2, byN n 3, byN n 4, byN n 5]
    (by intro x hx; simp only [List.mem_cons, List.not_mem_nil, or_false] at hx; rcases hx with rfl | rfl | rfl | rfl | rfl | rfl <;> exact byN_lt _ _) (six_rowT W 25 _ _ _ _ _ _)
  rw [show ofN [byN n 0, byN n 1, byN n 2, byN n 3, byN n 4, byN n 5] = (n, 0) from by show (fo _, 0) = _; rw [fo_byN n hn]] at h
  exact h
set_option maxHeartbeats 4000000 in
theorem back_any (a b : Nat) (s : ByteArray) (ha : a < 18446744073709551616) (hb : b < 18446744073709551616) (w : World) : Calls Try.prog 4 #[.int .u64 a, .int .u64 b, .string s] w fun e w' => e = .returned (.bool true) ∧ Below w.heap.size w w' := by
  have WK := hide (fun W => wakes_any W)
  have HA : Hid (Below w.heap.size w w) := Below.refl _ _
  by_cases h100 : s.size ≤ 100
  · obtain ⟨n, hn⟩ : ∃ n, n = a % 281474976710656 := ⟨_, rfl⟩
    obtain ⟨m, hm⟩ : ∃ n, n = b % 281474976710656 := ⟨_, rfl⟩
    have hn' : (a : Int) % 281474976710656 = (n : Int) := by omega
    have hm' : (b : Int) % 281474976710656 = (m : Int) := by omega
    have hnl : n < 281474976710656 := by omega
    have hml : m < 281474976710656 := by omega
    have BY := hide (fun W => bytes_any n W)
    rw [show lay n 6 = #[Value.int .u8 (byN n 0 : Nat), Value.int .u8 (byN n 1 : Nat), Value.int .u8 (byN n 2 : Nat), Value.int .u8 (byN n 3 : Nat), Value.int .u8 (byN n 4 : Nat), Value.int .u8 (byN n 5 : Nat)] from rfl] at BY
    have OF := hide (fun W => of_six n hnl W)
    have TN := hide (fun W => text_any n (by omega) W)
    have TM := hide (fun W => text_any m (by omega) W)
    have PN := hide (fun W => parse_any (str (txt n)) W)
    have PS := hide (fun W => parse_any s W)
    have htn : txt n = txtP n 6 := if_pos hnl
    have htm : txt m = txtP m 6 := if_pos hml
    have hpn : prsN (str (txt n)) = (n, 0) := by rw [htn, prs_txt n hnl]
    rw [hpn] at PN
    have hinj := txt_inj n m hnl hml
    rw [← htn, ← htm] at hinj
    clear hn hm htn htm hpn
    by_cases hok : okS s
    · have hp := prs_ok s hok
      have hlt := (bts_lt s (ok_hex s hok)).2
      have TQ := hide (fun W => text_any (fo (bts s)) (by omega) W)
      rw [show txt (fo (bts s)) = txtP (fo (bts s)) 6 from if_pos hlt, str_of_ok s hok] at TQ
      rw [hp] at PS
      clear hp hlt hok
      generalize fo (bts s) = q at *
      by_cases hnm : n = m
      · subst hnm
        clear hinj
        generalize str (txt n) = t1 at *
        go_enter Try.func4, Try.ntmps4
        go_upto_region 7 with (first
          | (go_at_call 8; with_reducible refine (unhide BY _).mono ?_; rintro e wn ⟨rfl, hbn⟩; (first | have HA := hide (below_then (unhide HA) hbn) | have HA := hide (below_then (below_alloc (unhide HA) _) hbn)); clear hbn)
          | (go_at_call 9; with_reducible refine (unhide OF _).mono ?_; rintro e w2 ⟨rfl, rfl⟩)
          | (go_at_call 11; with_reducible refine (unhide PN _).mono ?_; rintro e wn ⟨rfl, hbn⟩; (first | have HA := hide (below_then (unhide HA) hbn) | have HA := hide (below_then (below_alloc (unhide HA) _) hbn)); clear hbn)
          | (go_at_call 11; with_reducible refine (unhide PS _).mono ?_; rintro e wn ⟨rfl, hbn⟩; (first | have HA := hide (below_then (unhide HA) hbn) | have HA := hide (below_then (below_alloc (unhide HA) _) hbn)); clear hbn)
          | (go_at_call 7; with_reducible refine (unhide WK _).mono ?_; rintro e wn ⟨rfl, hbn⟩; (first | have HA := hide (below_then (unhide HA) hbn) | have HA := hide (below_then (below_alloc (unhide HA) _) hbn)); clear hbn)
          | (go_at_call 21; with_reducible refine (unhide TN _).mono ?_; rintro e wn ⟨rfl, hbn⟩; (first | have HA := hide (below_then (unhide HA) hbn) | have HA := hide (below_then (below_alloc (unhide HA) _) hbn)); clear hbn))
        go_upto_region 10 with (first
          | (go_at_call 8; with_reducible refine (unhide BY _).mono ?_; rintro e wn ⟨rfl, hbn⟩; (first | have HA := hide (below_then (unhide HA) hbn) | have HA := hide (below_then (below_alloc (unhide HA) _) hbn)); clear hbn)
          | (go_at_call 9; with_reducible refine (unhide OF _).mono ?_; rintro e w2 ⟨rfl, rfl⟩)
          | (go_at_call 11; with_reducible refine (unhide PN _).mono ?_; rintro e wn ⟨rfl, hbn⟩; (first | have HA := hide (below_then (unhide HA) hbn) | have HA := hide (below_then (below_alloc (unhide HA) _) hbn)); clear hbn)
          | (go_at_call 11; with_reducible refine (unhide PS _).mono ?_; rintro e wn ⟨rfl, hbn⟩; (first | have HA := hide (below_then (unhide HA) hbn) | have HA := hide (below_then (below_alloc (unhide HA) _) hbn)); clear hbn)
          | (go_at_call 7; with_reducible refine (unhide WK _).mono ?_; rintro e wn ⟨rfl, hbn⟩; (first | have HA := hide (below_then (unhide HA) hbn) | have HA := hide (below_then (below_alloc (unhide HA) _) hbn)); clear hbn)
          | (go_at_call 21; with_reducible refine (unhide TN _).mono ?_; rintro e wn ⟨rfl, hbn⟩; (first | have HA := hide (below_then (unhide HA) hbn) | have HA := hide (below_then (below_alloc (unhide HA) _) hbn)); clear hbn)
          | (go_at_call 21; with_reducible refine (unhide TM _).mono ?_; rintro e wn ⟨rfl, hbn⟩; (first | have HA := hide (below_then (unhide HA) hbn) | have HA := hide (below_then (below_alloc (unhide HA) _) hbn)); clear hbn))
        go_wp2_with (first
          | (go_at_call 8; with_reducible refine (unhide BY _).mono ?_; rintro e wn ⟨rfl, hbn⟩; (first | have HA := hide (below_then (unhide HA) hbn) | have HA := hide (below_then (below_alloc (unhide HA) _) hbn)); clear hbn)
          | (go_at_call 9; with_reducible refine (unhide OF _).mono ?_; rintro e w2 ⟨rfl, rfl⟩)
          | (go_at_call 11; with_reducible refine (unhide PN _).mono ?_; rintro e wn ⟨rfl, hbn⟩; (first | have HA := hide (below_then (unhide HA) hbn) | have HA := hide (below_then (below_alloc (unhide HA) _) hbn)); clear hbn)
          | (go_at_call 11; with_reducible refine (unhide PS _).mono ?_; rintro e wn ⟨rfl, hbn⟩; (first | have HA := hide (below_then (unhide HA) hbn) | have HA := hide (below_then (below_alloc (unhide HA) _) hbn)); clear hbn)
          | (go_at_call 7; with_reducible refine (unhide WK _).mono ?_; rintro e wn ⟨rfl, hbn⟩; (first | have HA := hide (below_then (unhide HA) hbn) | have HA := hide (below_then (below_alloc (unhide HA) _) hbn)); clear hbn)
          | (go_at_call 21; with_reducible refine (unhide TQ _).mono ?_; rintro e wn ⟨rfl, hbn⟩; (first | have HA := hide (below_then (unhide HA) hbn) | have HA := hide (below_then (below_alloc (unhide HA) _) hbn)); clear hbn))
        go_ret
        exact ⟨rfl, unhide HA⟩
      · have hbe : ((str (txt n)).toList == (str (txt m)).toList) = false := beq_no fun h => hnm (hinj h)
        have hnm' : ¬ (n : Int) = (m : Int) := by omega
        clear hinj hnm
        generalize str (txt n) = t1 at *
        generalize str (txt m) = t2 at *
        go_enter Try.func4, Try.ntmps4
        go_upto_region 7 with (first
          | (go_at_call 8; with_reducible refine (unhide BY _).mono ?_; rintro e wn ⟨rfl, hbn⟩; (first | have HA := hide (below_then (unhide HA) hbn) | have HA := hide (below_then (below_alloc (unhide HA) _) hbn)); clear hbn)
          | (go_at_call 9; with_reducible refine (unhide OF _).mono ?_; rintro e w2 ⟨rfl, rfl⟩)
          | (go_at_call 11; with_reducible refine (unhide PN _).mono ?_; rintro e wn ⟨rfl, hbn⟩; (first | have HA := hide (below_then (unhide HA) hbn) | have HA := hide (below_then (below_alloc (unhide HA) _) hbn)); clear hbn)
          | (go_at_call 11; with_reducible refine (unhide PS _).mono ?_; rintro e wn ⟨rfl, hbn⟩; (first | have HA := hide (below_then (unhide HA) hbn) | have HA := hide (below_then (below_alloc (unhide HA) _) hbn)); clear hbn)
          | (go_at_call 7; with_reducible refine (unhide WK _).mono ?_; rintro e wn ⟨rfl, hbn⟩; (first | have HA := hide (below_then (unhide HA) hbn) | have HA := hide (below_then (below_alloc (unhide HA) _) hbn)); clear hbn)
          | (go_at_call 21; with_reducible refine (unhide TN _).mono ?_; rintro e wn ⟨rfl, hbn⟩; (first | have HA := hide (below_then (unhide HA) hbn) | have HA := hide (below_then (below_alloc (unhide HA) _) hbn)); clear hbn))
        go_upto_region 10 with (first
          | (go_at_call 8; with_reducible refine (unhide BY _).mono ?_; rintro e wn ⟨rfl, hbn⟩; (first | have HA := hide (below_then (unhide HA) hbn) | have HA := hide (below_then (below_alloc (unhide HA) _) hbn)); clear hbn)
          | (go_at_call 9; with_reducible refine (unhide OF _).mono ?_; rintro e w2 ⟨rfl, rfl⟩)
          | (go_at_call 11; with_reducible refine (unhide PN _).mono ?_; rintro e wn ⟨rfl, hbn⟩; (first | have HA := hide (below_then (unhide HA) hbn) | have HA := hide (below_then (below_alloc (unhide HA) _) hbn)); clear hbn)
          | (go_at_call 11; with_reducible refine (unhide PS _).mono ?_; rintro e wn ⟨rfl, hbn⟩; (first | have HA := hide (below_then (unhide HA) hbn) | have HA := hide (below_then (below_alloc (unhide HA) _) hbn)); clear hbn)
          | (go_at_call 7; with_reducible refine (unhide WK _).mono ?_; rintro e wn ⟨rfl, hbn⟩; (first | have HA := hide (below_then (unhide HA) hbn) | have HA := hide (below_then (below_alloc (unhide HA) _) hbn)); clear hbn)
          | (go_at_call 21; with_reducible refine (unhide TN _).mono ?_; rintro e wn ⟨rfl, hbn⟩; (first | have HA := hide (below_then (unhide HA) hbn) | have HA := hide (below_then (below_alloc (unhide HA) _) hbn)); clear hbn)
          | (go_at_call 21; with_reducible refine (unhide TM _).mono ?_; rintro e wn ⟨rfl, hbn⟩; (first | have HA := hide (below_then (unhide HA) hbn) | have HA := hide (below_then (below_alloc (unhide HA) _) hbn)); clear hbn))
        go_wp2_with (first
          | (go_at_call 8; with_reducible refine (unhide BY _).mono ?_; rintro e wn ⟨rfl, hbn⟩; (first | have HA := hide (below_then (unhide HA) hbn) | have HA := hide (below_then (below_alloc (unhide HA) _) hbn)); clear hbn)
          | (go_at_call 9; with_reducible refine (unhide OF _).mono ?_; rintro e w2 ⟨rfl, rfl⟩)
          | (go_at_call 11; with_reducible refine (unhide PN _).mono ?_; rintro e wn ⟨rfl, hbn⟩; (first | have HA := hide (below_then (unhide HA) hbn) | have HA := hide (below_then (below_alloc (unhide HA) _) hbn)); clear hbn)
          | (go_at_call 11; with_reducible refine (unhide PS _).mono ?_; rintro e wn ⟨rfl, hbn⟩; (first | have HA := hide (below_then (unhide HA) hbn) | have HA := hide (below_then (below_alloc (unhide HA) _) hbn)); clear hbn)
          | (go_at_call 7; with_reducible refine (unhide WK _).mono ?_; rintro e wn ⟨rfl, hbn⟩; (first | have HA := hide (below_then (unhide HA) hbn) | have HA := hide (below_then (below_alloc (unhide HA) _) hbn)); clear hbn)
          | (go_at_call 21; with_reducible refine (unhide TQ _).mono ?_; rintro e wn ⟨rfl, hbn⟩; (first | have HA := hide (below_then (unhide HA) hbn) | have HA := hide (below_then (below_alloc (unhide HA) _) hbn)); clear hbn))
        go_ret
        exact ⟨rfl, unhide HA⟩
    · have hp := prs_no s hok
      rw [hp] at PS
      clear hp hok
      by_cases hnm : n = m
      · subst hnm
        clear hinj
        generalize str (txt n) = t1 at *
        go_enter Try.func4, Try.ntmps4
        go_upto_region 7 with (first
          | (go_at_call 8; with_reducible refine (unhide BY _).mono ?_; rintro e wn ⟨rfl, hbn⟩; (first | have HA := hide (below_then (unhide HA) hbn) | have HA := hide (below_then (below_alloc (unhide HA) _) hbn)); clear hbn)
          | (go_at_call 9; with_reducible refine (unhide OF _).mono ?_; rintro e w2 ⟨rfl, rfl⟩)
          | (go_at_call 11; with_reducible refine (unhide PN _).mono ?_; rintro e wn ⟨rfl, hbn⟩; (first | have HA := hide (below_then (unhide HA) hbn) | have HA := hide (below_then (below_alloc (unhide HA) _) hbn)); clear hbn)
          | (go_at_call 11; with_reducible refine (unhide PS _).mono ?_; rintro e wn ⟨rfl, hbn⟩; (first | have HA := hide (below_then (unhide HA) hbn) | have HA := hide (below_then (below_alloc (unhide HA) _) hbn)); clear hbn)
          | (go_at_call 7; with_reducible refine (unhide WK _).mono ?_; rintro e wn ⟨rfl, hbn⟩; (first | have HA := hide (below_then (unhide HA) hbn) | have HA := hide (below_then (below_alloc (unhide HA) _) hbn)); clear hbn)
          | (go_at_call 21; with_reducible refine (unhide TN _).mono ?_; rintro e wn ⟨rfl, hbn⟩; (first | have HA := hide (below_then (unhide HA) hbn) | have HA := hide (below_then (below_alloc (unhide HA) _) hbn)); clear hbn))
        go_upto_region 10 with (first
          | (go_at_call 8; with_reducible refine (unhide BY _).mono ?_; rintro e wn ⟨rfl, hbn⟩; (first | have HA := hide (below_then (unhide HA) hbn) | have HA := hide (below_then (below_alloc (unhide HA) _) hbn)); clear hbn)
          | (go_at_call 9; with_reducible refine (unhide OF _).mono ?_; rintro e w2 ⟨rfl, rfl⟩)
          | (go_at_call 11; with_reducible refine (unhide PN _).mono ?_; rintro e wn ⟨rfl, hbn⟩; (first | have HA := hide (below_then (unhide HA) hbn) | have HA := hide (below_then (below_alloc (unhide HA) _) hbn)); clear hbn)
          | (go_at_call 11; with_reducible refine (unhide PS _).mono ?_; rintro e wn ⟨rfl, hbn⟩; (first | have HA := hide (below_then (unhide HA) hbn) | have HA := hide (below_then (below_alloc (unhide HA) _) hbn)); clear hbn)
          | (go_at_call 7; with_reducible refine (unhide WK _).mono ?_; rintro e wn ⟨rfl, hbn⟩; (first | have HA := hide (below_then (unhide HA) hbn) | have HA := hide (below_then (below_alloc (unhide HA) _) hbn)); clear hbn)
          | (go_at_call 21; with_reducible refine (unhide TN _).mono ?_; rintro e wn ⟨rfl, hbn⟩; (first | have HA := hide (below_then (unhide HA) hbn) | have HA := hide (below_then (below_alloc (unhide HA) _) hbn)); clear hbn)
          | (go_at_call 21; with_reducible refine (unhide TM _).mono ?_; rintro e wn ⟨rfl, hbn⟩; (first | have HA := hide (below_then (unhide HA) hbn) | have HA := hide (below_then (below_alloc (unhide HA) _) hbn)); clear hbn))
        go_wp2_with (first
          | (go_at_call 8; with_reducible refine (unhide BY _).mono ?_; rintro e wn ⟨rfl, hbn⟩; (first | have HA := hide (below_then (unhide HA) hbn) | have HA := hide (below_then (below_alloc (unhide HA) _) hbn)); clear hbn)
          | (go_at_call 9; with_reducible refine (unhide OF _).mono ?_; rintro e w2 ⟨rfl, rfl⟩)
          | (go_at_call 11; with_reducible refine (unhide PN _).mono ?_; rintro e wn ⟨rfl, hbn⟩; (first | have HA := hide (below_then (unhide HA) hbn) | have HA := hide (below_then (below_alloc (unhide HA) _) hbn)); clear hbn)
          | (go_at_call 11; with_reducible refine (unhide PS _).mono ?_; rintro e wn ⟨rfl, hbn⟩; (first | have HA := hide (below_then (unhide HA) hbn) | have HA := hide (below_then (below_alloc (unhide HA) _) hbn)); clear hbn)
          | (go_at_call 7; with_reducible refine (unhide WK _).mono ?_; rintro e wn ⟨rfl, hbn⟩; (first | have HA := hide (below_then (unhide HA) hbn) | have HA := hide (below_then (below_alloc (unhide HA) _) hbn)); clear hbn))
        go_ret
        exact ⟨rfl, unhide HA⟩
      · have hbe : ((str (txt n)).toList == (str (txt m)).toList) = false := beq_no fun h => hnm (hinj h)
        have hnm' : ¬ (n : Int) = (m : Int) := by omega
        clear hinj hnm
        generalize str (txt n) = t1 at *
        generalize str (txt m) = t2 at *
        go_enter Try.func4, Try.ntmps4
        go_upto_region 7 with (first
          | (go_at_call 8; with_reducible refine (unhide BY _).mono ?_; rintro e wn ⟨rfl, hbn⟩; (first | have HA := hide (below_then (unhide HA) hbn) | have HA := hide (below_then (below_alloc (unhide HA) _) hbn)); clear hbn)
          | (go_at_call 9; with_reducible refine (unhide OF _).mono ?_; rintro e w2 ⟨rfl, rfl⟩)
          | (go_at_call 11; with_reducible refine (unhide PN _).mono ?_; rintro e wn ⟨rfl, hbn⟩; (first | have HA := hide (below_then (unhide HA) hbn) | have HA := hide (below_then (below_alloc (unhide HA) _) hbn)); clear hbn)
          | (go_at_call 11; with_reducible refine (unhide PS _).mono ?_; rintro e wn ⟨rfl, hbn⟩; (first | have HA := hide (below_then (unhide HA) hbn) | have HA := hide (below_then (below_alloc (unhide HA) _) hbn)); clear hbn)
          | (go_at_call 7; with_reducible refine (unhide WK _).mono ?_; rintro e wn ⟨rfl, hbn⟩; (first | have HA := hide (below_then (unhide HA) hbn) | have HA := hide (below_then (below_alloc (unhide HA) _) hbn)); clear hbn)
          | (go_at_call 21; with_reducible refine (unhide TN _).mono ?_; rintro e wn ⟨rfl, hbn⟩; (first | have HA := hide (below_then (unhide HA) hbn) | have HA := hide (below_then (below_alloc (unhide HA) _) hbn)); clear hbn))
        go_upto_region 10 with (first
          | (go_at_call 8; with_reducible refine (unhide BY _).mono ?_; rintro e wn ⟨rfl, hbn⟩; (first | have HA := hide (below_then (unhide HA) hbn) | have HA := hide (below_then (below_alloc (unhide HA) _) hbn)); clear hbn)
          | (go_at_call 9; with_reducible refine (unhide OF _).mono ?_; rintro e w2 ⟨rfl, rfl⟩)
          | (go_at_call 11; with_reducible refine (unhide PN _).mono ?_; rintro e wn ⟨rfl, hbn⟩; (first | have HA := hide (below_then (unhide HA) hbn) | have HA := hide (below_then (below_alloc (unhide HA) _) hbn)); clear hbn)
          | (go_at_call 11; with_reducible refine (unhide PS _).mono ?_; rintro e wn ⟨rfl, hbn⟩; (first | have HA := hide (below_then (unhide HA) hbn) | have HA := hide (below_then (below_alloc (unhide HA) _) hbn)); clear hbn)
          | (go_at_call 7; with_reducible refine (unhide WK _).mono ?_; rintro e wn ⟨rfl, hbn⟩; (first | have HA := hide (below_then (unhide HA) hbn) | have HA := hide (below_then (below_alloc (unhide HA) _) hbn)); clear hbn)
          | (go_at_call 21; with_reducible refine (unhide TN _).mono ?_; rintro e wn ⟨rfl, hbn⟩; (first | have HA := hide (below_then (unhide HA) hbn) | have HA := hide (below_then (below_alloc (unhide HA) _) hbn)); clear hbn)
          | (go_at_call 21; with_reducible refine (unhide TM _).mono ?_; rintro e wn ⟨rfl, hbn⟩; (first | have HA := hide (below_then (unhide HA) hbn) | have HA := hide (below_then (below_alloc (unhide HA) _) hbn)); clear hbn))
        go_wp2_with (first
          | (go_at_call 8; with_reducible refine (unhide BY _).mono ?_; rintro e wn ⟨rfl, hbn⟩; (first | have HA := hide (below_then (unhide HA) hbn) | have HA := hide (below_then (below_alloc (unhide HA) _) hbn)); clear hbn)
          | (go_at_call 9; with_reducible refine (unhide OF _).mono ?_; rintro e w2 ⟨rfl, rfl⟩)
          | (go_at_call 11; with_reducible refine (unhide PN _).mono ?_; rintro e wn ⟨rfl, hbn⟩; (first | have HA := hide (below_then (unhide HA) hbn) | have HA := hide (below_then (below_alloc (unhide HA) _) hbn)); clear hbn)
          | (go_at_call 11; with_reducible refine (unhide PS _).mono ?_; rintro e wn ⟨rfl, hbn⟩; (first | have HA := hide (below_then (unhide HA) hbn) | have HA := hide (below_then (below_alloc (unhide HA) _) hbn)); clear hbn)
          | (go_at_call 7; with_reducible refine (unhide WK _).mono ?_; rintro e wn ⟨rfl, hbn⟩; (first | have HA := hide (below_then (unhide HA) hbn) | have HA := hide (below_then (below_alloc (unhide HA) _) hbn)); clear hbn))
        go_ret
        exact ⟨rfl, unhide HA⟩
  · go_enter Try.func4, Try.ntmps4
    go_wp2_with (go_at_call 7; with_reducible refine (unhide WK _).mono ?_; rintro e wn ⟨rfl, hbn⟩; (first | have HA := hide (below_then (unhide HA) hbn) | have HA := hide (below_then (below_alloc (unhide HA) _) hbn)); clear hbn)
    go_ret
    exact ⟨rfl, unhide HA⟩
end Go.Proofs.Ytlnffmppkkkhjaa
