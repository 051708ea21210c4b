/- MacOrder: the walk. -/
import Derived.Test.YtlnffmppkkkhjaaLex
import Derived.Deep.RegionHeld3
namespace Go.Proofs.Ytlnffmppkkkhjaa
open Go.RowKit
set_option linter.unusedVariables false
theorem conv_six (n : Nat) (W : World) (g : Nat) (h : W.heap[g]? = some (.cells #[Value.int .u8 (byN n 0 : Nat), Value.int .u8 (byN n 1 : Nat), Value.int .u8 (byN n 2 : Nat), Value.int .u8 (byN n 3 : Nat), Value.int .u8 (byN n 4 : Nat), Value.int .u8 (byN n 5 : Nat)] 25 (0, 0))) :
    (convert 23 9 (.slice (some ⟨g, 0, none⟩) 6 6)).run Try.prog W = .ok (.string (str (sixL n))) W := by
  have hR : RowA W (some ⟨g, 0, none⟩) (u8s (sixL n)) := by
    intro _
    refine ⟨_, _, rfl, fun j u hj => ?_⟩
    rw [Nat.zero_add, (heap_cell h j).1, ← hj]
    exact Array.getElem?_toList.symm
  exact conv_row hR 6
theorem lt_of_get {w : World} {g : Nat} {o : Obj} (h : w.heap[g]? = some o) : g < w.heap.size := by
  rcases Nat.lt_or_ge g w.heap.size with h1 | h1
  · exact h1
  · rw [Array.getElem?_eq_none h1] at h; cases h
theorem heap_keep {w W : World} {g : Nat} {o : Obj} (h : w.heap[g]? = some o) (hb : Below w.heap.size w W) : W.heap[g]? = some o := (hb.block g (lt_of_get h)).trans h
theorem heap_old (w : World) (o o' : Obj) (g : Nat) (h : w.heap[g]? = some o) : (w.alloc o').heap[g]? = some o := heap_keep h (below_alloc (Below.refl _ _) _)
set_option maxHeartbeats 4000000 in
theorem order_any (a b : Nat) (ha : a < 18446744073709551616) (hb : b < 18446744073709551616) (w : World) : Calls Try.prog 6 #[.int .u64 a, .int .u64 b] w fun e w' => e = .returned (.bool true) ∧ Below w.heap.size w w' := by
  have WK := hide (fun W => wakes_any W)
  have HA : Hid (Below w.heap.size w w) := Below.refl _ _
  obtain ⟨n, hn⟩ : ∃ n, n = a % 281474976710656 := ⟨_, rfl⟩
  obtain ⟨m, hm⟩ : ∃ n, n = b % 281474976710656 := ⟨_, rfl⟩
  have hn' : (a : Int) % 281474976710656 = (n : Int) := by omega
  have hm' : (b : Int) % 281474976710656 = (m : Int) := by omega
  have hnl : n < 281474976710656 := by omega
  have hml : m < 281474976710656 := by omega
  have BN := hide (fun W => bytes_any n W)
  have BM := hide (fun W => bytes_any m W)
  rw [show lay n 6 = #[Value.int .u8 (byN n 0 : Nat), Value.int .u8 (byN n 1 : Nat), Value.int .u8 (byN n 2 : Nat), Value.int .u8 (byN n 3 : Nat), Value.int .u8 (byN n 4 : Nat), Value.int .u8 (byN n 5 : Nat)] from rfl] at BN
  rw [show lay m 6 = #[Value.int .u8 (byN m 0 : Nat), Value.int .u8 (byN m 1 : Nat), Value.int .u8 (byN m 2 : Nat), Value.int .u8 (byN m 3 : Nat), Value.int .u8 (byN m 4 : Nat), Value.int .u8 (byN m 5 : Nat)] from rfl] at BM
  have TN := hide (fun W => text_any n (by omega) W)
  have TM := hide (fun W => text_any m (by omega) W)
  clear hn hm
  go_enter Try.func6, Try.ntmps6
  go_upto_region 3 with (first
    | (go_at_call 8; with_reducible refine (unhide BN _).mono ?_; rintro e wn ⟨rfl, hbn⟩; (first | have HA := hide (below_then (unhide HA) hbn) | have HA := hide (below_then (below_alloc (unhide HA) _) hbn)); clear hbn)
    | (go_at_call 8; with_reducible refine (unhide BM _).mono ?_; rintro e wn ⟨rfl, hbn⟩; (first | have HA := hide (below_then (unhide HA) hbn) | have HA := hide (below_then (below_alloc (unhide HA) _) hbn)); clear hbn))
  have HX := hide (heap_old _ _ (.cells #[Value.int .u8 (byN m 0 : Nat), Value.int .u8 (byN m 1 : Nat), Value.int .u8 (byN m 2 : Nat), Value.int .u8 (byN m 3 : Nat), Value.int .u8 (byN m 4 : Nat), Value.int .u8 (byN m 5 : Nat)] 25) _ (heap_alloc_new wn (.cells #[Value.int .u8 (byN n 0 : Nat), Value.int .u8 (byN n 1 : Nat), Value.int .u8 (byN n 2 : Nat), Value.int .u8 (byN n 3 : Nat), Value.int .u8 (byN n 4 : Nat), Value.int .u8 (byN n 5 : Nat)] 25)))
  have HY := hide (heap_alloc_new (wn.alloc (.cells #[Value.int .u8 (byN n 0 : Nat), Value.int .u8 (byN n 1 : Nat), Value.int .u8 (byN n 2 : Nat), Value.int .u8 (byN n 3 : Nat), Value.int .u8 (byN n 4 : Nat), Value.int .u8 (byN n 5 : Nat)] 25)) (.cells #[Value.int .u8 (byN m 0 : Nat), Value.int .u8 (byN m 1 : Nat), Value.int .u8 (byN m 2 : Nat), Value.int .u8 (byN m 3 : Nat), Value.int .u8 (byN m 4 : Nat), Value.int .u8 (byN m 5 : Nat)] 25))
  rw [show (wn.alloc (.cells #[Value.int .u8 (byN n 0 : Nat), Value.int .u8 (byN n 1 : Nat), Value.int .u8 (byN n 2 : Nat), Value.int .u8 (byN n 3 : Nat), Value.int .u8 (byN n 4 : Nat), Value.int .u8 (byN n 5 : Nat)] 25)).heap.size = wn.heap.size + 1 from by simp] at HY
  have HA2 : Hid (Below w.heap.size w ((wn.alloc (.cells #[Value.int .u8 (byN n 0 : Nat), Value.int .u8 (byN n 1 : Nat), Value.int .u8 (byN n 2 : Nat), Value.int .u8 (byN n 3 : Nat), Value.int .u8 (byN n 4 : Nat), Value.int .u8 (byN n 5 : Nat)] 25)).alloc (.cells #[Value.int .u8 (byN m 0 : Nat), Value.int .u8 (byN m 1 : Nat), Value.int .u8 (byN m 2 : Nat), Value.int .u8 (byN m 3 : Nat), Value.int .u8 (byN m 4 : Nat), Value.int .u8 (byN m 5 : Nat)] 25))) := below_alloc (below_alloc (unhide HA) _) _
  generalize ((wn.alloc (.cells #[Value.int .u8 (byN n 0 : Nat), Value.int .u8 (byN n 1 : Nat), Value.int .u8 (byN n 2 : Nat), Value.int .u8 (byN n 3 : Nat), Value.int .u8 (byN n 4 : Nat), Value.int .u8 (byN n 5 : Nat)] 25)).alloc (.cells #[Value.int .u8 (byN m 0 : Nat), Value.int .u8 (byN m 1 : Nat), Value.int .u8 (byN m 2 : Nat), Value.int .u8 (byN m 3 : Nat), Value.int .u8 (byN m 4 : Nat), Value.int .u8 (byN m 5 : Nat)] 25)) = wB at *
  have HK := hide (fun (W : World) (hW : Below wB.heap.size wB W) => (⟨hW, conv_six n W _ (heap_keep (unhide HX) hW), conv_six m W _ (heap_keep (unhide HY) hW)⟩ : Below wB.heap.size wB W ∧ (convert 23 9 (.slice (some ⟨wn.heap.size, 0, none⟩) 6 6)).run Try.prog W = .ok (.string (str (sixL n))) W ∧ (convert 23 9 (.slice (some ⟨wn.heap.size + 1, 0, none⟩) 6 6)).run Try.prog W = .ok (.string (str (sixL m))) W))
  have hl1 := less_txt n m hnl hml
  have hl2 := less_six n m hnl hml
  have hl3 : decide ((n : Int) < (m : Int)) = decide (n < m) := by simp
  clear hnl hml hn' hm' HX HY BN BM
  generalize str (txt n) = t1 at *
  generalize str (txt m) = t2 at *
  generalize str (sixL n) = s1 at *
  generalize str (sixL m) = s2 at *
  generalize wn.heap.size = g at *
  by_cases hlt : n < m
  · have hi : (n : Int) < (m : Int) := by omega
    rw [decide_eq_true hlt] at hl1 hl2
    clear hl3 hlt
    go_region_held3 (fun W => Below wB.heap.size wB W ∧ (convert 23 9 (.slice (some ⟨g, 0, none⟩) 6 6)).run Try.prog W = .ok (.string s1) W ∧ (convert 23 9 (.slice (some ⟨g + 1, 0, none⟩) 6 6)).run Try.prog W = .ok (.string s2) W)
      ((go_split_ands; refine unhide HK _ ?_; (repeat (first | (with_reducible assumption) | exact Below.refl _ _ | (with_reducible refine Below.drew ?_) | (with_reducible refine below_drewN ?_ _) | (with_reducible refine below_then ?_ (by with_reducible assumption)) | (with_reducible refine below_alloc ?_ _)))))
      (first | (go_at_call 21; with_reducible refine (unhide TN _).mono ?_; rintro e wc ⟨rfl, hbc⟩; have hbd := below_then (by (repeat (first | (with_reducible assumption) | exact Below.refl _ _ | (with_reducible refine Below.drew ?_) | (with_reducible refine below_drewN ?_ _)))  : Below wB.heap.size wB _) hbc; clear hbc) | (go_at_call 21; with_reducible refine (unhide TM _).mono ?_; rintro e wc ⟨rfl, hbc⟩; have hbd := below_then (by (repeat (first | (with_reducible assumption) | exact Below.refl _ _ | (with_reducible refine Below.drew ?_) | (with_reducible refine below_drewN ?_ _)))  : Below wB.heap.size wB _) hbc; clear hbc) | (go_at_call 7; with_reducible refine (unhide WK _).mono ?_; rintro e wc ⟨rfl, hbc⟩; have hbd := below_then (by (repeat (first | (with_reducible assumption) | exact Below.refl _ _ | (with_reducible refine Below.drew ?_) | (with_reducible refine below_drewN ?_ _)))  : Below wB.heap.size wB _) hbc; clear hbc))
    all_goals
      go_wp2
      go_ret
      exact ⟨rfl, below_then (unhide HA2) (by assumption)⟩
  · have hi : ¬ ((n : Int) < (m : Int)) := by omega
    rw [decide_eq_false hlt] at hl1 hl2
    clear hl3
    go_region_held3 (fun W => Below wB.heap.size wB W ∧ (convert 23 9 (.slice (some ⟨g, 0, none⟩) 6 6)).run Try.prog W = .ok (.string s1) W ∧ (convert 23 9 (.slice (some ⟨g + 1, 0, none⟩) 6 6)).run Try.prog W = .ok (.string s2) W)
      ((go_split_ands; refine unhide HK _ ?_; (repeat (first | (with_reducible assumption) | exact Below.refl _ _ | (with_reducible refine Below.drew ?_) | (with_reducible refine below_drewN ?_ _) | (with_reducible refine below_then ?_ (by with_reducible assumption)) | (with_reducible refine below_alloc ?_ _)))))
      (first | (go_at_call 21; with_reducible refine (unhide TN _).mono ?_; rintro e wc ⟨rfl, hbc⟩; have hbd := below_then (by (repeat (first | (with_reducible assumption) | exact Below.refl _ _ | (with_reducible refine Below.drew ?_) | (with_reducible refine below_drewN ?_ _)))  : Below wB.heap.size wB _) hbc; clear hbc) | (go_at_call 21; with_reducible refine (unhide TM _).mono ?_; rintro e wc ⟨rfl, hbc⟩; have hbd := below_then (by (repeat (first | (with_reducible assumption) | exact Below.refl _ _ | (with_reducible refine Below.drew ?_) | (with_reducible refine below_drewN ?_ _)))  : Below wB.heap.size wB _) hbc; clear hbc) | (go_at_call 7; with_reducible refine (unhide WK _).mono ?_; rintro e wc ⟨rfl, hbc⟩; have hbd := below_then (by (repeat (first | (with_reducible assumption) | exact Below.refl _ _ | (with_reducible refine Below.drew ?_) | (with_reducible refine below_drewN ?_ _)))  : Below wB.heap.size wB _) hbc; clear hbc))
    all_goals
      go_wp2
      go_ret
      exact ⟨ret_bool (by first | rfl | simp [hlt]), below_then (unhide HA2) (by assumption)⟩
end Go.Proofs.Ytlnffmppkkkhjaa
