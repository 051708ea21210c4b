/- MacTells: the walk. -/
import Derived.Test.YtlnffmppkkkhjaaOrd
namespace Go.Proofs.Ytlnffmppkkkhjaa
open Go.RowKit
set_option linter.unusedVariables false
/-- keep.Bytes of a row and itself. -/
theorem kbytes_any (w : World) (A B : Option Addr) (c d : Nat) (xs : List Nat) (hA : RowA w A (u8s xs)) (hB : RowA w B (u8s xs)) :
    Calls Try.prog 19 #[.slice A xs.length c, .slice B xs.length d] w fun e w' => e = .returned (.bool true) ∧ w' = w := by
  have h1 := conv_row hA c
  have h2 := conv_row hB d
  go_enter Try.func19, Try.ntmps19
  go_wp2
  go_ret
  exact ⟨rfl, rfl⟩
theorem tells_no (a : Nat) (A : Option Addr) (l c : Nat) (s : ByteArray) (h : 100 < l ∨ 100 < s.size) (w : World) : Calls Try.prog 3 #[.int .u64 a, .slice A l c, .string s] w fun e w' => e = .returned (.bool true) ∧ Below w.heap.size w w' := by
  have WK := hide (fun W => wakes_any W)
  by_cases hl : 100 < l
  · have hl' : (100 : Int) < (l : Int) := by omega
    go_enter Try.func3, Try.ntmps3
    go_wp2_with (go_at_call 7; with_reducible refine (unhide WK _).mono ?_; rintro e w5 ⟨rfl, hb5⟩; have HB5 := hide hb5; clear hb5)
    go_ret
    exact ⟨rfl, unhide HB5⟩
  · have hl' : ¬ (100 : Int) < (l : Int) := by omega
    have hs' : (100 : Int) < (s.size : Int) := by omega
    go_enter Try.func3, Try.ntmps3
    go_wp2_with (go_at_call 7; with_reducible refine (unhide WK _).mono ?_; rintro e w5 ⟨rfl, hb5⟩; have HB5 := hide hb5; clear hb5)
    go_ret
    exact ⟨rfl, unhide HB5⟩
theorem own_row1 {w : World} {base : Nat} {v : Value} {n : Nat} {xs : List Value} (h : w.ownsRow base 5 1 v n xs) : ∃ A cap, v = .slice A n cap ∧ RowA w A xs := by
  rcases h.2 with ⟨rfl, rfl⟩ | ⟨g, cap, cur, rfl, hb, hg, hnc, hcm, hcs, htk⟩
  · refine ⟨none, 0, rfl, ?_⟩
    have := h.1
    rw [Nat.zero_mul] at this
    rw [List.length_eq_zero_iff.1 this]
    exact rowA_nil _ _
  · exact ⟨_, cap, rfl, Blk.row (e := 5) (cap := cap) ⟨cur, hg, by omega, by rw [h.1]; exact htk⟩⟩
theorem row6 {n : Nat} {W : World} {g : Nat} {t : TypeId} (h : W.heap[g]? = some (.cells (lay n 6) t (0, 0))) : RowA W (some ⟨g, 0, none⟩) (u8s (sixL n)) := by
  intro _
  refine ⟨_, _, rfl, fun j u hj => ?_⟩
  rw [Nat.zero_add, (heap_cell h j).1, ← hj]
  exact Array.getElem?_toList.symm
theorem kb6 (n : Nat) (W : World) (g N : Nat) (h1 : W.heap[g]? = some (.cells (lay n 6) 25 (0, 0))) (h2 : W.heap[N]? = some (.cells (lay n 6) 5 (0, 0))) :
    Calls Try.prog 19 #[.slice (some ⟨g, 0, none⟩) 6 6, .slice (some ⟨N, 0, none⟩) 6 6] W fun e w' => e = .returned (.bool true) ∧ w' = W :=
  kbytes_any W _ _ 6 6 (sixL n) (row6 h1) (row6 h2)
theorem rb6 (n : Nat) (W : World) : Calls Try.prog 20 #[.int .u64 n] W fun e w' => ∃ N, e = .returned (.slice (some ⟨N, 0, none⟩) 6 6) ∧ w'.heap[N]? = some (.cells (lay n 6) 5 (0, 0)) ∧ Below W.heap.size W w' :=
  (rbytes_any n W).mono fun e w' h => ⟨_, h.1, by rw [h.2]; exact heap_alloc_new _ _, by rw [h.2]; exact below_alloc (Below.refl _ _) _⟩
theorem own_lit0 (w : World) : (w.alloc (.cells #[] 5)).ownsRow w.heap.size 5 1 (.slice (some ⟨w.heap.size, 0, none⟩) 0 0) 0 [] :=
  ⟨rfl, .inr ⟨_, 0, #[], rfl, Nat.le_refl _, heap_alloc_new _ _, Nat.le_refl _, Nat.zero_le _, rfl, rfl⟩⟩
set_option maxHeartbeats 4000000 in
theorem tells_any (a : Nat) (ha : a < 18446744073709551616) (A : Option Addr) (c : Nat) (xs : List Nat) (hx : ∀ x ∈ xs, x < 256) (s : ByteArray) (w : World) (hA : RowA w A (u8s xs)) (hl : xs.length ≤ 100) (hs : s.size ≤ 100) :
    Calls Try.prog 3 #[.int .u64 a, .slice A xs.length c, .string s] w fun e w' => e = .returned (.bool true) ∧ Below w.heap.size w w' := by
  have WK := hide (fun W => wakes_any W)
  have HA : Hid (Below w.heap.size w w) := Below.refl _ _
  have hl' : ¬ (100 : Int) < (xs.length : Int) := by omega
  have hs' : ¬ (100 : Int) < (s.size : Int) := by omega
  have BY := hide (fun W => bytes_any a W)
  rw [show lay a 6 = #[Value.int .u8 (byN a 0 : Nat), Value.int .u8 (byN a 1 : Nat), Value.int .u8 (byN a 2 : Nat), Value.int .u8 (byN a 3 : Nat), Value.int .u8 (byN a 4 : Nat), Value.int .u8 (byN a 5 : Nat)] from rfl] at BY
  have PS := hide (fun W => parse_any s W)
  have RS := hide (fun W => rparse_any s W)
  have HR := hide (fun W (hW : Below w.heap.size w W) => rof_any W A c xs hx (rowA_below hA hW))
  obtain ⟨i0, hi, hz0, hz1, hz2⟩ := i5
  go_enter Try.func3, Try.ntmps3
  go_upto_region 4 with (first
    | (go_at_call 8; with_reducible refine (unhide BY _).mono ?_; rintro e wn ⟨rfl, hbn⟩; have HA := hide (below_then (unhide HA) hbn); clear hbn))
  have HX : Hid ((wn.alloc (.cells (lay a 6) 25)).heap[wn.heap.size]? = some (.cells (lay a 6) 25 (0, 0))) := heap_alloc_new _ _
  have HA4 : Hid (Below w.heap.size w (wn.alloc (.cells (lay a 6) 25))) := below_alloc (unhide HA) _
  rw [show #[Value.int .u8 (byN a 0 : Nat), Value.int .u8 (byN a 1 : Nat), Value.int .u8 (byN a 2 : Nat), Value.int .u8 (byN a 3 : Nat), Value.int .u8 (byN a 4 : Nat), Value.int .u8 (byN a 5 : Nat)] = lay a 6 from rfl]
  generalize (wn.alloc (.cells (lay a 6) 25)) = w4 at *
  generalize wn.heap.size = g at *
  clear HA BY
  go_upto_region 5 with (first
    | (at_builtin; refine wpList_append_row rfl _ _ 23 rfl w4.heap.size 5 i0 (.int .u8 0) 1 1 Try.underlying23 hi hz0 hz1 hz2 rfl (by decide) (by decide) _ 0 [] rfl (own_lit0 w4) A xs.length c (u8s xs) rfl (by simp [u8s]) (rowA_below hA (below_alloc (unhide HA4) _)) (by intro u hu; unfold u8s at hu; obtain ⟨x, _, rfl⟩ := List.mem_map.1 hu; rfl) (by omega) (by simp) ?_; intro v5 w5 h2 h3 _; obtain ⟨A5, c5, rfl, hr5⟩ := own_row1 h2; have HB5 := hide (below_base (below_alloc (Below.refl _ _) _ : Below w4.heap.size w4 _) h3 (fun k e => by cases e; exact Nat.le_refl _)); have HC := hide (of_any w5 A5 c5 xs hx hr5); clear h2 h3 hr5)
    | (go_at_call 9; (try rw [Nat.zero_add]); refine (unhide HC).mono ?_; rintro e w6 ⟨rfl, rfl⟩))
  have HA6 := hide (below_then (unhide HA4) (unhide HB5))
  have HC6 := hide (unhide HR _ (unhide HA6))
  clear HC
  go_upto_region 8 with (first
    | (go_at_call 10; with_reducible refine (unhide HC6).mono ?_; rintro e w7 ⟨rfl, rfl⟩)
    | (go_at_call 11; with_reducible refine (unhide PS _).mono ?_; rintro e w8 ⟨rfl, hb8⟩; have HB8 := hide hb8; clear hb8)
    | (go_at_call 12; with_reducible refine (unhide RS _).mono ?_; rintro e w9 ⟨rfl, hb9⟩; have HB9 := hide hb9; clear hb9))
  have HA9 := hide (below_then (unhide HA6) (below_then (unhide HB8) (unhide HB9)))
  have HX9 := hide (heap_keep (unhide HX) (below_then (unhide HB5) (below_then (unhide HB8) (unhide HB9))))
  have GA := hide (fun W => good_any a W)
  have GB := hide (fun W => rgood_any a W)
  have RA := hide (fun W => group_any a ha W)
  have RB := hide (fun W => rgroup_any a ha W)
  have KA := hide (fun W => kept_any a W)
  have KB := hide (fun W => rkept_any a W)
  have TA := hide (fun W => text_any a ha W)
  have TB := hide (fun W => rtext_any a ha W)
  have BB := hide (fun W => rb6 a W)
  have BK := hide (fun W g N h1 h2 => kb6 a W g N h1 h2)
  clear HX HB5 HB8 HB9 HA4 HA6 HC6 HR PS RS hA hx hl hs
  generalize ofN xs = o1 at *
  generalize prsN s = o2 at *
  generalize goodN a = b1 at *
  generalize groupN a = b2 at *
  generalize keptN a = b3 at *
  generalize str (txt a) = t1 at *
  go_region_held3 (fun W => Below w9.heap.size w9 W)
    ((repeat (first | (with_reducible assumption) | exact Below.refl _ _ | (with_reducible refine Below.drew ?_) | (with_reducible refine below_drewN ?_ _) | (with_reducible refine below_alloc ?_ _))))
    (first
      | (go_at_call 13; with_reducible refine (unhide GA _).mono ?_; rintro e wc ⟨rfl, rfl⟩)
      | (go_at_call 14; with_reducible refine (unhide GB _).mono ?_; rintro e wc ⟨rfl, rfl⟩)
      | (go_at_call 15; with_reducible refine (unhide RA _).mono ?_; rintro e wc ⟨rfl, rfl⟩)
      | (go_at_call 16; with_reducible refine (unhide RB _).mono ?_; rintro e wc ⟨rfl, rfl⟩)
      | (go_at_call 17; with_reducible refine (unhide KA _).mono ?_; rintro e wc ⟨rfl, rfl⟩)
      | (go_at_call 18; with_reducible refine (unhide KB _).mono ?_; rintro e wc ⟨rfl, rfl⟩)
      | (go_at_call 20; with_reducible refine (unhide BB _).mono ?_; rintro e wc ⟨N, rfl, hn, hbc⟩; have HN := hide hn; have hbd := below_then (by (repeat (first | (with_reducible assumption) | exact Below.refl _ _ | (with_reducible refine Below.drew ?_) | (with_reducible refine below_drewN ?_ _)))  : Below w9.heap.size w9 _) hbc; clear hbc hn)
      | (go_at_call 19; refine (unhide BK _ _ _ ?_ ?_).mono ?_; (focus (refine heap_keep (unhide HX9) ?_; (repeat (first | (with_reducible assumption) | exact Below.refl _ _ | (with_reducible refine Below.drew ?_) | (with_reducible refine below_drewN ?_ _))))); (focus exact unhide HN); rintro e wc ⟨rfl, rfl⟩)
      | (go_at_call 21; with_reducible refine (unhide TA _).mono ?_; rintro e wc ⟨rfl, hbc⟩; have hbd := below_then (by (repeat (first | (with_reducible assumption) | exact Below.refl _ _ | (with_reducible refine Below.drew ?_) | (with_reducible refine below_drewN ?_ _)))  : Below w9.heap.size w9 _) hbc; clear hbc)
      | (go_at_call 22; with_reducible refine (unhide TB _).mono ?_; rintro e wc ⟨rfl, hbc⟩; have hbd := below_then (by (repeat (first | (with_reducible assumption) | exact Below.refl _ _ | (with_reducible refine Below.drew ?_) | (with_reducible refine below_drewN ?_ _)))  : Below w9.heap.size w9 _) hbc; clear hbc)
      | (go_at_call 7; with_reducible refine (unhide WK _).mono ?_; rintro e wc ⟨rfl, hbc⟩; have hbd := below_then (by (repeat (first | (with_reducible assumption) | exact Below.refl _ _ | (with_reducible refine Below.drew ?_) | (with_reducible refine below_drewN ?_ _)))  : Below w9.heap.size w9 _) hbc; clear hbc))
  all_goals
    go_wp2
    go_ret
    exact ⟨rfl, below_then (unhide HA9) (by assumption)⟩
end Go.Proofs.Ytlnffmppkkkhjaa
