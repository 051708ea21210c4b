/- Parse. -/
import Derived.Test.YtlnffmppkkkhjaaPrs
namespace Go.Proofs.Ytlnffmppkkkhjaa
open Go.RowKit
set_option linter.unusedVariables false
theorem heap_alloc_new (w : World) (o : Obj) : (w.alloc o).heap[w.heap.size]? = some o := by show (w.heap.push o)[w.heap.size]? = some o; simp
theorem heap_cell {w : World} {g : Nat} {c : Array Value} {t : TypeId} (h : w.heap[g]? = some (.cells c t (0, 0))) (i : Nat) : w.cell? ⟨g, i, none⟩ = c[i]? ∧ w.frozen? ⟨g, i, none⟩ = false := by
  refine ⟨by rw [cell_of_row w g i _ _ _ h], ?_⟩
  simp [World.frozen?, h]
theorem heap_set {w : World} {g : Nat} {c : Array Value} {t : TypeId} (h : w.heap[g]? = some (.cells c t (0, 0))) (i : Nat) (v : Value) : (w.setCell ⟨g, i, none⟩ v).heap[g]? = some (.cells (c.setIfInBounds i v) t (0, 0)) := by
  simp only [World.setCell, Array.getElem?_modify, if_true, h, Option.map_some]
  rfl
def celB (s : ByteArray) (k j : Nat) : Value := .int .u8 ((if j < k then bt s j else 0 : Nat) : Int)
def blay (s : ByteArray) (k : Nat) : Array Value := #[celB s k 0, celB s k 1, celB s k 2, celB s k 3, celB s k 4, celB s k 5]
theorem blay_get (s : ByteArray) (k j : Nat) (h : j < 6) : (blay s k)[j]? = some (celB s k j) := by
  have : j = 0 ∨ j = 1 ∨ j = 2 ∨ j = 3 ∨ j = 4 ∨ j = 5 := by omega
  rcases this with rfl | rfl | rfl | rfl | rfl | rfl <;> rfl
theorem celB_self (s : ByteArray) (k : Nat) : Value.int .u8 (bt s k : Nat) = celB s (k + 1) k := by unfold celB; rw [if_pos (by omega)]
theorem blay_set (s : ByteArray) (k : Nat) (h : k < 6) : (blay s k).setIfInBounds k (Value.int .u8 (bt s k : Nat)) = blay s (k + 1) := by
  rw [celB_self]
  have : k = 0 ∨ k = 1 ∨ k = 2 ∨ k = 3 ∨ k = 4 ∨ k = 5 := by omega
  rcases this with rfl | rfl | rfl | rfl | rfl | rfl <;> rfl
theorem blay_row {w : World} {g : Nat} {s : ByteArray} (h : w.heap[g]? = some (.cells (blay s 6) 25 (0, 0))) : RowA w (some ⟨g, 0, none⟩) (u8s (bts s)) := by
  intro _
  refine ⟨_, _, rfl, fun j u hj => ?_⟩
  rw [Nat.zero_add, (heap_cell h j).1]
  rw [← hj]
  rw [show u8s (bts s) = (blay s 6).toList from rfl, Array.getElem?_toList]
theorem find_any (c : Nat) (hc : c < 256) (w : World) : Calls Try.prog 23 #[.string { data := #[48, 49, 50, 51, 52, 53, 54, 55, 56, 57, 97, 98, 99, 100, 101, 102] }, .int .u8 c] w fun e w' => e = .returned (.int .i64 (dgI c)) ∧ w' = w :=
  (index_any _ (c : Int) w).mono fun e w' h => by rw [← first_dg c hc]; exact h
theorem or16 (a b : Nat) (ha : a < 16) (hb : b < 16) : IntKind.u8.wrap (bits .or .i64 ((a : Int) * 16) (b : Int)) = ((a * 16 + b : Nat) : Int) := by
  have h1 := bits_or8 (a * 16) b (by omega) (by omega)
  have h2 := shl_or a b 4 (by omega)
  rw [show (2 : Nat) ^ 4 = 16 from rfl] at h2
  rw [h2] at h1
  rw [show ((a : Int) * 16) = ((a * 16 : Nat) : Int) from by simp, h1, IntKind.wrap_u8]
  omega

set_option maxHeartbeats 4000000 in
theorem parse_any (s : ByteArray) (w : World) : Calls Try.prog 11 #[.string s] w fun e w' => e = .returned (.tuple #[.int .u64 (prsN s).1, .int .i64 (prsN s).2]) ∧ Below w.heap.size w w' := by
  by_cases h17 : s.size = 17
  · have HOF := hide (fun (W : World) (hW : W.heap[w.heap.size]? = some (.cells (blay s 6) 25 (0, 0))) (h : okS s) => of_any W (some ⟨w.heap.size, 0, none⟩) 6 (bts s) (bts_lt s (ok_hex s h)).1 (blay_row hW))
    have HNO := hide (fun h : ¬ okS s => prs_no s h)
    have HOK := hide (fun h : okS s => prs_ok s h)
    go_enter Try.func11, Try.ntmps11
    go_wp2
    go_loopw [5, 6, 7, 8, 12] (fun _ _ _ _ i W => ∃ k : Nat, k ≤ 6 ∧ i = .int .i64 k ∧ (∀ j, j < 3 * k - 1 → (j % 3 = 2 → cN s j = 58) ∧ (j % 3 ≠ 2 → dg (cN s j) < 16)) ∧ W.heap[w.heap.size]? = some (.cells (blay s k) 25 (0, 0)) ∧ Below w.heap.size w W) (fun _ _ _ _ i _ => (6 - intOf i).toNat)
    case atStart => exact ⟨0, by omega, rfl, by omega, heap_alloc_new _ _, below_alloc (Below.refl _ _) _⟩
    case round =>
      obtain ⟨k, hk, rfl, hj, hg, hb⟩ := hrel
      have HJ := hide hj
      have HG := hide hg
      have HB := hide hb
      by_cases hk6 : k < 6
      · obtain ⟨m0, l0⟩ := heap_cell hg k
        rw [blay_get s k k hk6] at m0
        have hsz : 3 * k + 1 < s.size := by omega
        have i0 := fun (h0 : 0 < k) => sidx s (3 * k - 1) (by omega) (3 * (k : Int) - 1) (by omega) (by omega)
        have i1 := sidx s (3 * k) (by omega) (3 * (k : Int)) (by omega) (by omega)
        have i2 := sidx s (3 * k + 1) (by omega) (3 * (k : Int) + 1) (by omega) (by omega)
        have b1 := cN_lt s (3 * k)
        have b2 := cN_lt s (3 * k + 1)
        have HF1 := hide (fun W => find_any (cN s (3 * k)) b1 W)
        have HF2 := hide (fun W => find_any (cN s (3 * k + 1)) b2 W)
        clear hj hg hb
        by_cases hA : 0 < k → cN s (3 * k - 1) = 58
        · have hbad : ∀ j, j < 17 → j % 3 ≠ 2 → ¬ dg (cN s j) < 16 → prsN s = (0, 11) := fun j h1 h2 h3 => unhide HNO fun h => h3 ((h.2 j h1).2 h2)
          by_cases hB : dg (cN s (3 * k)) < 16
          · by_cases hC : dg (cN s (3 * k + 1)) < 16
            · have hd1 : dgI (cN s (3 * k)) = (dg (cN s (3 * k)) : Int) := if_pos hB
              have hd2 : dgI (cN s (3 * k + 1)) = (dg (cN s (3 * k + 1)) : Int) := if_pos hC
              have ho := or16 _ _ hB hC
              rw [show dg (cN s (3 * k)) * 16 + dg (cN s (3 * k + 1)) = bt s k from rfl] at ho
              rw [hd1] at HF1
              rw [hd2] at HF2
              have HR := hide (fun q => heap_set (w := wr.drewN q) (unhide HG) k (.int .u8 (bt s k : Nat)))
              have HS := hide (blay_set s k hk6)
              have HN : Hid (∀ j, j < 3 * (k + 1) - 1 → (j % 3 = 2 → cN s j = 58) ∧ (j % 3 ≠ 2 → dg (cN s j) < 16)) := by
                intro j hj
                by_cases h1 : j < 3 * k - 1
                · exact unhide HJ j h1
                · have : (j = 3 * k - 1 ∧ 0 < k) ∨ j = 3 * k ∨ j = 3 * k + 1 := by omega
                  rcases this with ⟨rfl, h⟩ | rfl | rfl
                  · exact ⟨fun _ => hA h, fun h => by omega⟩
                  · exact ⟨fun h => by omega, fun _ => hB⟩
                  · exact ⟨fun h => by omega, fun _ => hC⟩
              clear hd1 hd2 hbad
              generalize dg (cN s (3 * k)) = e1 at *
              generalize dg (cN s (3 * k + 1)) = e2 at *
              by_cases hk0 : 0 < k
              · have i0 := i0 hk0
                have h58 : (cN s (3 * k - 1) : Int) = 58 := by have := hA hk0; omega
                clear hA
                go_wp2
                go_quiet ((first | (go_at_call 23; exact Calls.quiet_of_same (unhide HF1 _)) | (go_at_call 23; exact Calls.quiet_of_same (unhide HF2 _))))
                go_wp2
                go_roundw
                case rel => exact ⟨k + 1, by omega, by go_num, unhide HN, by rw [unhide HR, unhide HS], below_set (below_drewN (unhide HB) _) _ _ _ (by omega)⟩
                case measure => simp [intOf]; omega
              · have hk0' : ¬ (0 < (k : Int)) := by omega
                clear hA i0
                go_wp2
                go_quiet ((first | (go_at_call 23; exact Calls.quiet_of_same (unhide HF1 _)) | (go_at_call 23; exact Calls.quiet_of_same (unhide HF2 _))))
                go_wp2
                go_roundw
                case rel => exact ⟨k + 1, by omega, by go_num, unhide HN, by rw [unhide HR, unhide HS], below_set (below_drewN (unhide HB) _) _ _ _ (by omega)⟩
                case measure => simp [intOf]; omega
            · have hd1 : dgI (cN s (3 * k)) = (dg (cN s (3 * k)) : Int) := if_pos hB
              have hd2 : dgI (cN s (3 * k + 1)) = -1 := if_neg hC
              rw [hd1] at HF1
              rw [hd2] at HF2
              have HP := hide (hbad _ (by omega) (by omega) hC)
              clear hd1 hd2 hbad hC
              generalize dg (cN s (3 * k)) = e1 at *
              by_cases hk0 : 0 < k
              · have i0 := i0 hk0
                have h58 : (cN s (3 * k - 1) : Int) = 58 := by have := hA hk0; omega
                clear hA
                go_wp2
                go_quiet ((first | (go_at_call 23; exact Calls.quiet_of_same (unhide HF1 _)) | (go_at_call 23; exact Calls.quiet_of_same (unhide HF2 _))))
                go_wp2
                go_ret2
                exact ⟨by rw [unhide HP]; rfl, below_drewN (unhide HB) _⟩
              · have hk0' : ¬ (0 < (k : Int)) := by omega
                clear hA i0
                go_wp2
                go_quiet ((first | (go_at_call 23; exact Calls.quiet_of_same (unhide HF1 _)) | (go_at_call 23; exact Calls.quiet_of_same (unhide HF2 _))))
                go_wp2
                go_ret2
                exact ⟨by rw [unhide HP]; rfl, below_drewN (unhide HB) _⟩
          · have hd1 : dgI (cN s (3 * k)) = -1 := if_neg hB
            rw [hd1] at HF1
            have HP := hide (hbad _ (by omega) (by omega) hB)
            clear hd1 hbad hB
            generalize dgI (cN s (3 * k + 1)) = e2 at *
            by_cases hk0 : 0 < k
            · have i0 := i0 hk0
              have h58 : (cN s (3 * k - 1) : Int) = 58 := by have := hA hk0; omega
              clear hA
              go_wp2
              go_quiet ((first | (go_at_call 23; exact Calls.quiet_of_same (unhide HF1 _)) | (go_at_call 23; exact Calls.quiet_of_same (unhide HF2 _))))
              go_wp2
              go_ret2
              exact ⟨by rw [unhide HP]; rfl, below_drewN (unhide HB) _⟩
            · have hk0' : ¬ (0 < (k : Int)) := by omega
              clear hA i0
              go_wp2
              go_quiet ((first | (go_at_call 23; exact Calls.quiet_of_same (unhide HF1 _)) | (go_at_call 23; exact Calls.quiet_of_same (unhide HF2 _))))
              go_wp2
              go_ret2
              exact ⟨by rw [unhide HP]; rfl, below_drewN (unhide HB) _⟩
        · have hk0 : 0 < k := by omega
          have h58 : ¬ ((cN s (3 * k - 1) : Int) = 58) := by omega
          have i0 := i0 hk0
          have HP := hide (unhide HNO fun h => h58 (by have := (h.2 (3 * k - 1) (by omega)).1 (by omega); omega))
          go_wp2
          go_ret2
          exact ⟨by rw [unhide HP]; rfl, unhide HB⟩
      · obtain rfl : k = 6 := by omega
        have hok : okS s := ⟨h17, hj⟩
        have HP := hide (unhide HOK hok)
        have HC := unhide HOF wr hg hok
        rw [show ofN (bts s) = (fo (bts s), 0) from rfl] at HC
        clear hj hb hg
        go_wp2_with (go_at_call 9; refine HC.mono ?_; rintro e w' ⟨rfl, rfl⟩)
        go_ret2
        exact ⟨by rw [unhide HP]; rfl, unhide HB⟩
  · have e : prsN s = (0, 11) := prs_no s fun h => h17 h.1
    rw [e]
    clear e
    go_enter Try.func11, Try.ntmps11
    go_wp2
    go_ret2
    exact ⟨rfl, Below.refl _ _⟩
end Go.Proofs.Ytlnffmppkkkhjaa
