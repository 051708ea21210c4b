/- Contract of sectors: what is read of a place. -/
import Derived.Test.YtfceileohkngnaaJneed
namespace Go.Proofs.Ytfceileohkngnaa
open Go.RowKit
set_option linter.unusedVariables false
set_option maxRecDepth 4000

theorem secs_scs {w : World} {g : Nat} {S : List Sct} (h : SecsAt w 75 g S) : ScsA w (some ⟨g, 0, none⟩) S := by
  intro _
  refine ⟨g, 0, rfl, fun j u hj => ?_⟩
  have hl : j < S.length * 64 := by have := (List.getElem?_eq_some_iff.1 hj).1; rwa [flatS_len] at this
  have hq : j / 64 < S.length := by omega
  have e : S[j / 64]? = some (S.getD (j / 64) zeroS) := by rw [List.getD_eq_getElem?_getD, List.getElem?_eq_getElem hq]; rfl
  have h1 := flatS_get S (j / 64) _ (j % 64) e (by omega)
  rw [show j / 64 * 64 + j % 64 = j by omega, hj] at h1
  have h2 := h.2 _ _ e (j % 64) u h1.symm
  rw [show j / 64 * 64 + j % 64 = j by omega] at h2
  rw [Nat.zero_add]; exact h2

/-- What has been read so far. -/
def fillS (D : List Sct) (k : Nat) : List Sct := D.take k ++ List.replicate (D.length - k) zeroS
theorem fillS_len (D : List Sct) (k : Nat) (h : k ≤ D.length) : (fillS D k).length = D.length := by unfold fillS; rw [List.length_append, List.length_take, List.length_replicate]; omega
theorem fillS_zero (D : List Sct) : fillS D 0 = List.replicate D.length zeroS := rfl
theorem fillS_all (D : List Sct) : fillS D D.length = D := by unfold fillS; rw [Nat.sub_self, List.take_length]; simp
theorem fillS_set (D : List Sct) (k : Nat) (h : k < D.length) : (fillS D k).set k (D.getD k zeroS) = fillS D (k + 1) := by
  unfold fillS
  refine List.ext_getElem? (fun i => ?_)
  rw [List.getElem?_set]
  have e : D[k]? = some (D.getD k zeroS) := by rw [List.getD_eq_getElem?_getD, List.getElem?_eq_getElem h]; rfl
  by_cases hi : k = i
  · subst hi
    rw [if_pos rfl, if_pos (by rw [List.length_append, List.length_take, List.length_replicate]; omega), List.getElem?_append_left (by rw [List.length_take]; omega), List.getElem?_take, if_pos (by omega), e]
  · rw [if_neg hi]
    by_cases hlt : i < k
    · rw [List.getElem?_append_left (by rw [List.length_take]; omega), List.getElem?_append_left (by rw [List.length_take]; omega), List.getElem?_take, List.getElem?_take, if_pos hlt, if_pos (by omega)]
    · rw [List.getElem?_append_right (by rw [List.length_take]; omega), List.getElem?_append_right (by rw [List.length_take]; omega), List.length_take, List.length_take, Nat.min_eq_left (by omega), Nat.min_eq_left (by omega), List.getElem?_replicate, List.getElem?_replicate]
      by_cases h2 : i < D.length
      · rw [if_pos (by omega), if_pos (by omega)]
      · rw [if_neg (by omega), if_neg (by omega)]

set_option maxHeartbeats 1000000 in
theorem sectors_any {base g gs : Nat} {S : List Sct} (w : World) (h : Dsk 102 120 w base g gs S []) (fr tt n : Nat) (D : List Sct) (hD : D = (S.drop fr).take n) (hn : fr + n ≤ S.length) :
    Calls Try.prog 67 #[.agg #[.pointer (some ⟨g, 0, none⟩), .int .i64 fr, .int .i64 tt], .int .i64 ((fr + n : Nat) : Int)] w fun e w' => ∃ q, e = .returned (.slice (some ⟨q, 0, none⟩) n n) ∧ ScsA w' (some ⟨q, 0, none⟩) D ∧ Below w.heap.size w w' := by
  obtain ⟨i36, hi36, hz0, hz1, hz2⟩ := info_parts Try.info75
  obtain ⟨i', hi', hz36⟩ := Try.zero75
  obtain rfl : i' = i36 := by rw [hi36] at hi'; exact (Option.some.inj hi').symm
  clear hi' hz0
  have hS : S.length ≤ 4096 := by obtain ⟨_, _, _, _, _, _, _, h'⟩ := h; exact h'
  have hDl : D.length = n := by rw [hD, List.length_take, List.length_drop]; omega
  have HDG : Hid (∀ k, k < n → D.getD k zeroS = S.getD (fr + k) zeroS) := fun k hk => by
    rw [hD, List.getD_eq_getElem?_getD, List.getElem?_take, if_pos hk, List.getElem?_drop, ← List.getD_eq_getElem?_getD]
  clear hD
  subst hDl
  have HD := hide h
  have hsub : (fr : Int) + (D.length : Int) - (fr : Int) = (D.length : Int) := by omega
  have hcast : ((fr + D.length : Nat) : Int) = (fr : Int) + (D.length : Int) := by omega
  have hb0 : Below w.heap.size w (w.alloc (.cells #[.pointer (some ⟨g, 0, none⟩), .int .i64 fr, .int .i64 tt] 104)) := below_alloc (Below.refl _ _) _
  have hn0 := heap_alloc_last w (.cells #[.pointer (some ⟨g, 0, none⟩), .int .i64 fr, .int .i64 tt] 104)
  have HB0 := hide hb0
  have HN0 := hide hn0
  have hz : (w.alloc (.cells #[.pointer (some ⟨g, 0, none⟩), .int .i64 fr, .int .i64 tt] 104)).heap.size = w.heap.size + 1 := by simp
  rw [hcast]
  clear hb0 hn0 h hcast
  go_enter Try.func67, Try.ntmps67
  go_wp2_with (first
    | (at_make; refine wpList_make_full _ rfl _ _ 26 rfl (w.heap.size + 1) 75 i' (sv zeroS) 64 Try.underlying26 hi36 hz36 hz1 _ _ _ _ D.length rfl rfl rfl rfl (by rw [hz2]; omega) (maxLen_ge _ (by omega)) ?_ ?_; (focus (rw [hz]; exact Nat.le_refl _)); intro w1 hown hgrow))
  have hb1 : Below w.heap.size w w1 := (unhide HB0).grown hgrow (by omega) (fun k e => by cases e)
  have hn1 : w1.heap[w.heap.size]? = _ := (hgrow.block w.heap.size (by rw [hz]; omega) (by simp)).trans (unhide HN0)
  rw [hz] at hown
  have hs1 := secs_made hown
  rw [← fillS_zero] at hs1
  clear hgrow HB0 HN0 hown hz hsub
  go_loopw [14] (fun i wr => ∃ k : Nat, k ≤ D.length ∧ i = .int .i64 k ∧ Below w.heap.size w wr ∧ SecsAt wr 75 (w.heap.size + 1) (fillS D k) ∧ wr.heap[w.heap.size]? = some (.cells #[.pointer (some ⟨g, 0, none⟩), .int .i64 fr, .int .i64 tt] 104 (0, 0))) (fun i _ => D.length - (intOf i).toNat)
  case atStart => exact ⟨0, Nat.zero_le _, rfl, hb1, hs1, hn1⟩
  case round =>
    obtain ⟨k, hk, rfl, hbel, hsec, hbox⟩ := hrel
    have hkl := fillS_len D k hk
    clear hb1 hs1 hn1
    by_cases hlt : k < D.length
    · have x0 := (heap_cell hbox 0).1
      have x1 := (heap_cell hbox 1).1
      have HR : Hid (Calls Try.prog 33 #[.pointer (some ⟨g, 0, none⟩), .int .i64 ((fr : Int) + (k : Int))] wr fun e w' => e = .returned (.tuple #[sv (D.getD k zeroS), .int .i64 0]) ∧ Below wr.heap.size wr w') := by
        have := read_yes wr ((unhide HD).below hbel) (fr + k) (by omega) (by simp)
        rw [readS_nil, ← unhide HDG k hlt] at this
        rw [show ((fr + k : Nat) : Int) = (fr : Int) + (k : Int) by omega] at this
        exact this
      have HSE := hide hsec
      have HBX := hide hbox
      have HST := hide (fillS_set D k hlt)
      have hlt' : (k : Int) < (D.length : Int) := by omega
      generalize D.getD k zeroS = d at *
      clear hsec hbox
      go_wp2_with (first
        | (go_at_call 33; (with_reducible refine (unhide HR).mono ?_); rintro e w2 ⟨rfl, hb2⟩; have HS2 := hide ((unhide HSE).below hb2); have HB2 := hide (below_then hbel hb2); have HX2 := hide ((hb2.block _ (lt_of_get (unhide HBX))).trans (unhide HBX)); clear hb2)
        | ((with_reducible refine wpList_storeS Try.size75 _ _ (w.heap.size + 1) (k * 64) d ?_ ?_ ((unhide HS2).there (by omega)) ?_); (focus rfl); (focus rfl); intro w3 H3))
      have hs3 := (unhide HS2).set (i := k) (by omega) d
      rw [unhide HST, ← unhide H3] at hs3
      have hb3 := below_sets (unhide HB2) (w.heap.size + 1) (k * 64) (bytes d) (by omega)
      rw [← unhide H3] at hb3
      have hx3 : w3.heap[w.heap.size]? = some (.cells #[.pointer (some ⟨g, 0, none⟩), .int .i64 fr, .int .i64 tt] 104 (0, 0)) := by rw [unhide H3, heap_setCells_other _ _ _ _ _ (by omega)]; exact unhide HX2
      clear H3
      go_roundw
      case rel => exact ⟨k + 1, by omega, by go_num, hb3, hs3, hx3⟩
      case measure => simp [intOf]; omega
    · obtain rfl : k = D.length := by omega
      rw [fillS_all] at hsec
      go_wp2
      go_ret
      exact ⟨_, rfl, secs_scs hsec, hbel⟩
end Go.Proofs.Ytfceileohkngnaa
