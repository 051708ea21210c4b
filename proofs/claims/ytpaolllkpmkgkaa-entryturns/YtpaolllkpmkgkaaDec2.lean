/- Contracts: pieces put together. -/
import Derived.Test.YtpaolllkpmkgkaaDec
namespace Go.Proofs.Ytpaolllkpmkgkaa
open Go.RowKit
set_option linter.unusedVariables false
set_option maxRecDepth 4000

def joinK (S : List Sct) (k : Nat) : List Int := joinL (S.take k)
theorem joinK_len (S : List Sct) (k : Nat) (h : k ≤ S.length) : (joinK S k).length = 63 * k := by unfold joinK; rw [joinL_len, List.length_take]; omega
theorem joinK_succ (S : List Sct) (k : Nat) (s : Sct) (h : S[k]? = some s) : joinK S (k + 1) = joinK S k ++ tail s := by
  unfold joinK
  have hk : k < S.length := (List.getElem?_eq_some_iff.1 h).1
  rw [List.take_succ_eq_append_getElem hk, joinL_snoc]
  rw [List.getElem?_eq_getElem hk] at h
  rw [Option.some.inj h]
theorem joinK_all (S : List Sct) : joinK S S.length = joinL S := by unfold joinK; rw [List.take_length]

set_option maxHeartbeats 1000000 in
theorem join_any (A : Option Addr) (S : List Sct) (cap : Nat) (w : World) (hA : ScsA w A S) (h1 : 0 < S.length) (hl : S.length ≤ 1000) :
    Calls Try.prog 45 #[.slice A S.length cap] w fun x w' => Below w.heap.size w w' ∧
      ((Marks S ∧ ∃ g c, x = .returned (.tuple #[.slice (some ⟨g, 0, none⟩) (joinL S).length c, .bool true]) ∧ w'.ownsRow w.heap.size 5 1 (.slice (some ⟨g, 0, none⟩) (joinL S).length c) (joinL S).length ((joinL S).map (Value.int .u8))) ∨
        (¬ Marks S ∧ x = .returned (.tuple #[.slice none 0 0, .bool false]))) := by
  obtain ⟨i5, hi5, hz0, hz1, hz2⟩ := info_parts Try.info5
  obtain ⟨b, off, rfl, hr⟩ := hA.range (k := 0) h1
  have hblt : b < w.heap.size := by
    have := hr 0 S[0] (List.getElem?_eq_getElem h1)
    exact World.block_lt_of_cell? _ _ (this 0 _ (bytes_get _ 0 (by omega)))
  have HR := hide hr
  clear hr hA
  go_enter Try.func45, Try.ntmps45
  go_wp2_with (at_make; refine wpList_make_own _ rfl _ _ 23 rfl w.heap.size 5 i5 (.int .u8 0) 1 Try.underlying23 hi5 hz0 hz1 _ _ _ (63 * S.length) rfl rfl ?_ ?_ ?_ (Nat.le_refl _) ?_; (focus (first | omega | (simp; omega))); (focus (rw [hz2]; omega)); (focus (exact maxLen_ge _ (by omega))); intro w1 hown hgrow)
  have hb1 : Below w.heap.size w w1 := (Below.refl _ _).grown hgrow (Nat.le_refl _) (fun k e => by cases e)
  have HO := hide hown
  clear hown hgrow
  go_loopw [4, 12] (fun v i wr => ∃ k : Nat, k ≤ S.length ∧ i = .int .i64 k ∧ Below w.heap.size w wr ∧ wr.ownsRow w.heap.size 5 1 v (joinK S k).length ((joinK S k).map (Value.int .u8)) ∧ ∀ j s, j < k → S[j]? = some s → s.1.getD 0 0 = markI j) (fun _ i _ => S.length - (intOf i).toNat)
  case atStart => exact ⟨0, Nat.zero_le _, rfl, hb1, unhide HO, fun j s h => by omega⟩
  case round =>
    obtain ⟨k, hk, rfl, hbel, hown, hmk⟩ := hrel
    obtain ⟨A', cA, rfl, hbys, hcA⟩ := own_bys hown
    have HOW := hide hown
    have HMK := hide hmk
    clear hown hbys hmk HO
    by_cases hlt : k < S.length
    · obtain ⟨s, hs⟩ : ∃ s, S[k]? = some s := ⟨S[k], List.getElem?_eq_getElem hlt⟩
      have hrk := (unhide HR) k s hs
      have hck : wr.cell? ⟨b, off + k * 64, none⟩ = some (.int .u8 (s.1.getD 0 0)) := by
        have := secs_cell hrk 0 (by omega)
        rw [Nat.add_zero] at this
        rw [hbel.cell (p := ⟨b, off + k * 64, none⟩) hblt]; exact this
      have HT := hide (fun (W : World) (hW : Below w.heap.size w W) => bysA_below (tail_bys hrk) hW)
      obtain ⟨x1, x2⟩ := sct_byte s 0 (by omega)
      obtain ⟨m1, m2⟩ := markI_lim k
      have HSK := hide hs
      have HJ := hide (joinK_succ S k s hs)
      have HJL := hide (joinK_len S k hk)
      have hlt' : (k : Int) < (S.length : Int) := by omega
      have HTL := hide (tail_len s)
      have HM := hide (fun (n : Nat) => mark_any k (by omega) (wr.drewN n))
      by_cases hm : s.1.getD 0 0 = markI k
      · have HME : Hid (∀ j s', j < k + 1 → S[j]? = some s' → s'.1.getD 0 0 = markI j) := fun j s' hj hs' => by
          by_cases e : j = k
          · subst e
            rw [hs] at hs'
            cases hs'
            exact hm
          · exact unhide HMK j s' (by omega) hs'
        generalize s.1.getD 0 0 = x at *
        generalize markI k = m at *
        obtain rfl := hm
        clear hrk hs
        go_wp2
        go_quiet (first | (go_at_call 60; exact Calls.quiet_of_same (unhide HM _)))
        have hbel2 := below_drewN hbel nq
        have HOW2 : Hid ((wr.drewN nq).ownsRow w.heap.size 5 1 (.slice A' (joinK S k).length cA) (joinK S k).length ((joinK S k).map (Value.int .u8))) := unhide HOW
        have HT2 := hide (unhide HT _ hbel2)
        generalize wr.drewN nq = wq at *
        go_wp2_with ((with_reducible refine wpList_appendB _ _ w.heap.size _ (joinK S k) (tail s) ?_ (unhide HOW2) (some ⟨b, off + k * 64 + 1, none⟩) 63 63 ?_ ?_ (unhide HT2) ?_ hbel2.size ?_); (focus rfl); (focus (exact (unhide HTL).symm)); (focus rfl); (focus (rw [unhide HJL, unhide HTL]; omega)); intro v2 w2 hown2 hg2)
        have hob := unhide HOW2
        have hbl : ∀ j, (Value.slice A' (joinK S k).length cA).ownBlock = some j → w.heap.size ≤ j := fun j hj => (own_block hob hj).1
        have hb2 : Below w.heap.size w w2 := hbel2.grown hg2 hbel2.size hbl
        rw [← unhide HJ] at hown2
        clear hob hbl hg2
        go_roundw
        case rel => exact ⟨k + 1, by omega, by go_num, hb2, hown2, unhide HME⟩
        case measure => simp [intOf]; omega
      · have HNM : Hid (¬ Marks S) := fun h => hm (h k s hs)
        have hm' : (s.1.getD 0 0 == markI k) = false := by simpa using hm
        generalize s.1.getD 0 0 = x at *
        generalize markI k = m at *
        clear hrk hs
        go_wp2
        go_quiet (first | (go_at_call 60; exact Calls.quiet_of_same (unhide HM _)))
        have hbel2 := below_drewN hbel nq
        generalize wr.drewN nq = wq at *
        go_wp2
        go_ret2
        exact ⟨hbel2, .inr ⟨unhide HNM, rfl⟩⟩
    · obtain rfl : k = S.length := by omega
      have HM : Hid (Marks S) := fun i s hs => unhide HMK i s (List.getElem?_eq_some_iff.1 hs).1 hs
      have HJL := joinK_len S S.length (Nat.le_refl _)
      obtain ⟨g, c, e1, _⟩ := own_bys1 (unhide HOW) (by omega)
      cases e1
      have HJA := hide (joinK_all S)
      clear HJL
      go_wp2
      go_ret2
      refine ⟨hbel, .inl ⟨unhide HM, g, cA, ?_⟩⟩
      rw [← unhide HJA]
      exact ⟨rfl, unhide HOW⟩
end Go.Proofs.Ytpaolllkpmkgkaa
