/- Lists: two alike. -/
import Derived.Test.YtpaolllkpmkgkabJlaw
namespace Go.Proofs.Ytpaolllkpmkgkab
open Go.RowKit
set_option linter.unusedVariables false
set_option maxRecDepth 4000

set_option maxHeartbeats 1000000 in
theorem lists_same (A B : Option Addr) (pss : List (List Int)) (n c d : Nat) (w : World) (hn : n = pss.length) (hA : PartsA w A pss) (hB : PartsA w B pss) (hl : pss.length ≤ 100000) :
    Calls Try.prog 10 #[.slice A n c, .slice B n d] w fun e w' => e = .returned (.bool true) ∧ Below w.heap.size w w' := by
  subst hn
  have HA := hide hA
  have HB := hide hB
  clear hA hB
  go_enter Try.func10, Try.ntmps10
  go_wp2
  go_loopw [5] (fun i wr => ∃ k m : Nat, k ≤ pss.length ∧ i = .int .i64 k ∧ wr = w.drewN m) (fun i _ => pss.length - (intOf i).toNat)
  case atStart => exact ⟨0, 0, Nat.zero_le _, rfl, rfl⟩
  case round =>
    obtain ⟨k, m, hk, rfl, rfl⟩ := hrel
    by_cases hlt : k < pss.length
    · obtain ⟨b, off, rfl, hc⟩ := (partsA_drewN (unhide HA) m) (by rintro rfl; simp at hlt)
      obtain ⟨b', off', rfl, hc'⟩ := (partsA_drewN (unhide HB) m) (by rintro rfl; simp at hlt)
      obtain ⟨a1, c1, h1, y1⟩ := hc k hlt
      obtain ⟨a2, c2, h2, y2⟩ := hc' k hlt
      have v1 : ∀ q, (convert 23 9 (.slice a1 (pss.getD k []).length c1)).run Try.prog ((w.drewN m).drewN q) = .ok (.string (strOfNums (pss.getD k []))) ((w.drewN m).drewN q) := fun q => conv_any (bysA_drew q y1)
      have v2 : ∀ q, (convert 23 9 (.slice a2 (pss.getD k []).length c2)).run Try.prog ((w.drewN m).drewN q) = .ok (.string (strOfNums (pss.getD k []))) ((w.drewN m).drewN q) := fun q => conv_any (bysA_drew q y2)
      have hlt' : (k : Int) < (pss.length : Int) := by omega
      have HDR : Hid (∀ q, (w.drewN m).drewN q = w.drewN (m + q)) := fun q => World.drewN_drewN _ _ _
      generalize strOfNums (pss.getD k []) = t at *
      generalize (pss.getD k []).length = pl at *
      generalize w.drewN m = W at *
      clear hc hc' y1 y2
      go_wp2
      go_quiet (fail)
      go_wp2
      go_roundw
      case rel => exact ⟨k + 1, _, by omega, by go_num, unhide HDR _⟩
      case measure => simp [intOf]; omega
    · obtain rfl : k = pss.length := by omega
      go_wp2
      go_ret
      exact ⟨rfl, below_drewN (Below.refl _ _) _⟩
end Go.Proofs.Ytpaolllkpmkgkab
