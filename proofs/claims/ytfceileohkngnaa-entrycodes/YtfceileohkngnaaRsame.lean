/- The reference's Encode where there is none; two rows of sectors alike. -/
import Derived.Test.YtfceileohkngnaaRenc
import Derived.Deep.CutRange
namespace Go.Proofs.Ytfceileohkngnaa
open Go.RowKit
set_option linter.unusedVariables false
set_option maxRecDepth 4000

theorem rencode_form (k e s : Int) (hk : k < 0 ∨ 255 < k) (A : Option Addr) (n cap : Nat) (w : World) :
    Calls Try.prog 8 #[.agg #[.int .i64 k, .int .u32 e, .int .u32 s, .slice A n cap]] w fun x w' => x = .returned (.tuple #[.slice none 0 0, .int .i64 11]) ∧ Below w.heap.size w w' := by
  by_cases h : k < 0
  · go_enter Try.func8, Try.ntmps8
    go_wp2
    go_ret2
    exact ⟨rfl, below_alloc (Below.refl _ _) _⟩
  · have h2 : 255 < k := by omega
    go_enter Try.func8, Try.ntmps8
    go_wp2
    go_ret2
    exact ⟨rfl, below_alloc (Below.refl _ _) _⟩
theorem rencode_long (k e s : Int) (hk : 0 ≤ k ∧ k ≤ 255) (A : Option Addr) (n cap : Nat) (hn : 4000 < n) (w : World) :
    Calls Try.prog 8 #[.agg #[.int .i64 k, .int .u32 e, .int .u32 s, .slice A n cap]] w fun x w' => x = .returned (.tuple #[.slice none 0 0, .int .i64 2]) ∧ Below w.heap.size w w' := by
  have h1 : ¬ k < 0 := by omega
  have h2 : ¬ 255 < k := by omega
  have h3 : (4000 : Int) < (n : Int) := by omega
  clear hk
  go_enter Try.func8, Try.ntmps8
  go_wp2
  go_ret2
  exact ⟨rfl, below_alloc (Below.refl _ _) _⟩

theorem scsA_drewN {w : World} {A : Option Addr} {S : List Sct} (h : ScsA w A S) (n : Nat) : ScsA (w.drewN n) A S := fun hne => h hne

attribute [local go_sem ↓] ldS_of
attribute [local go_sem] eql36 eqGuard36 sv_is
set_option maxHeartbeats 1000000 in
theorem same_same (A B : Option Addr) (S : List Sct) (n c d : Nat) (w : World) (hn : n = S.length) (hA : ScsA w A S) (hB : ScsA w B S) (hl : S.length ≤ 100000) :
    Calls Try.prog 11 #[.slice A n c, .slice B n d] w fun e w' => e = .returned (.bool true) ∧ Below w.heap.size w w' := by
  subst hn
  have HA := hide hA
  have HB := hide hB
  clear hA hB
  go_enter Try.func11, Try.ntmps11
  go_wp2
  go_loopw [5] (fun i wr => ∃ k m : Nat, k ≤ S.length ∧ i = .int .i64 k ∧ wr = w.drewN m) (fun i _ => S.length - (intOf i).toNat)
  case atStart => exact ⟨0, 0, Nat.zero_le _, rfl, rfl⟩
  case round =>
    obtain ⟨k, m, hk, rfl, rfl⟩ := hrel
    by_cases hlt : k < S.length
    · obtain ⟨b, off, rfl, hc⟩ := (scsA_drewN (unhide HA) m).range hlt
      obtain ⟨b', off', rfl, hc'⟩ := (scsA_drewN (unhide HB) m).range hlt
      have hg : S[k]? = some (S.getD k zeroS) := getD_some' S k hlt
      have v1 : ∀ q, (ldS (.pointer (some ⟨b, off + k * 64, none⟩))).run Try.prog ((w.drewN m).drewN q) = .ok (.agg (bytes (S.getD k zeroS)).toArray) ((w.drewN m).drewN q) := fun q => ldS_is b (off + k * 64) _ _ (hc k _ hg)
      have v2 : ∀ q, (ldS (.pointer (some ⟨b', off' + k * 64, none⟩))).run Try.prog ((w.drewN m).drewN q) = .ok (.agg (bytes (S.getD k zeroS)).toArray) ((w.drewN m).drewN q) := fun q => ldS_is b' (off' + k * 64) _ _ (hc' k _ hg)
      have hlt' : (k : Int) < (S.length : Int) := by omega
      have HDR : Hid (∀ q, (w.drewN m).drewN q = w.drewN (m + q)) := fun q => World.drewN_drewN _ _ _
      generalize S.getD k zeroS = t at *
      generalize w.drewN m = W at *
      clear hc hc' hg
      go_wp2
      go_quiet (fail)
      go_wp2
      go_roundw
      case rel => exact ⟨k + 1, _, by omega, by go_num, unhide HDR _⟩
      case measure => simp [intOf]; omega
    · obtain rfl : k = S.length := by omega
      go_wp2
      go_ret
      exact ⟨rfl, below_drewN (Below.refl _ _) _⟩
end Go.Proofs.Ytfceileohkngnaa
