/- What weirgatekeep.Lists comes to at two lists of parts that are alike. -/
import Derived.Test.YtfbebnddedkcbaaMore
import Derived.Laws.BytesArg
import Derived.Deep.QuietTactic
import Derived.BigQuiet
namespace Go.Proofs.Ytfbebnddedkcbaa
open Go.RowKit
set_option linter.unusedVariables false

theorem bysA_drew {w : World} {a : Option Addr} {bs : List Int} (n : Nat) (h : BysA w a bs) : BysA (w.drewN n) a bs := by
  intro hne
  obtain ⟨b, off, ha, hc⟩ := h hne
  exact ⟨b, off, ha, fun i hi => by simpa using hc i hi⟩

theorem conv_any {w : World} {a : Option Addr} {bs : List Int} {cap : Nat} (h : BysA w a bs) :
    (convert 26 9 (.slice a bs.length cap)).run Try.prog w = .ok (.string (strOfNums bs)) w := by
  by_cases hne : bs = []
  · subst hne
    cases a with
    | none => exact run_convert_bytes_nil w 26 5 Try.underlying26 Try.underlying5 0 cap 9 Try.underlying9
    | some x =>
      have hl : (loadCells x 0).run Try.prog w = .ok (([] : List Int).map (Value.int .u8)).toArray w :=
        run_loadCells_list (P := Try.prog) w x [] (fun j v hj => by simp at hj)
      rw [run_convert_bytes_string w 26 9 5 _ _ cap Try.underlying26 Try.underlying5 Try.underlying9]
      exact run_bytesToString w x 0 cap [] hl
  · obtain ⟨b, off, rfl, hc⟩ := h hne
    exact run_convert_bytes_arg w 26 5 Try.underlying26 Try.underlying5 b off bs.length cap bs rfl hc 9 Try.underlying9

set_option maxHeartbeats 400000 in
theorem lists_same (a1 a2 : Option Addr) (pss : List (List Int)) (cap1 cap2 : Nat) (w : World)
    (hp1 : PartsA w a1 pss) (hp2 : PartsA w a2 pss) (hl : pss.length ≤ maxLen) :
    Calls Try.prog 13 #[.slice a1 pss.length cap1, .slice a2 pss.length cap2] w fun e w' => e = .returned (.bool true) ∧ ∃ n, w' = w.drewN n := by
  have hml : maxLen = 9223372036854775807 := rfl
  rw [hml] at hl
  clear hml
  have hne : ((pss.length : Int) != (pss.length : Int)) = false := by simp
  go_enter Try.func13, Try.ntmps13
  go_wp2
  go_loopw [5] (fun i wr => ∃ k : Nat, ∃ n, k ≤ pss.length ∧ i = .int .i64 k ∧ wr = w.drewN n) (fun i _ => pss.length - (intOf i).toNat)
  case atStart => exact ⟨0, 0, Nat.zero_le _, rfl, rfl⟩
  case round =>
    obtain ⟨k, n, hk, rfl, rfl⟩ := hrel
    by_cases hlt : k < pss.length
    · obtain ⟨b1, off1, rfl, hc1⟩ := hp1 (by rintro rfl; simp at hlt)
      obtain ⟨b2, off2, rfl, hc2⟩ := hp2 (by rintro rfl; simp at hlt)
      obtain ⟨a1', cap1', hck1, hby1⟩ := hc1 k hlt
      obtain ⟨a2', cap2', hck2, hby2⟩ := hc2 k hlt
      have g1 : ∀ n, (convert 26 9 (.slice a1' (pss.getD k []).length cap1')).run Try.prog (w.drewN n) = .ok (.string (strOfNums (pss.getD k []))) (w.drewN n) := fun n => conv_any (bysA_drew n hby1)
      have g2 : ∀ n, (convert 26 9 (.slice a2' (pss.getD k []).length cap2')).run Try.prog (w.drewN n) = .ok (.string (strOfNums (pss.getD k []))) (w.drewN n) := fun n => conv_any (bysA_drew n hby2)
      generalize pss.getD k [] = ps at *
      clear hc1 hc2 hp1 hp2 hby1 hby2
      have hki : (k : Int) < (pss.length : Int) := by omega
      go_wp2
      go_quiet (fail)
      go_wp2
      go_roundw
      case rel => exact ⟨k + 1, _, by omega, by go_num, rfl⟩
      case measure => simp [intOf]; omega
    · go_wp2
      go_ret
      exact ⟨rfl, n, rfl⟩
end Go.Proofs.Ytfbebnddedkcbaa
