/- What weirgatekeep.Lists comes to at two lists of parts that are alike. -/
import Derived.Test.YtpaolllkpmkgkaaMore
import Derived.Laws.BytesArg
import Derived.Deep.QuietTactic
import Derived.BigQuiet
namespace Go.Proofs.Ytpaolllkpmkgkaa
open Go.RowKit
set_option linter.unusedVariables false

theorem bysA_drew {w : World} {a : Option Addr} {bs : List Int} (n : Nat) (h : BysA w a bs) : BysA (w.drewN n) a bs := by
  intro hne
  obtain ⟨b, off, ha, hc⟩ := h hne
  exact ⟨b, off, ha, fun i hi => by simpa using hc i hi⟩

theorem conv_any {w : World} {a : Option Addr} {bs : List Int} {cap : Nat} (h : BysA w a bs) :
    (convert 23 9 (.slice a bs.length cap)).run Try.prog w = .ok (.string (strOfNums bs)) w := by
  by_cases hne : bs = []
  · subst hne
    cases a with
    | none => exact run_convert_bytes_nil w 23 5 Try.underlying23 Try.underlying5 0 cap 9 Try.underlying9
    | some x =>
      have hl : (loadCells x 0).run Try.prog w = .ok (([] : List Int).map (Value.int .u8)).toArray w :=
        run_loadCells_list (P := Try.prog) w x [] (fun j v hj => by simp at hj)
      rw [run_convert_bytes_string w 23 9 5 _ _ cap Try.underlying23 Try.underlying5 Try.underlying9]
      exact run_bytesToString w x 0 cap [] hl
  · obtain ⟨b, off, rfl, hc⟩ := h hne
    exact run_convert_bytes_arg w 23 5 Try.underlying23 Try.underlying5 b off bs.length cap bs rfl hc 9 Try.underlying9

end Go.Proofs.Ytpaolllkpmkgkaa
