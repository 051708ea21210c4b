/- Two rows of bytes alike; the crash. -/
import Derived.Test.YtfceileohkngnaaTsec
namespace Go.Proofs.Ytfceileohkngnaa
open Go.RowKit
set_option linter.unusedVariables false
set_option maxRecDepth 4000

theorem bytes_same (A B : Option Addr) (bs : List Int) (n m c d : Nat) (w : World) (hn : n = bs.length) (hm : m = bs.length) (hA : BysA w A bs) (hB : BysA w B bs) :
    Calls Try.prog 12 #[.slice A n c, .slice B m d] w fun e w' => e = .returned (.bool true) ∧ w' = w := by
  subst hn hm
  have v1 : (convert 23 9 (.slice A bs.length c)).run Try.prog w = .ok (.string (strOfNums bs)) w := conv_any hA
  have v2 : (convert 23 9 (.slice B bs.length d)).run Try.prog w = .ok (.string (strOfNums bs)) w := conv_any hB
  clear hA hB
  generalize strOfNums bs = t at *
  generalize bs.length = pl at *
  go_enter Try.func12, Try.ntmps12
  go_wp2
  go_ret
  exact ⟨rfl, rfl⟩
theorem crash_step {w15 w16 : World} {B g gs : Nat} {S' : List Sct} {P : List (Nat × Sct)} (h : Dsk 102 120 w15 B g gs S' P) (hP : P.length ≤ 100) (hb : Below w15.heap.size w15 w16) {gk : Nat} {cur : Array Value} (hgk : w15.heap.size ≤ gk) (hcur : w16.heap[gk]? = some (.cells cur 4 (0, 0))) {K : List Bool} (hK : BoolsA w16 (some ⟨gk, 0, none⟩) K) (hl : K.length ≤ 100) (cap : Nat) {w1 : World} (hbw : Below w1.heap.size w1 w15) (hBw : w1.heap.size = B) {SS : List Sct} (hSS : SS = flushS S' (keptP P K)) :
    Calls Try.prog 26 #[.pointer (some ⟨g, 0, none⟩), .slice (some ⟨gk, 0, none⟩) K.length cap] w16 fun e w' => e = .returned (.tuple #[]) ∧ Dsk 102 120 w' B g gs SS [] ∧ Below w1.heap.size w1 w' := by
  subst hBw hSS
  have hlt := h.lt
  refine (crash_any w16 (h.below hb) (by omega) _ K cap hK (fun _ b off e => ?_) (by omega)).mono ?_
  · cases e
    exact ⟨lt_of_get hcur, by omega, by omega, .inr (not_type hcur (by decide))⟩
  · rintro e w' ⟨rfl, hd, ht⟩
    have h2 := hd.lt
    exact ⟨rfl, hd, (below_then hbw hb).trans (ht.below (Nat.le_trans hbw.size hb.size) h2.2.2.1 h2.2.2.2)⟩
end Go.Proofs.Ytfceileohkngnaa
