/- JournalTorn's argument, opened. -/
import Derived.Test.YtfceileohkngnaaJopen
import Derived.Test.YtfceileohkngnaaMH
namespace Go.Proofs.Ytfceileohkngnaa
open Go.RowKit Go.ChangeShapes Go.WideShapes Go.Deep
set_option linter.unusedVariables false
set_option maxRecDepth 4000
variable {H : Type} {enc : TypeId × Value → H} {P : Program} {W : World} {base : Nat}

theorem open_torn {v : Value} {d : DataW H} {p : List MemPlace} (o : Value.okWide Try.prog W .any base 81 v) (r : DataW.Trod enc Try.prog W 0 (fun _ => true) true 81 v d p) :
    ∃ aA ahead cA aC cut cC half aK keep cK aT then_ cT, v = .agg #[.slice aA ahead.length cA, .slice aC cut.length cC, .bool half, .slice aK keep.length cK, .slice aT then_.length cT] ∧
      (ahead.length ≤ cA ∧ cA ≤ maxLen ∧ (∀ q ∈ ahead, Byt q ∧ q.length ≤ maxLen) ∧ PartsA W aA ahead) ∧
      (cut.length ≤ cC ∧ cC ≤ maxLen ∧ Byt cut ∧ BysA W aC cut) ∧
      (keep.length ≤ cK ∧ cK ≤ maxLen ∧ BoolsA W aK keep ∧ (keep ≠ [] → ∀ kb off, aK = some ⟨kb, off, none⟩ → kb < W.heap.size)) ∧
      (then_.length ≤ cT ∧ cT ≤ maxLen ∧ (∀ q ∈ then_, Byt q ∧ q.length ≤ maxLen) ∧ PartsA W aT then_) := by
  obtain ⟨cs, rfl, hs⟩ := okWide_struct Try.underlying81 o
  obtain ⟨fuel, hf0⟩ := r
  have hf1 : DataW.trod enc Try.prog W 0 (fun _ => true) true fuel 81 cs.toList = some (d, p) := by simpa [Value.cells] using hf0
  obtain ⟨xs, m, _, _, hl, hxl, hf⟩ := DataW.trod_struct Try.underlying81 hf1
  have c83 : Try.prog.cellsOf 81 = 5 := by kernel_rfl
  have c61 : Try.prog.cellsOf 58 = 1 := by kernel_rfl
  have c23 : Try.prog.cellsOf 23 = 1 := by kernel_rfl
  have c4 : Try.prog.cellsOf 4 = 1 := by kernel_rfl
  have c81 : Try.prog.cellsOf 79 = 1 := by kernel_rfl
  rw [c83] at hl
  obtain ⟨l⟩ := cs
  match l, hl, xs, hxl with
  | [v0, v1, v2, v3, v4], _, [y0, y1, y2, y3, y4], _ =>
    have g0 := hf 0 _ rfl
    have g1 := hf 1 _ rfl
    have g2 := hf 2 _ rfl
    have g3 := hf 3 _ rfl
    have g4 := hf 4 _ rfl
    simp [c61, c23, c4, c81] at g0 g1 g2 g3 g4
    obtain ⟨aA, ahead, cA, e0, p1, p2, p3, p4⟩ := parts_cells Try.underlying58 Try.underlying23 Try.underlying5 (by kernel_rfl) (by kernel_rfl) g0
    obtain ⟨aC, cut, cC, e1, q1, q2, q3, q4, _⟩ := bytes_cells Try.underlying23 Try.underlying5 (by kernel_rfl) g1 (fun _ => rfl)
    obtain ⟨hb, e2, _⟩ := DataW.trod_bool Try.underlying4 g2
    obtain ⟨aK, keep, cK, e3, k1, k2, k3, k4⟩ := bools_cells Try.underlying79 Try.underlying4 (by kernel_rfl) g3
    obtain ⟨aT, then_, cT, e4, t1, t2, t3, t4⟩ := parts_cells Try.underlying58 Try.underlying23 Try.underlying5 (by kernel_rfl) (by kernel_rfl) g4
    simp only [List.cons.injEq, and_true] at e2
    subst e0 e1 e2 e3 e4
    exact ⟨aA, ahead, cA, aC, cut, cC, hb, aK, keep, cK, aT, then_, cT, rfl, ⟨p1, p2, p3, p4⟩, ⟨q1, q2, q3, q4⟩, ⟨k1, k2, k3, k4⟩, ⟨t1, t2, t3, t4⟩⟩
end Go.Proofs.Ytfceileohkngnaa
