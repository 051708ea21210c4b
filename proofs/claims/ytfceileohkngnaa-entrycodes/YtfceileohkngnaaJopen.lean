/- Slices of slices of bytes, and steps, opened. -/
import Derived.Test.YtfceileohkngnaaJfair
import Derived.Test.YtfceileohkngnaaMO
import Derived.Deep.Slices
namespace Go.Proofs.Ytfceileohkngnaa
open Go.RowKit Go.ChangeShapes Go.WideShapes Go.Deep
set_option linter.unusedVariables false
set_option maxRecDepth 4000
variable {H : Type} {enc : TypeId × Value → H} {P : Program} {W : World} {base : Nat}

theorem parts_cells {t e b : TypeId} {fuel : Nat} {v : Value} {y : DataW H × List MemPlace} (ht : P.underlying t = some (.slice e)) (he : P.underlying e = some (.slice b)) (hb : P.underlying b = some (.int .u8)) (hce : P.cellsOf e = 1) (hcb : P.cellsOf b = 1)
    (hf : DataW.trod enc P W 0 (fun _ => true) true fuel t [v] = some y) :
    ∃ a pss cap, v = .slice a pss.length cap ∧ pss.length ≤ cap ∧ cap ≤ maxLen ∧ (∀ q ∈ pss, Byt q ∧ q.length ≤ maxLen) ∧ PartsA W a pss := by
  rcases open_slice1 ht hce hf with ⟨hcs, _⟩ | ⟨x, l, c, m, n, V, D, Pl, hcs, _, hl, hm, hmm, _, hx⟩
  · simp at hcs
    subst hcs
    exact ⟨none, [], 0, by simp, by simp, by simp, by simp, fun h => absurd rfl h⟩
  · simp at hcs
    subst hcs
    simp only [if_true] at hmm
    subst hmm
    obtain ⟨B, hB⟩ := choose_lt (α := List Int) (n := m) (p := fun i bs => ∃ a' cap', V i = .slice a' bs.length cap' ∧ bs.length ≤ cap' ∧ cap' ≤ maxLen ∧ Byt bs ∧ BysA W a' bs) (fun i hi => by
      obtain ⟨a', bs, cap', h1, h2, h3, h4, h5, _⟩ := bytes_cells he hb hcb (hx i hi).2 (fun _ => rfl)
      exact ⟨bs, a', cap', h1, h2, h3, h4, h5⟩)
    have hlen : ((List.range l).map B).length = l := by simp
    have hget : ∀ i, i < l → ((List.range l).map B).getD i [] = B i := fun i hi => by
      rw [List.getD_eq_getElem?_getD, List.getElem?_map, List.getElem?_range hi]; rfl
    refine ⟨some x, (List.range l).map B, m, by rw [hlen], by omega, hm, ?_, ?_⟩
    · intro q hq
      obtain ⟨i, hi, rfl⟩ := List.mem_map.1 hq
      obtain ⟨a', cap', _, h2, h3, h4, _⟩ := hB i (by have := List.mem_range.1 hi; omega)
      exact ⟨h4, by omega⟩
    · intro hne
      have hpos : 0 < m := by
        have : l ≠ 0 := by rintro rfl; simp at hne
        omega
      obtain ⟨bk, off, spot⟩ := x
      have hc0 := (hx 0 hpos).1
      have hspot : spot = none := by simpa [Addr.add] using World.cell?_spot hc0
      subst hspot
      refine ⟨bk, off, rfl, fun i hi => ?_⟩
      rw [hlen] at hi
      obtain ⟨a', cap', h1, h2, h3, h4, h5⟩ := hB i (by omega)
      refine ⟨a', cap', ?_, ?_⟩
      · rw [← addr_add, (hx i (by omega)).1, h1, hget i hi]
      · rw [hget i hi]; exact h5

theorem open_lists {v : Value} {d : DataW H} {p : List MemPlace} (o : Value.okWide Try.prog W .any base 58 v) (r : DataW.Trod enc Try.prog W 0 (fun _ => true) true 58 v d p) :
    ∃ a pss cap, v = .slice a pss.length cap ∧ pss.length ≤ cap ∧ cap ≤ maxLen ∧ (∀ q ∈ pss, Byt q ∧ q.length ≤ maxLen) ∧ PartsA W a pss := by
  obtain ⟨a0, len0, cap0, rfl⟩ := okWide_slice Try.underlying58 o
  obtain ⟨fuel, hf⟩ := r
  exact parts_cells Try.underlying58 Try.underlying23 Try.underlying5 (by kernel_rfl) (by kernel_rfl) (by simpa [Value.cells] using hf)

/-- A step's three cells. -/
theorem jstp_cells {fuel : Nat} {cs : List Value} {x : DataW H × List MemPlace} (hf1 : DataW.trod enc Try.prog W 0 (fun _ => true) true fuel 60 cs = some x) :
    ∃ k a pss cap ep, cs = [.int .i64 k, .slice a pss.length cap, .int .u32 ep] ∧ (-9223372036854775808 ≤ k ∧ k ≤ 9223372036854775807) ∧ (0 ≤ ep ∧ ep ≤ 4294967295) ∧ pss.length ≤ cap ∧ cap ≤ maxLen ∧ (∀ q ∈ pss, Byt q ∧ q.length ≤ maxLen) ∧ PartsA W a pss := by
  obtain ⟨xs, m, _, _, hl, hxl, hf⟩ := DataW.trod_struct Try.underlying60 hf1
  have c63 : Try.prog.cellsOf 60 = 3 := by kernel_rfl
  have c3 : Try.prog.cellsOf 3 = 1 := by kernel_rfl
  have c22 : Try.prog.cellsOf 22 = 1 := by kernel_rfl
  have c61 : Try.prog.cellsOf 58 = 1 := by kernel_rfl
  rw [c63] at hl
  match cs, hl, xs, hxl with
  | [v0, v1, v2], _, [y0, y1, y2], _ =>
    have g0 := hf 0 _ rfl
    have g1 := hf 1 _ rfl
    have g2 := hf 2 _ rfl
    simp [c3, c22, c61] at g0 g1 g2
    obtain ⟨k, e0, _, w0⟩ := DataW.trod_int Try.underlying3 g0
    obtain ⟨a, pss, cap, e1, h1, h2, h3, h4⟩ := parts_cells Try.underlying58 Try.underlying23 Try.underlying5 (by kernel_rfl) (by kernel_rfl) g1
    obtain ⟨ep, e2, _, w2⟩ := DataW.trod_int Try.underlying22 g2
    simp only [List.cons.injEq, and_true] at e0 e2
    subst e0 e1 e2
    exact ⟨k, a, pss, cap, ep, rfl, wf_i64 w0, wf_u32 w2, h1, h2, h3, h4⟩
theorem open_jstp {v : Value} {d : DataW H} {p : List MemPlace} (o : Value.okWide Try.prog W .any base 60 v) (r : DataW.Trod enc Try.prog W 0 (fun _ => true) true 60 v d p) :
    ∃ k a pss cap ep, v = .agg #[.int .i64 k, .slice a pss.length cap, .int .u32 ep] ∧ (-9223372036854775808 ≤ k ∧ k ≤ 9223372036854775807) ∧ (0 ≤ ep ∧ ep ≤ 4294967295) ∧ pss.length ≤ cap ∧ cap ≤ maxLen ∧ (∀ q ∈ pss, Byt q ∧ q.length ≤ maxLen) ∧ PartsA W a pss := by
  obtain ⟨cs, rfl, hs⟩ := okWide_struct Try.underlying60 o
  obtain ⟨fuel, hf0⟩ := r
  have hf1 : DataW.trod enc Try.prog W 0 (fun _ => true) true fuel 60 cs.toList = some (d, p) := by simpa [Value.cells] using hf0
  obtain ⟨k, a, pss, cap, ep, e, rest⟩ := jstp_cells hf1
  obtain ⟨l⟩ := cs
  simp only at e
  subst e
  exact ⟨k, a, pss, cap, ep, rfl, rest⟩
end Go.Proofs.Ytfceileohkngnaa
