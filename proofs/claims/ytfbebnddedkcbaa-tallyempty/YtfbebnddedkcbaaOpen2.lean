/- A slice of slices of bytes, opened. -/
import Derived.Test.YtfbebnddedkcbaaOpen
import Derived.Deep.Slices
namespace Go.Proofs.Ytfbebnddedkcbaa
open Go.RowKit Go.ChangeShapes Go.WideShapes Go.Deep
set_option linter.unusedVariables false
variable {H : Type} {enc : TypeId × Value → H} {P : Program} {W : World} {base : Nat}

theorem open_parts {t e b : TypeId} {v : Value} {d : DataW H} {p : List MemPlace} (ht : P.underlying t = some (.slice e)) (he : P.underlying e = some (.slice b)) (hb : P.underlying b = some (.int .u8)) (hce : P.cellsOf e = 1) (hcb : P.cellsOf b = 1)
    (o : Value.okWide P W .any base t v) (r : DataW.Trod enc P W 0 (fun _ => true) true t v d p) :
    ∃ a pss cap, v = .slice a pss.length cap ∧ pss.length ≤ cap ∧ cap ≤ maxLen ∧ Byts pss ∧ PartsA W a pss ∧ (a = none → cap = 0) := by
  obtain ⟨a0, len0, cap0, rfl⟩ := okWide_slice ht o
  obtain ⟨fuel, hf⟩ := r
  rcases open_slice1 ht hce (by simpa [Value.cells] using hf) with ⟨hcs, _⟩ | ⟨x, l, c, m, n, V, D, Pl, hcs, _, hl, hm, hmm, _, hx⟩
  · simp at hcs
    obtain ⟨rfl, rfl, rfl⟩ := hcs
    exact ⟨none, [], 0, by simp, by simp, by simp, byts_of (by simp), fun h => absurd rfl h, fun _ => rfl⟩
  · simp at hcs
    obtain ⟨rfl, rfl, rfl⟩ := hcs
    simp only [if_true] at hmm
    subst hmm
    obtain ⟨B, hB⟩ := choose_lt (α := List Int) (n := m) (p := fun i bs => ∃ a' cap', V i = .slice a' bs.length cap' ∧ bs.length ≤ cap' ∧ cap' ≤ maxLen ∧ Byt bs ∧ BysA W a' bs) (fun i hi => by
      obtain ⟨a', bs, cap', h1, h2, h3, h4, h5, _⟩ := bytes_cells he hb hcb (hx i hi).2 (fun _ => rfl)
      exact ⟨bs, a', cap', h1, h2, h3, h4, h5⟩)
    have hlen : ((List.range len0).map B).length = len0 := by simp
    have hget : ∀ i, i < len0 → ((List.range len0).map B).getD i [] = B i := fun i hi => by
      rw [List.getD_eq_getElem?_getD, List.getElem?_map, List.getElem?_range hi]; rfl
    refine ⟨some x, (List.range len0).map B, m, by rw [hlen], by omega, hm, ?_, ?_, fun h => by cases h⟩
    · refine byts_of fun q hq => ?_
      obtain ⟨i, hi, rfl⟩ := List.mem_map.1 hq
      obtain ⟨a', cap', _, h2, h3, h4, _⟩ := hB i (by have := List.mem_range.1 hi; omega)
      exact ⟨h4, by omega⟩
    · intro hne
      have hpos : 0 < m := by
        have : len0 ≠ 0 := by rintro rfl; simp at hne
        omega
      obtain ⟨bk, off, spot⟩ := x
      have hc0 := (hx 0 hpos).1
      have hspot : spot = none := by simpa [Addr.add] using World.cell?_spot hc0
      subst hspot
      refine ⟨bk, off, rfl, fun i hi => ?_⟩
      rw [hlen] at hi
      obtain ⟨a', cap', h1, h2, h3, h4, h5⟩ := hB i (by omega)
      refine ⟨a', cap', ?_, ?_⟩
      · rw [← addr_add, (hx i (by omega)).1, h1, hget i hi]
      · rw [hget i hi]; exact h5
end Go.Proofs.Ytfbebnddedkcbaa
