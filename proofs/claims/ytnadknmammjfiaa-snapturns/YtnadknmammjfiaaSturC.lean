/- SnapTurns out of its arguments as they read. -/
import Derived.Test.YtnadknmammjfiaaSturW
import Derived.Test.YtnadknmammjfiaaMO
import Derived.Deep.Slices
namespace Go.Proofs.Ytnadknmammjfiaa
open Go.RowKit Go.ChangeShapes Go.WideShapes Go.Deep
set_option linter.unusedVariables false
set_option maxRecDepth 4000
section
variable {H : Type} {enc : TypeId × Value → H} {P : Program} {W : World} {base : Nat}
theorem parts_cells {t e b : TypeId} {fuel : Nat} {v : Value} {y : DataW H × List MemPlace} (ht : P.underlying t = some (.slice e)) (he : P.underlying e = some (.slice b)) (hb : P.underlying b = some (.int .u8)) (hce : P.cellsOf e = 1) (hcb : P.cellsOf b = 1)
    (hf : DataW.trod enc P W 0 (fun _ => true) true fuel t [v] = some y) :
    ∃ a pss cap, v = .slice a pss.length cap ∧ pss.length ≤ cap ∧ cap ≤ maxLen ∧ (∀ q ∈ pss, Byt q ∧ q.length ≤ maxLen) ∧ PartsA W a pss := by
  rcases open_slice1 ht hce hf with ⟨hcs, _⟩ | ⟨x, l, c, m, n, V, D, Pl, hcs, _, hl, hm, hmm, _, hx⟩
  · simp at hcs
    subst hcs
    exact ⟨none, [], 0, by simp, by simp, by simp, by simp, fun h => absurd rfl h⟩
  · simp at hcs
    subst hcs
    simp only [if_true] at hmm
    subst hmm
    obtain ⟨B, hB⟩ := choose_lt (α := List Int) (n := m) (p := fun i bs => ∃ a' cap', V i = .slice a' bs.length cap' ∧ bs.length ≤ cap' ∧ cap' ≤ maxLen ∧ Byt bs ∧ BysA W a' bs) (fun i hi => by
      obtain ⟨a', bs, cap', h1, h2, h3, h4, h5, _⟩ := bytes_cells he hb hcb (hx i hi).2 (fun _ => rfl)
      exact ⟨bs, a', cap', h1, h2, h3, h4, h5⟩)
    have hlen : ((List.range l).map B).length = l := by simp
    have hget : ∀ i, i < l → ((List.range l).map B).getD i [] = B i := fun i hi => by
      rw [List.getD_eq_getElem?_getD, List.getElem?_map, List.getElem?_range hi]; rfl
    refine ⟨some x, (List.range l).map B, m, by rw [hlen], by omega, hm, ?_, ?_⟩
    · intro q hq
      obtain ⟨i, hi, rfl⟩ := List.mem_map.1 hq
      obtain ⟨a', cap', _, h2, h3, h4, _⟩ := hB i (by have := List.mem_range.1 hi; omega)
      exact ⟨h4, by omega⟩
    · intro hne
      have hpos : 0 < m := by
        have : l ≠ 0 := by rintro rfl; simp at hne
        omega
      obtain ⟨bk, off, spot⟩ := x
      have hc0 := (hx 0 hpos).1
      have hspot : spot = none := by simpa [Addr.add] using World.cell?_spot hc0
      subst hspot
      refine ⟨bk, off, rfl, fun i hi => ?_⟩
      rw [hlen] at hi
      obtain ⟨a', cap', h1, h2, h3, h4, h5⟩ := hB i (by omega)
      refine ⟨a', cap', ?_, ?_⟩
      · rw [← addr_add, (hx i (by omega)).1, h1, hget i hi]
      · rw [hget i hi]; exact h5

theorem open_lists {v : Value} {d : DataW H} {p : List MemPlace} (o : Value.okWide Try.prog W .any base 56 v) (r : DataW.Trod enc Try.prog W 0 (fun _ => true) true 56 v d p) :
    ∃ a pss cap, v = .slice a pss.length cap ∧ pss.length ≤ cap ∧ cap ≤ maxLen ∧ (∀ q ∈ pss, Byt q ∧ q.length ≤ maxLen) ∧ PartsA W a pss := by
  obtain ⟨a0, len0, cap0, rfl⟩ := okWide_slice Try.underlying56 o
  obtain ⟨fuel, hf⟩ := r
  exact parts_cells Try.underlying56 Try.underlying33 Try.underlying5 (by kernel_rfl) (by kernel_rfl) (by simpa [Value.cells] using hf)

end
theorem snapTurns_call {H : Type} (enc : TypeId × Value → H) (W : World) (base : Nat) (v0 : Value) (o0 : Value.okWide Try.prog W .any base 56 v0) {d0 : DataW H} {p0 : List MemPlace}
    (r0 : DataW.Trod enc Try.prog W 0 (fun _ => true) true 56 v0 d0 p0) :
    Calls Try.prog 6 #[v0] W fun e w' => e = .returned (.bool true) ∧ Below W.heap.size W w' := by
  obtain ⟨a, pss, cap, rfl, hc, hm, hB, hA⟩ := open_lists o0 r0
  by_cases h : 12 < pss.length
  · exact sturn_no a pss.length cap h (by omega) W
  · exact sturn_walk a pss cap (by omega) W hA hB
end Go.Proofs.Ytnadknmammjfiaa
