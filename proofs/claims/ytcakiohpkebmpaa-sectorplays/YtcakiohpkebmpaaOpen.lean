/- Arguments opened: from what is read to what the walks are told. -/
import Derived.Test.YtcakiohpkebmpaaFair
import Derived.ProofKit
import Derived.OpenShut
import Derived.Deep.Slices
import Derived.Deep.Grids
namespace Go.Proofs.Ytcakiohpkebmpaa
open Go.RowKit Go.ChangeShapes Go.WideShapes Go.Deep
set_option linter.unusedVariables false
variable {H : Type} {enc : TypeId × Value → H} {P : Program} {W : World} {base : Nat}

theorem wf_u8 {x : Int} (h : (Lit.int .u8 x).wf = true) : 0 ≤ x ∧ x ≤ 255 := by simpa [Lit.wf, IntKind.min, IntKind.max, IntKind.signed, IntKind.bits] using h
theorem wf_i64 {x : Int} (h : (Lit.int .i64 x).wf = true) : -9223372036854775808 ≤ x ∧ x ≤ 9223372036854775807 := by simpa [Lit.wf, IntKind.min, IntKind.max, IntKind.signed, IntKind.bits] using h

theorem open_u8 {t : TypeId} {v : Value} {d : DataW H} {p : List MemPlace} (ht : P.underlying t = some (.int .u8)) (o : Value.okWide P W .any base t v) (r : DataW.Trod enc P W 0 (fun _ => true) true t v d p) :
    ∃ x, v = .int .u8 x ∧ 0 ≤ x ∧ x ≤ 255 := by
  obtain ⟨x, rfl, rfl, rfl, wx⟩ := open_int ht o r
  exact ⟨x, rfl, wf_u8 wx⟩
theorem open_i64 {t : TypeId} {v : Value} {d : DataW H} {p : List MemPlace} (ht : P.underlying t = some (.int .i64)) (o : Value.okWide P W .any base t v) (r : DataW.Trod enc P W 0 (fun _ => true) true t v d p) :
    ∃ x, v = .int .i64 x ∧ -9223372036854775808 ≤ x ∧ x ≤ 9223372036854775807 := by
  obtain ⟨x, rfl, rfl, rfl, wx⟩ := open_int ht o r
  exact ⟨x, rfl, wf_i64 wx⟩

/-- Bools, by cells: where a slice's header stands as a value of its own or in a cell. -/
theorem bools_cells {t e : TypeId} {fuel : Nat} {v : Value} {x : DataW H × List MemPlace} (ht : P.underlying t = some (.slice e)) (he : P.underlying e = some .bool) (hce : P.cellsOf e = 1)
    (hf : DataW.trod enc P W 0 (fun _ => true) true fuel t [v] = some x) :
    ∃ a K cap, v = .slice a K.length cap ∧ K.length ≤ cap ∧ cap ≤ maxLen ∧ BoolsA W a K ∧ (K ≠ [] → ∀ kb off, a = some ⟨kb, off, none⟩ → kb < W.heap.size) := by
  rcases open_bools ht he hce hf with ⟨hcs, _⟩ | ⟨x, l, c, B, hcs, _, hl, hm, _, hcell⟩
  · simp at hcs
    exact ⟨none, [], 0, by simpa using hcs, by simp, by simp, rowA_nil _ _, fun _ _ _ e => by cases e⟩
  · simp at hcs
    subst hcs
    have hlen : ((List.range l).map B).length = l := by simp
    have key : 0 < l → ∃ b off, x = ⟨b, off, none⟩ ∧ b < W.heap.size := by
      intro h0
      obtain ⟨b, off, spot⟩ := x
      have hc0 := hcell 0 (by omega)
      have hspot : spot = none := by simpa [Addr.add] using World.cell?_spot hc0
      subst hspot
      rw [addr_add] at hc0
      exact ⟨b, off, rfl, World.block_lt_of_cell? _ _ hc0⟩
    refine ⟨some x, (List.range l).map B, c, by rw [hlen], by omega, hm, ?_, ?_⟩
    · intro hne
      have h0 : 0 < l := by
        rcases Nat.eq_zero_or_pos l with h | h
        · subst h; simp at hne
        · exact h
      obtain ⟨b, off, rfl, _⟩ := key h0
      refine ⟨b, off, rfl, fun j u hj => ?_⟩
      rw [List.getElem?_map, List.getElem?_map] at hj
      have hjl : j < l := by
        rcases Nat.lt_or_ge j l with h | h
        · exact h
        · rw [List.getElem?_eq_none (by simpa using h)] at hj; cases hj
      rw [List.getElem?_range hjl] at hj
      rw [← addr_add, hcell j (by omega)]
      exact hj
    · intro hne kb off e
      have h0 : 0 < l := by
        rcases Nat.eq_zero_or_pos l with h | h
        · subst h; simp at hne
        · exact h
      obtain ⟨b, off', rfl, hb⟩ := key h0
      cases e
      exact hb

theorem open_keep {t e : TypeId} {v : Value} {d : DataW H} {p : List MemPlace} (ht : P.underlying t = some (.slice e)) (he : P.underlying e = some .bool) (hce : P.cellsOf e = 1)
    (o : Value.okWide P W .any base t v) (r : DataW.Trod enc P W 0 (fun _ => true) true t v d p) :
    ∃ a K cap, v = .slice a K.length cap ∧ K.length ≤ cap ∧ cap ≤ maxLen ∧ BoolsA W a K := by
  obtain ⟨a0, len0, cap0, rfl⟩ := okWide_slice ht o
  obtain ⟨fuel, hf⟩ := r
  obtain ⟨a, K, cap, h1, h2, h3, h4, _⟩ := bools_cells ht he hce (by simpa [Value.cells] using hf)
  exact ⟨a, K, cap, h1, h2, h3, h4⟩

/-- The five cells of a step. -/
theorem step_cells {n : Nat} {cs : List Value} {x : DataW H × List MemPlace} (h : DataW.trod enc Try.prog W 0 (fun _ => true) true n 34 cs = some x) :
    ∃ (s : Stp) (ka : Option Addr) (kc : Nat), cs = scells s ka kc ∧ s.ok ∧ BoolsA W ka s.keep ∧ (s.keep ≠ [] → ∀ kb off, ka = some ⟨kb, off, none⟩ → kb < W.heap.size) := by
  obtain ⟨xs, m, _, _, hl, hxl, hf⟩ := DataW.trod_struct Try.underlying34 h
  have c34 : Try.prog.cellsOf 34 = 5 := by kernel_rfl
  have c3 : Try.prog.cellsOf 3 = 1 := by kernel_rfl
  have c5 : Try.prog.cellsOf 5 = 1 := by kernel_rfl
  have c32 : Try.prog.cellsOf 32 = 1 := by kernel_rfl
  rw [c34] at hl
  match cs, hl, xs, hxl with
  | [v0, v1, v2, v3, v4], _, [y0, y1, y2, y3, y4], _ =>
    have g0 := hf 0 _ rfl
    have g1 := hf 1 _ rfl
    have g2 := hf 2 _ rfl
    have g3 := hf 3 _ rfl
    have g4 := hf 4 _ rfl
    simp [c3, c5, c32] at g0 g1 g2 g3 g4
    obtain ⟨kd, e0, _, w0⟩ := DataW.trod_int Try.underlying3 g0
    obtain ⟨i, e1, _, w1⟩ := DataW.trod_int Try.underlying3 g1
    obtain ⟨at_, e2, _, w2⟩ := DataW.trod_int Try.underlying3 g2
    obtain ⟨v, e3, _, w3⟩ := DataW.trod_int Try.underlying5 g3
    obtain ⟨a, K, cap, e4, hK1, hK2, hK3, hK4⟩ := bools_cells Try.underlying32 Try.underlying4 (by kernel_rfl) g4
    simp only [List.cons.injEq, and_true] at e0 e1 e2 e3
    subst e0 e1 e2 e3 e4
    exact ⟨⟨kd, i, at_, v, K⟩, a, cap, rfl, ⟨wf_i64 w0, wf_i64 w1, wf_i64 w2, wf_u8 w3, Nat.le_trans hK1 hK2⟩, hK3, hK4⟩

/-- One step, as an argument. -/
theorem open_step {v : Value} {d : DataW H} {p : List MemPlace} (o : Value.okWide Try.prog W .any base 34 v) (r : DataW.Trod enc Try.prog W 0 (fun _ => true) true 34 v d p) :
    ∃ (s : Stp) (ka : Option Addr) (kc : Nat), v = .agg (scells s ka kc).toArray ∧ s.ok ∧ BoolsA W ka s.keep ∧ (s.keep ≠ [] → ∀ kb off, ka = some ⟨kb, off, none⟩ → kb < W.heap.size) := by
  obtain ⟨cs, rfl, hs⟩ := okWide_struct Try.underlying34 o
  obtain ⟨fuel, hf⟩ := r
  obtain ⟨s, ka, kc, e, h1, h2⟩ := step_cells (by simpa [Value.cells] using hf)
  refine ⟨s, ka, kc, ?_, h1, h2⟩
  rw [← e]

/-- Steps, as an argument. A slice of no step leads nowhere that is asked for. -/
theorem open_steps {v : Value} {d : DataW H} {p : List MemPlace} (o : Value.okWide Try.prog W .any base 22 v) (r : DataW.Trod enc Try.prog W 0 (fun _ => true) true 22 v d p) :
    ∃ a l cap, v = .slice a l.length cap ∧ l.length ≤ cap ∧ cap ≤ maxLen ∧ (∀ x ∈ l, Stp.ok x) ∧ StepsA W a l := by
  obtain ⟨a0, len0, cap0, rfl⟩ := okWide_slice Try.underlying22 o
  obtain ⟨fuel, hf⟩ := r
  have c34 : Try.prog.cellsOf 34 = 5 := by kernel_rfl
  rcases open_slice Try.underlying22 (by simpa [Value.cells] using hf) with ⟨hcs, _⟩ | ⟨x, l, c, m, n, D, Pl, hcs, _, hl, hm, hmm, _, hx⟩
  · simp at hcs
    obtain ⟨rfl, rfl, rfl⟩ := hcs
    exact ⟨none, [], 0, by simp, by simp, by simp, by simp, fun h => absurd rfl h⟩
  · simp at hcs
    obtain ⟨rfl, rfl, rfl⟩ := hcs
    simp only [if_true] at hmm
    subst hmm
    have inh : Inhabited Stp := ⟨⟨0, 0, 0, 0, []⟩⟩
    obtain ⟨B, hB⟩ := choose_lt (α := Stp) (n := m) (p := fun i s => ∃ cs ka kc, W.cells? 0 (x.add (i * 5)) 5 = some cs ∧ cs = scells s ka kc ∧ s.ok ∧ BoolsA W ka s.keep ∧ (s.keep ≠ [] → ∀ kb off, ka = some ⟨kb, off, none⟩ → kb < W.heap.size)) (fun i hi => by
      obtain ⟨cs', h1, h2⟩ := hx i hi
      rw [c34] at h1
      obtain ⟨s, ka, kc, e, k1, k2, k3⟩ := step_cells h2
      exact ⟨s, cs', ka, kc, h1, e, k1, k2, k3⟩)
    have hlen : ((List.range len0).map B).length = len0 := by simp
    refine ⟨some x, (List.range len0).map B, m, by rw [hlen], by omega, hm, ?_, ?_⟩
    · intro s hs
      obtain ⟨i, hi, rfl⟩ := List.mem_map.1 hs
      obtain ⟨_, _, _, _, _, k, _⟩ := hB i (by have := List.mem_range.1 hi; omega)
      exact k
    · intro hne
      have hpos : 0 < len0 := by
        rcases Nat.eq_zero_or_pos len0 with h | h
        · subst h; simp at hne
        · exact h
      obtain ⟨b, off, spot⟩ := x
      have hspot : spot = none := by
        obtain ⟨cs, ka, kc, h1, rfl, _⟩ := hB 0 (by omega)
        have := (World.cells?_some h1).2.2 0 (by omega)
        rw [show (scells (B 0) ka kc)[0]? = some (.int .i64 (B 0).kd) from rfl] at this
        simpa [Addr.add] using World.cell?_spot this
      subst hspot
      refine ⟨b, off, rfl, fun k s hs => ?_⟩
      have hk : k < len0 := by have := (List.getElem?_eq_some_iff.1 hs).1; simpa using this
      obtain rfl : B k = s := by
        rw [List.getElem?_map, List.getElem?_range hk] at hs
        simpa using hs
      obtain ⟨cs, ka, kc, h1, rfl, h2, h3, h4⟩ := hB k (by omega)
      have hr := (World.cells?_some h1).2.2
      refine ⟨ka, kc, fun j u hj => ?_, h3, h4⟩
      have hj5 : j < 5 := by have := (List.getElem?_eq_some_iff.1 hj).1; simpa [scells] using this
      have := hr j hj5
      rw [addr_add, addr_add, hj] at this
      exact this
end Go.Proofs.Ytcakiohpkebmpaa
