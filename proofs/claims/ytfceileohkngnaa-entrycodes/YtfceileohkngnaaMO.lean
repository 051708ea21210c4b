/- Own texts in one: Open, Open3. -/
import Derived.Test.YtfceileohkngnaaMA
import Derived.ProofKit
import Derived.OpenShut
import Derived.Test.YtfceileohkngnaaMD
import Derived.Deep.Slices
/- Arguments opened: from what is read to what the walks are told. -/
namespace Go.Proofs.Ytfceileohkngnaa
open Go.RowKit Go.ChangeShapes Go.WideShapes
set_option linter.unusedVariables false
set_option maxRecDepth 4000
variable {H : Type} {enc : TypeId × Value → H} {P : Program} {W : World} {base : Nat}

theorem wf_u8 {x : Int} (h : (Lit.int .u8 x).wf = true) : 0 ≤ x ∧ x ≤ 255 := by simpa [Lit.wf, IntKind.min, IntKind.max, IntKind.signed, IntKind.bits] using h
theorem wf_u32 {x : Int} (h : (Lit.int .u32 x).wf = true) : 0 ≤ x ∧ x ≤ 4294967295 := by simpa [Lit.wf, IntKind.min, IntKind.max, IntKind.signed, IntKind.bits] using h
theorem wf_i64 {x : Int} (h : (Lit.int .i64 x).wf = true) : -9223372036854775808 ≤ x ∧ x ≤ 9223372036854775807 := by simpa [Lit.wf, IntKind.min, IntKind.max, IntKind.signed, IntKind.bits] using h

theorem open_u8 {t : TypeId} {v : Value} {d : DataW H} {p : List MemPlace} (ht : P.underlying t = some (.int .u8)) (o : Value.okWide P W .any base t v) (r : DataW.Trod enc P W 0 (fun _ => true) true t v d p) :
    ∃ x, v = .int .u8 x ∧ 0 ≤ x ∧ x ≤ 255 := by
  obtain ⟨x, rfl, rfl, rfl, wx⟩ := open_int ht o r
  exact ⟨x, rfl, wf_u8 wx⟩
theorem open_u32 {t : TypeId} {v : Value} {d : DataW H} {p : List MemPlace} (ht : P.underlying t = some (.int .u32)) (o : Value.okWide P W .any base t v) (r : DataW.Trod enc P W 0 (fun _ => true) true t v d p) :
    ∃ x, v = .int .u32 x ∧ 0 ≤ x ∧ x ≤ 4294967295 := by
  obtain ⟨x, rfl, rfl, rfl, wx⟩ := open_int ht o r
  exact ⟨x, rfl, wf_u32 wx⟩

/-- Bytes, by cells: where a slice's header stands as a value of its own or in a cell. -/
theorem bytes_cells {t e : TypeId} {fuel : Nat} {v : Value} {x : DataW H × List MemPlace} {sp : Nat → Bool} (ht : P.underlying t = some (.slice e)) (he : P.underlying e = some (.int .u8)) (hce : P.cellsOf e = 1)
    (hf : DataW.trod enc P W 0 sp true fuel t [v] = some x) (hsp : ∀ n, sp n = true) :
    ∃ a bs cap, v = .slice a bs.length cap ∧ bs.length ≤ cap ∧ cap ≤ maxLen ∧ Byt bs ∧ BysA W a bs ∧ (a = none → cap = 0) := by
  rcases open_ints ht he hce hf with ⟨hcs, _⟩ | ⟨x, l, c, zs, hcs, _, hl, hm, hz, _, hcell, hwz⟩
  · simp at hcs
    exact ⟨none, [], 0, by simpa using hcs, by simp, by simp, fun i => by simp, fun h => absurd rfl h, fun _ => rfl⟩
  · simp at hcs
    subst hcs
    have hzl : zs.length = c := by simpa [hsp] using hz
    have hlen : (zs.take l).length = l := by simp; omega
    refine ⟨some x, zs.take l, c, by rw [hlen], by omega, hm, ?_, ?_, fun h => by cases h⟩
    · refine byt_of fun y hy => wf_u8 (hwz y (List.mem_of_mem_take hy))
    · intro hne
      have hpos : 0 < zs.length := by
        rcases Nat.eq_zero_or_pos zs.length with h | h
        · rw [List.length_eq_zero_iff] at h; subst h; simp at hne
        · exact h
      obtain ⟨b, off, spot⟩ := x
      have hc0 := hcell 0 hpos
      have hspot : spot = none := by simpa [Addr.add] using World.cell?_spot hc0
      subst hspot
      refine ⟨b, off, rfl, fun i hi => ?_⟩
      have hi' : i < l ∧ i < zs.length := by simp at hi; omega
      rw [← addr_add, hcell i hi'.2]
      congr 2
      simp [List.getD_eq_getElem?_getD, hi'.1]

theorem open_bytes {t e : TypeId} {v : Value} {d : DataW H} {p : List MemPlace} (ht : P.underlying t = some (.slice e)) (he : P.underlying e = some (.int .u8)) (hce : P.cellsOf e = 1)
    (o : Value.okWide P W .any base t v) (r : DataW.Trod enc P W 0 (fun _ => true) true t v d p) :
    ∃ a bs cap, v = .slice a bs.length cap ∧ bs.length ≤ cap ∧ cap ≤ maxLen ∧ Byt bs ∧ BysA W a bs ∧ (a = none → cap = 0) := by
  obtain ⟨a0, len0, cap0, rfl⟩ := okWide_slice ht o
  obtain ⟨fuel, hf⟩ := r
  exact bytes_cells ht he hce (by simpa [Value.cells] using hf) (fun _ => rfl)

theorem okWide_array {n : Nat} {e t : TypeId} {v : Value} {r : Reach} (ht : P.underlying t = some (.array n e)) (h : Value.okWide P W r base t v) : ∃ cs, v = .agg cs ∧ cs.size = P.cellsOf t := by
  simp only [Value.okWide, ht] at h
  obtain ⟨cs, h1, h2, _⟩ := h
  exact ⟨cs, h1, h2⟩

theorem open_ints2 {t e : TypeId} {v : Value} {d : DataW H} {p : List MemPlace} (ht : P.underlying t = some (.array 2 e)) (he : P.underlying e = some (.int .i64)) (hce : P.cellsOf e = 1) (hct : P.cellsOf t = 2)
    (o : Value.okWide P W .any base t v) (r : DataW.Trod enc P W 0 (fun _ => true) true t v d p) :
    ∃ n0 n1, v = .agg #[.int .i64 n0, .int .i64 n1] ∧ (-9223372036854775808 ≤ n0 ∧ n0 ≤ 9223372036854775807) ∧ (-9223372036854775808 ≤ n1 ∧ n1 ≤ 9223372036854775807) := by
  obtain ⟨cs, rfl, hs⟩ := okWide_array ht o
  obtain ⟨fuel, hf⟩ := r
  obtain ⟨xs, m, _, _, hl, hx, hi⟩ := DataW.trod_array ht hf
  rw [hct] at hs
  obtain ⟨c0, c1, rfl⟩ : ∃ c0 c1, cs = #[c0, c1] := by
    match cs, hs with
    | ⟨[c0, c1]⟩, _ => exact ⟨c0, c1, rfl⟩
  have h0 := hi 0 (by omega)
  have h1 := hi 1 (by omega)
  rw [List.getElem?_eq_getElem (by omega)] at h0 h1
  simp [hce, Value.cells] at h0 h1
  obtain ⟨n0, e0, _, w0⟩ := DataW.trod_int he h0
  obtain ⟨n1, e1, _, w1⟩ := DataW.trod_int he h1
  simp at e0 e1
  subst e0 e1
  exact ⟨n0, n1, rfl, wf_i64 w0, wf_i64 w1⟩

end Go.Proofs.Ytfceileohkngnaa

/- Arguments opened: an entry, sectors. -/
namespace Go.Proofs.Ytfceileohkngnaa
open Go.RowKit Go.ChangeShapes Go.WideShapes Go.Deep
set_option linter.unusedVariables false
set_option maxRecDepth 4000
variable {H : Type} {enc : TypeId × Value → H} {W : World} {base : Nat}

theorem sct_cells {n : Nat} {cs : List Value} {x : DataW H × List MemPlace} (h : DataW.trod enc Try.prog W 0 (fun _ => true) true n 75 cs = some x) : ∃ s : Sct, cs = bytes s := by
  obtain ⟨xs, m, _, _, hl, hxl, hf⟩ := DataW.trod_array Try.underlying75 h
  have c44 : Try.prog.cellsOf 75 = 64 := by kernel_rfl
  have c5 : Try.prog.cellsOf 5 = 1 := by kernel_rfl
  rw [c44] at hl
  obtain ⟨X, hX⟩ := choose_lt (α := Int) (n := 64) (p := fun i v => cs[i]? = some (.int .u8 v) ∧ 0 ≤ v ∧ v ≤ 255) (fun i hi => by
    have h1 := hf i hi
    rw [c5, Nat.mul_one, List.getElem?_eq_getElem (by omega)] at h1
    obtain ⟨v, e, _, wv⟩ := DataW.trod_int Try.underlying5 h1
    refine ⟨v, ?_, wf_u8 wv⟩
    have e' : (List.take 1 (List.drop i cs))[0]? = some (.int .u8 v) := by rw [e]; rfl
    rw [List.getElem?_take, if_pos (by omega), List.getElem?_drop, Nat.add_zero] at e'
    exact e')
  refine ⟨⟨(List.range 64).map X, by simp, fun y hy => ?_⟩, ?_⟩
  · obtain ⟨i, hi, rfl⟩ := List.mem_map.1 hy
    exact (hX i (List.mem_range.1 hi)).2
  · unfold bytes
    apply List.ext_getElem?
    intro i
    rw [List.getElem?_map, List.getElem?_map]
    by_cases hi : i < 64
    · rw [List.getElem?_range hi, (hX i hi).1]; rfl
    · rw [List.getElem?_eq_none (by omega), List.getElem?_eq_none (by simpa using hi)]; rfl

theorem open_secs {v : Value} {d : DataW H} {p : List MemPlace} (o : Value.okWide Try.prog W .any base 26 v) (r : DataW.Trod enc Try.prog W 0 (fun _ => true) true 26 v d p) :
    ∃ a S cap, v = .slice a S.length cap ∧ S.length ≤ cap ∧ cap ≤ maxLen ∧ ScsA W a S := by
  obtain ⟨a0, len0, cap0, rfl⟩ := okWide_slice Try.underlying26 o
  obtain ⟨fuel, hf⟩ := r
  have c44 : Try.prog.cellsOf 75 = 64 := by kernel_rfl
  rcases open_slice Try.underlying26 (by simpa [Value.cells] using hf) with ⟨hcs, _⟩ | ⟨x, l, c, m, n, D, Pl, hcs, _, hl, hm, hmm, _, hx⟩
  · simp at hcs
    obtain ⟨rfl, rfl, rfl⟩ := hcs
    exact ⟨none, [], 0, by simp, by simp, by simp, rowA_nil _ _⟩
  · simp at hcs
    obtain ⟨rfl, rfl, rfl⟩ := hcs
    simp only [if_true] at hmm
    subst hmm
    have inh : Inhabited Sct := ⟨zeroS⟩
    obtain ⟨B, hB⟩ := choose_lt (α := Sct) (n := m) (p := fun i s => W.cells? 0 (x.add (i * 64)) 64 = some (bytes s)) (fun i hi => by
      obtain ⟨cs', h1, h2⟩ := hx i hi
      rw [c44] at h1
      obtain ⟨s, rfl⟩ := sct_cells h2
      exact ⟨s, h1⟩)
    have hlen : ((List.range len0).map B).length = len0 := by simp
    refine ⟨some x, (List.range len0).map B, m, by rw [hlen], by omega, hm, ?_⟩
    intro hne
    have hpos : 0 < len0 := by
      rcases Nat.eq_zero_or_pos len0 with h | h
      · subst h; simp [flatS] at hne
      · exact h
    obtain ⟨b, off, spot⟩ := x
    have hspot : spot = none := by
      have h1 := hB 0 (by omega)
      have := (World.cells?_some h1).2.2 0 (by omega)
      rw [bytes_get _ _ (by omega)] at this
      simpa [Addr.add] using World.cell?_spot this
    subst hspot
    refine ⟨b, off, rfl, fun j u hj => ?_⟩
    have hjl : j < len0 * 64 := by have := (List.getElem?_eq_some_iff.1 hj).1; rw [flatS_len, hlen] at this; exact this
    have hq : j / 64 < len0 := by omega
    have e : j = j / 64 * 64 + j % 64 := by omega
    have hg : ((List.range len0).map B)[j / 64]? = some (B (j / 64)) := by rw [List.getElem?_map, List.getElem?_range hq]; rfl
    rw [e, flatS_get _ _ _ _ hg (by omega)] at hj
    have := (World.cells?_some (hB (j / 64) (by omega))).2.2 (j % 64) (by omega)
    rw [addr_add, addr_add, hj, Nat.add_assoc, ← e] at this
    exact this

theorem open_entry {v : Value} {d : DataW H} {p : List MemPlace} (o : Value.okWide Try.prog W .any base 25 v) (r : DataW.Trod enc Try.prog W 0 (fun _ => true) true 25 v d p) :
    ∃ k e s a bs cap, v = .agg #[.int .i64 k, .int .u32 e, .int .u32 s, .slice a bs.length cap] ∧ (-9223372036854775808 ≤ k ∧ k ≤ 9223372036854775807) ∧ (0 ≤ e ∧ e ≤ 4294967295) ∧ (0 ≤ s ∧ s ≤ 4294967295) ∧ bs.length ≤ cap ∧ cap ≤ maxLen ∧ Byt bs ∧ BysA W a bs := by
  obtain ⟨cs, rfl, hs⟩ := okWide_struct Try.underlying25 o
  obtain ⟨fuel, hf0⟩ := r
  have hf1 : DataW.trod enc Try.prog W 0 (fun _ => true) true fuel 25 cs.toList = some (d, p) := by simpa [Value.cells] using hf0
  obtain ⟨xs, m, _, _, hl, hxl, hf⟩ := DataW.trod_struct Try.underlying25 hf1
  have c25 : Try.prog.cellsOf 25 = 4 := by kernel_rfl
  have c3 : Try.prog.cellsOf 3 = 1 := by kernel_rfl
  have c22 : Try.prog.cellsOf 22 = 1 := by kernel_rfl
  have c23 : Try.prog.cellsOf 23 = 1 := by kernel_rfl
  rw [c25] at hl
  obtain ⟨l⟩ := cs
  match l, hl, xs, hxl with
  | [v0, v1, v2, v3], _, [y0, y1, y2, y3], _ =>
    have g0 := hf 0 _ rfl
    have g1 := hf 1 _ rfl
    have g2 := hf 2 _ rfl
    have g3 := hf 3 _ rfl
    simp [c3, c22, c23] at g0 g1 g2 g3
    obtain ⟨k, e0, _, w0⟩ := DataW.trod_int Try.underlying3 g0
    obtain ⟨e, e1, _, w1⟩ := DataW.trod_int Try.underlying22 g1
    obtain ⟨s, e2, _, w2⟩ := DataW.trod_int Try.underlying22 g2
    obtain ⟨a, bs, cap, e3, h1, h2, h3, h4, _⟩ := bytes_cells Try.underlying23 Try.underlying5 (by kernel_rfl) g3 (fun _ => rfl)
    simp only [List.cons.injEq, and_true] at e0 e1 e2
    subst e0 e1 e2 e3
    exact ⟨k, e, s, a, bs, cap, rfl, wf_i64 w0, wf_u32 w1, wf_u32 w2, h1, h2, h3, h4⟩
end Go.Proofs.Ytfceileohkngnaa
