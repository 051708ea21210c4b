/- Arguments opened: a frame, bytes, numbers. -/
import Derived.Test.YthonngnmdciheaaWk
import Derived.ChangeMaps5
import Derived.ProofKit
import Derived.OpenShut
import Derived.Deep.Slices
import Derived.ChangeShapes
import Derived.WideShapes
namespace Go.Proofs.Ythonngnmdciheaa
open Go.RowKit Go.ChangeShapes Go.WideShapes Go.Deep
set_option linter.unusedVariables false
set_option maxRecDepth 4000
variable {H : Type} {enc : TypeId × Value → H} {W : World} {base : Nat}
theorem wf_u8 {x : Int} (h : (Lit.int .u8 x).wf = true) : 0 ≤ x ∧ x ≤ 255 := by simpa [Lit.wf, IntKind.min, IntKind.max, IntKind.signed, IntKind.bits] using h
theorem wf_u16 {x : Int} (h : (Lit.int .u16 x).wf = true) : 0 ≤ x ∧ x ≤ 65535 := by simpa [Lit.wf, IntKind.min, IntKind.max, IntKind.signed, IntKind.bits] using h
theorem wf_u64 {x : Int} (h : (Lit.int .u64 x).wf = true) : 0 ≤ x ∧ x ≤ 18446744073709551615 := by simpa [Lit.wf, IntKind.min, IntKind.max, IntKind.signed, IntKind.bits] using h
theorem wf_i64 {x : Int} (h : (Lit.int .i64 x).wf = true) : -9223372036854775808 ≤ x ∧ x ≤ 9223372036854775807 := by simpa [Lit.wf, IntKind.min, IntKind.max, IntKind.signed, IntKind.bits] using h
theorem open_int64 {t : TypeId} {v : Value} {d : DataW H} {p : List MemPlace} (ht : Try.prog.underlying t = some (.int .i64)) (o : Value.okWide Try.prog W .any base t v) (r : DataW.Trod enc Try.prog W 0 (fun _ => true) true t v d p) :
    ∃ x, v = .int .i64 x ∧ -9223372036854775808 ≤ x ∧ x ≤ 9223372036854775807 := by
  obtain ⟨x, rfl, rfl, rfl, wx⟩ := open_int ht o r
  exact ⟨x, rfl, wf_i64 wx⟩
theorem open_u16 {t : TypeId} {v : Value} {d : DataW H} {p : List MemPlace} (ht : Try.prog.underlying t = some (.int .u16)) (o : Value.okWide Try.prog W .any base t v) (r : DataW.Trod enc Try.prog W 0 (fun _ => true) true t v d p) :
    ∃ x : Nat, v = .int .u16 x ∧ x < 65536 := by
  obtain ⟨x, rfl, rfl, rfl, wx⟩ := open_int ht o r
  obtain ⟨h1, h2⟩ := wf_u16 wx
  exact ⟨x.toNat, by rw [Int.toNat_of_nonneg h1], by omega⟩
/-- A row of elements of n cells each, as it reads. -/
theorem row_cells {α : Type} (z : α) (en : α → List Value) (n : Nat) (hn : 0 < n) (hlen : ∀ x, (en x).length = n) (Q : α → Prop) {t e : TypeId} {fuel : Nat} {v : Value} {y : DataW H × List MemPlace} (ht : Try.prog.underlying t = some (.slice e)) (hce : Try.prog.cellsOf e = n)
    (hel : ∀ (m : Nat) (cs : List Value) (x : DataW H × List MemPlace), DataW.trod enc Try.prog W 0 (fun _ => true) true m e cs = some x → ∃ s : α, cs = en s ∧ Q s)
    (hf : DataW.trod enc Try.prog W 0 (fun _ => true) true fuel t [v] = some y) :
    ∃ (a : Option Addr) (S : List α) (cap : Nat), v = .slice a S.length cap ∧ S.length ≤ cap ∧ cap ≤ maxLen ∧ RowA W a (S.flatMap en) ∧ ∀ s ∈ S, Q s := by
  have fln : ∀ l : List α, (l.flatMap en).length = l.length * n := fun l => by
    induction l with
    | nil => simp
    | cons a t ih => rw [List.flatMap_cons, List.length_append, ih, hlen, List.length_cons, Nat.succ_mul, Nat.add_comm]
  have flg : ∀ (l : List α) (i j : Nat) (x : α), l[i]? = some x → j < n → (l.flatMap en)[i * n + j]? = (en x)[j]? := fun l => by
    induction l with
    | nil => intro i j x h; simp at h
    | cons a t ih =>
      intro i j x h hj
      cases i with
      | zero =>
        simp at h
        subst h
        rw [List.flatMap_cons, Nat.zero_mul, Nat.zero_add, List.getElem?_append_left (by rw [hlen]; exact hj)]
      | succ i =>
        rw [List.flatMap_cons, List.getElem?_append_right (by rw [hlen, Nat.succ_mul]; omega), hlen, show (i + 1) * n + j - n = i * n + j from by rw [Nat.succ_mul]; omega]
        exact ih i j x (by simpa using h) hj
  rcases open_slice ht hf with ⟨hcs, _⟩ | ⟨x, l, c, m, k, D, Pl, hcs, _, hl, hm, hmm, _, hx⟩
  · simp at hcs
    subst hcs
    exact ⟨none, [], 0, by simp, by simp, by simp, rowA_nil _ _, by simp⟩
  · simp at hcs
    subst hcs
    simp only [if_true] at hmm
    subst hmm
    have inh : Inhabited α := ⟨z⟩
    obtain ⟨B, hB⟩ := choose_lt (α := α) (n := m) (p := fun i s => W.cells? 0 (x.add (i * n)) n = some (en s) ∧ Q s) (fun i hi => by
      obtain ⟨cs', h1, h2⟩ := hx i hi
      rw [hce] at h1
      obtain ⟨s, rfl, hq⟩ := hel _ _ _ h2
      exact ⟨s, h1, hq⟩)
    have hlen0 : ((List.range l).map B).length = l := by simp
    refine ⟨some x, (List.range l).map B, m, by rw [hlen0], by omega, hm, ?_, ?_⟩
    · intro hne
      have hpos : 0 < l := by
        rcases Nat.eq_zero_or_pos l with h | h
        · subst h; simp at hne
        · exact h
      obtain ⟨b, off, spot⟩ := x
      have hspot : spot = none := by
        have h1 := (hB 0 (by omega)).1
        have h2 := (World.cells?_some h1).2.2 0 hn
        rw [List.getElem?_eq_getElem (by rw [hlen]; exact hn)] at h2
        simpa [Addr.add] using World.cell?_spot h2
      subst hspot
      refine ⟨b, off, rfl, fun j u hj => ?_⟩
      have hjl : j < l * n := by have := (List.getElem?_eq_some_iff.1 hj).1; rw [fln, hlen0] at this; exact this
      have hq : j / n < l := Nat.div_lt_of_lt_mul (by rw [Nat.mul_comm]; exact hjl)
      have hr : j % n < n := Nat.mod_lt _ hn
      have e : j = j / n * n + j % n := by rw [Nat.mul_comm]; exact (Nat.div_add_mod j n).symm
      have hg : ((List.range l).map B)[j / n]? = some (B (j / n)) := by rw [List.getElem?_map, List.getElem?_range hq]; rfl
      rw [e, flg _ _ _ _ hg hr] at hj
      have := (World.cells?_some (hB (j / n) (by omega)).1).2.2 (j % n) hr
      rw [addr_add, addr_add, hj, Nat.add_assoc, ← e] at this
      exact this
    · intro s hs
      obtain ⟨i, hi, rfl⟩ := List.mem_map.1 hs
      exact (hB i (by have := List.mem_range.1 hi; omega)).2

theorem Try.c3 : Try.prog.cellsOf 3 = 1 := by kernel_rfl
theorem Try.c4 : Try.prog.cellsOf 4 = 1 := by kernel_rfl
theorem Try.c5 : Try.prog.cellsOf 5 = 1 := by kernel_rfl
theorem Try.c22 : Try.prog.cellsOf 22 = 1 := by kernel_rfl
theorem Try.c23 : Try.prog.cellsOf 23 = 1 := by kernel_rfl
theorem Try.c25 : Try.prog.cellsOf 25 = 7 := by kernel_rfl
theorem byte_el (m : Nat) (cs : List Value) (x : DataW H × List MemPlace) (h : DataW.trod enc Try.prog W 0 (fun _ => true) true m 5 cs = some x) : ∃ s : Nat, cs = [Value.int .u8 (s : Int)] ∧ s < 256 := by
  obtain ⟨b, e0, _, w0⟩ := DataW.trod_int Try.underlying5 h
  obtain ⟨h1, h2⟩ := wf_u8 w0
  exact ⟨b.toNat, by rw [Int.toNat_of_nonneg h1]; exact e0, by omega⟩
theorem flat_u8s (l : List Nat) : (l.flatMap fun (s : Nat) => [Value.int .u8 (s : Int)]) = u8s l := by
  induction l with
  | nil => rfl
  | cons a t ih => rw [List.flatMap_cons, ih]; rfl
theorem row_bytes {fuel : Nat} {v : Value} {y : DataW H × List MemPlace} (hf : DataW.trod enc Try.prog W 0 (fun _ => true) true fuel 23 [v] = some y) : ∃ (A : Option Addr) (bs : List Nat) (cap : Nat), v = .slice A bs.length cap ∧ bs.length ≤ cap ∧ cap ≤ 9223372036854775807 ∧ RowA W A (u8s bs) ∧ ∀ x ∈ bs, x < 256 := by
  obtain ⟨A, S, cap, h1, h2, h3, h4, h5⟩ := row_cells (0 : Nat) (fun s : Nat => [Value.int .u8 (s : Int)]) 1 (by omega) (fun _ => rfl) (fun s => s < 256) Try.underlying23 Try.c5 byte_el hf
  rw [flat_u8s] at h4
  exact ⟨A, S, cap, h1, h2, h3, h4, h5⟩
theorem open_bytes {v : Value} {d : DataW H} {p : List MemPlace} (o : Value.okWide Try.prog W .any base 23 v) (r : DataW.Trod enc Try.prog W 0 (fun _ => true) true 23 v d p) :
    ∃ (A : Option Addr) (bs : List Nat) (cap : Nat), v = .slice A bs.length cap ∧ bs.length ≤ cap ∧ cap ≤ 9223372036854775807 ∧ RowA W A (u8s bs) ∧ ∀ x ∈ bs, x < 256 := by
  obtain ⟨a0, len0, cap0, rfl⟩ := okWide_slice Try.underlying23 o
  obtain ⟨fuel, hf⟩ := r
  exact row_bytes (by simpa [Value.cells] using hf)
theorem open_fr {v : Value} {d : DataW H} {p : List MemPlace} (o : Value.okWide Try.prog W .any base 25 v) (r : DataW.Trod enc Try.prog W 0 (fun _ => true) true 25 v d p) :
    ∃ (f : Fr) (A : Option Addr) (c : Nat), v = .agg #[.int .u64 (f.dst : Int), .int .u64 (f.src : Int), .bool f.tag, .int .i64 f.prio, .int .i64 f.vid, .int .i64 f.kind, .slice A f.bs.length c] ∧ f.Fit ∧ RowA W A (u8s f.bs) := by
  obtain ⟨cs, rfl, hs⟩ := okWide_struct Try.underlying25 o
  obtain ⟨fuel, hf0⟩ := r
  have hf1 : DataW.trod enc Try.prog W 0 (fun _ => true) true fuel 25 cs.toList = some (d, p) := by simpa [Value.cells] using hf0
  obtain ⟨xs, m, _, _, hl, hxl, hf⟩ := DataW.trod_struct Try.underlying25 hf1
  rw [Try.c25] at hl
  obtain ⟨l⟩ := cs
  match l, hl, xs, hxl with
  | [v0, v1, v2, v3, v4, v5, v6], _, [y0, y1, y2, y3, y4, y5, y6], _ =>
    have g0 := hf 0 _ rfl
    have g1 := hf 1 _ rfl
    have g2 := hf 2 _ rfl
    have g3 := hf 3 _ rfl
    have g4 := hf 4 _ rfl
    have g5 := hf 5 _ rfl
    have g6 := hf 6 _ rfl
    simp [Try.c3, Try.c4, Try.c22, Try.c23] at g0 g1 g2 g3 g4 g5 g6
    obtain ⟨a0, e0, _, w0⟩ := DataW.trod_int Try.underlying22 g0
    obtain ⟨a1, e1, _, w1⟩ := DataW.trod_int Try.underlying22 g1
    obtain ⟨a2, e2, _⟩ := DataW.trod_bool Try.underlying4 g2
    obtain ⟨a3, e3, _, w3⟩ := DataW.trod_int Try.underlying3 g3
    obtain ⟨a4, e4, _, w4⟩ := DataW.trod_int Try.underlying3 g4
    obtain ⟨a5, e5, _, w5⟩ := DataW.trod_int Try.underlying3 g5
    obtain ⟨A, bs, cap, rfl, q1, q2, q3, q4⟩ := row_bytes g6
    simp only [List.cons.injEq, and_true] at e0 e1 e2 e3 e4 e5
    subst e0 e1 e2 e3 e4 e5
    obtain ⟨h0, h0'⟩ := wf_u64 w0
    obtain ⟨h1, h1'⟩ := wf_u64 w1
    refine ⟨⟨a0.toNat, a1.toNat, a2, a3, a4, a5, bs⟩, A, cap, by simp only [Int.toNat_of_nonneg h0, Int.toNat_of_nonneg h1], ⟨by show a0.toNat < _; omega, by show a1.toNat < _; omega, wf_i64 w3, wf_i64 w4, wf_i64 w5, q4, by show bs.length ≤ _; omega⟩, q3⟩
end Go.Proofs.Ythonngnmdciheaa
