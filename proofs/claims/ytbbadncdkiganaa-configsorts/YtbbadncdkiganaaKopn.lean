/- Arguments opened: a configuration, edits. -/
import Derived.Test.YtbbadncdkiganaaKopen
import Derived.Test.YtbbadncdkiganaaKwak
namespace Go.Proofs.Ytbbadncdkiganaa
open Go.RowKit Go.ChangeShapes Go.WideShapes Go.Deep
set_option linter.unusedVariables false
set_option maxRecDepth 4000
variable {H : Type} {enc : TypeId × Value → H} {W : World} {base : Nat}

theorem wf_u32 {x : Int} (h : (Lit.int .u32 x).wf = true) : 0 ≤ x ∧ x ≤ 4294967295 := by simpa [Lit.wf, IntKind.min, IntKind.max, IntKind.signed, IntKind.bits] using h
theorem wf_i64 {x : Int} (h : (Lit.int .i64 x).wf = true) : -9223372036854775808 ≤ x ∧ x ≤ 9223372036854775807 := by simpa [Lit.wf, IntKind.min, IntKind.max, IntKind.signed, IntKind.bits] using h
theorem open_int64 {t : TypeId} {v : Value} {d : DataW H} {p : List MemPlace} (ht : Try.prog.underlying t = some (.int .i64)) (o : Value.okWide Try.prog W .any base t v) (r : DataW.Trod enc Try.prog W 0 (fun _ => true) true t v d p) :
    ∃ x, v = .int .i64 x ∧ -9223372036854775808 ≤ x ∧ x ≤ 9223372036854775807 := by
  obtain ⟨x, rfl, rfl, rfl, wx⟩ := open_int ht o r
  exact ⟨x, rfl, wf_i64 wx⟩
/-- A row of elements of n cells each, as it reads. -/
theorem row_cells {α : Type} (z : α) (en : α → List Value) (n : Nat) (hn : 0 < n) (hlen : ∀ x, (en x).length = n) (Q : α → Prop) {t e : TypeId} {fuel : Nat} {v : Value} {y : DataW H × List MemPlace} (ht : Try.prog.underlying t = some (.slice e)) (hce : Try.prog.cellsOf e = n)
    (hel : ∀ (m : Nat) (cs : List Value) (x : DataW H × List MemPlace), DataW.trod enc Try.prog W 0 (fun _ => true) true m e cs = some x → ∃ s : α, cs = en s ∧ Q s)
    (hf : DataW.trod enc Try.prog W 0 (fun _ => true) true fuel t [v] = some y) :
    ∃ (a : Option Addr) (S : List α) (cap : Nat), v = .slice a S.length cap ∧ S.length ≤ cap ∧ cap ≤ maxLen ∧ RowA W a (S.flatMap en) ∧ ∀ s ∈ S, Q s := by
  have fln : ∀ l : List α, (l.flatMap en).length = l.length * n := fun l => by
    induction l with
    | nil => simp
    | cons a t ih => rw [List.flatMap_cons, List.length_append, ih, hlen, List.length_cons, Nat.succ_mul, Nat.add_comm]
  have flg : ∀ (l : List α) (i j : Nat) (x : α), l[i]? = some x → j < n → (l.flatMap en)[i * n + j]? = (en x)[j]? := fun l => by
    induction l with
    | nil => intro i j x h; simp at h
    | cons a t ih =>
      intro i j x h hj
      cases i with
      | zero =>
        simp at h
        subst h
        rw [List.flatMap_cons, Nat.zero_mul, Nat.zero_add, List.getElem?_append_left (by rw [hlen]; exact hj)]
      | succ i =>
        rw [List.flatMap_cons, List.getElem?_append_right (by rw [hlen, Nat.succ_mul]; omega), hlen, show (i + 1) * n + j - n = i * n + j from by rw [Nat.succ_mul]; omega]
        exact ih i j x (by simpa using h) hj
  rcases open_slice ht hf with ⟨hcs, _⟩ | ⟨x, l, c, m, k, D, Pl, hcs, _, hl, hm, hmm, _, hx⟩
  · simp at hcs
    subst hcs
    exact ⟨none, [], 0, by simp, by simp, by simp, rowA_nil _ _, by simp⟩
  · simp at hcs
    subst hcs
    simp only [if_true] at hmm
    subst hmm
    have inh : Inhabited α := ⟨z⟩
    obtain ⟨B, hB⟩ := choose_lt (α := α) (n := m) (p := fun i s => W.cells? 0 (x.add (i * n)) n = some (en s) ∧ Q s) (fun i hi => by
      obtain ⟨cs', h1, h2⟩ := hx i hi
      rw [hce] at h1
      obtain ⟨s, rfl, hq⟩ := hel _ _ _ h2
      exact ⟨s, h1, hq⟩)
    have hlen0 : ((List.range l).map B).length = l := by simp
    refine ⟨some x, (List.range l).map B, m, by rw [hlen0], by omega, hm, ?_, ?_⟩
    · intro hne
      have hpos : 0 < l := by
        rcases Nat.eq_zero_or_pos l with h | h
        · subst h; simp at hne
        · exact h
      obtain ⟨b, off, spot⟩ := x
      have hspot : spot = none := by
        have h1 := (hB 0 (by omega)).1
        have h2 := (World.cells?_some h1).2.2 0 hn
        rw [List.getElem?_eq_getElem (by rw [hlen]; exact hn)] at h2
        simpa [Addr.add] using World.cell?_spot h2
      subst hspot
      refine ⟨b, off, rfl, fun j u hj => ?_⟩
      have hjl : j < l * n := by have := (List.getElem?_eq_some_iff.1 hj).1; rw [fln, hlen0] at this; exact this
      have hq : j / n < l := Nat.div_lt_of_lt_mul (by rw [Nat.mul_comm]; exact hjl)
      have hr : j % n < n := Nat.mod_lt _ hn
      have e : j = j / n * n + j % n := by rw [Nat.mul_comm]; exact (Nat.div_add_mod j n).symm
      have hg : ((List.range l).map B)[j / n]? = some (B (j / n)) := by rw [List.getElem?_map, List.getElem?_range hq]; rfl
      rw [e, flg _ _ _ _ hg hr] at hj
      have := (World.cells?_some (hB (j / n) (by omega)).1).2.2 (j % n) hr
      rw [addr_add, addr_add, hj, Nat.add_assoc, ← e] at this
      exact this
    · intro s hs
      obtain ⟨i, hi, rfl⟩ := List.mem_map.1 hs
      exact (hB i (by have := List.mem_range.1 hi; omega)).2

theorem Try.c3 : Try.prog.cellsOf 3 = 1 := by kernel_rfl
theorem Try.c4 : Try.prog.cellsOf 4 = 1 := by kernel_rfl
theorem Try.c5 : Try.prog.cellsOf 5 = 1 := by kernel_rfl
theorem Try.c42 : Try.prog.cellsOf 42 = 1 := by kernel_rfl
theorem Try.c48 : Try.prog.cellsOf 48 = 1 := by kernel_rfl
theorem Try.c22 : Try.prog.cellsOf 22 = 1 := by kernel_rfl
theorem Try.c23 : Try.prog.cellsOf 23 = 1 := by kernel_rfl
theorem Try.c24 : Try.prog.cellsOf 24 = 1 := by kernel_rfl
theorem Try.c50 : Try.prog.cellsOf 50 = 3 := by kernel_rfl
theorem Try.c46 : Try.prog.cellsOf 46 = 3 := by kernel_rfl
theorem Try.c52 : Try.prog.cellsOf 52 = 3 := by kernel_rfl
theorem Try.c44 : Try.prog.cellsOf 44 = 7 := by kernel_rfl
theorem Try.c26 : Try.prog.cellsOf 26 = 6 := by kernel_rfl
theorem port_el (m : Nat) (cs : List Value) (x : DataW H × List MemPlace) (h : DataW.trod enc Try.prog W 0 (fun _ => true) true m 50 cs = some x) : ∃ s : PortC, cs = encP s ∧ True := by
  obtain ⟨xs, m, _, _, hl, hxl, hf⟩ := DataW.trod_struct Try.underlying50 h
  rw [Try.c50] at hl
  match cs, hl, xs, hxl with
  | [v0, v1, v2], _, [y0, y1, y2], _ =>
    have g0 := hf 0 _ rfl
    have g1 := hf 1 _ rfl
    have g2 := hf 2 _ rfl
    simp [Try.c3, Try.c4, Try.c48] at g0 g1 g2
    obtain ⟨b, e0, _⟩ := DataW.trod_bool Try.underlying4 g0
    obtain ⟨c, e1, _, w1⟩ := DataW.trod_int Try.underlying48 g1
    obtain ⟨p, e2, _, w2⟩ := DataW.trod_int Try.underlying3 g2
    simp only [List.cons.injEq, and_true] at e0 e1 e2
    subst e0 e1 e2
    exact ⟨(b, c, p), rfl, trivial⟩
theorem vlan_el (m : Nat) (cs : List Value) (x : DataW H × List MemPlace) (h : DataW.trod enc Try.prog W 0 (fun _ => true) true m 46 cs = some x) : ∃ s : VlanC, cs = encV s ∧ (0 ≤ s.2.1 ∧ s.2.1 ≤ 255) := by
  obtain ⟨xs, m, _, _, hl, hxl, hf⟩ := DataW.trod_struct Try.underlying46 h
  rw [Try.c46] at hl
  match cs, hl, xs, hxl with
  | [v0, v1, v2], _, [y0, y1, y2], _ =>
    have g0 := hf 0 _ rfl
    have g1 := hf 1 _ rfl
    have g2 := hf 2 _ rfl
    simp [Try.c3, Try.c5] at g0 g1 g2
    obtain ⟨b, e0, _, w0⟩ := DataW.trod_int Try.underlying3 g0
    obtain ⟨c, e1, _, w1⟩ := DataW.trod_int Try.underlying5 g1
    obtain ⟨p, e2, _, w2⟩ := DataW.trod_int Try.underlying5 g2
    simp only [List.cons.injEq, and_true] at e0 e1 e2
    subst e0 e1 e2
    exact ⟨(b, c, p), rfl, wf_u8 w1⟩
theorem stat_el (m : Nat) (cs : List Value) (x : DataW H × List MemPlace) (h : DataW.trod enc Try.prog W 0 (fun _ => true) true m 52 cs = some x) : ∃ s : StatC, cs = encS s ∧ True := by
  obtain ⟨xs, m, _, _, hl, hxl, hf⟩ := DataW.trod_struct Try.underlying52 h
  rw [Try.c52] at hl
  match cs, hl, xs, hxl with
  | [v0, v1, v2], _, [y0, y1, y2], _ =>
    have g0 := hf 0 _ rfl
    have g1 := hf 1 _ rfl
    have g2 := hf 2 _ rfl
    simp [Try.c3, Try.c42] at g0 g1 g2
    obtain ⟨b, e0, _, w0⟩ := DataW.trod_int Try.underlying42 g0
    obtain ⟨c, e1, _, w1⟩ := DataW.trod_int Try.underlying3 g1
    obtain ⟨p, e2, _, w2⟩ := DataW.trod_int Try.underlying3 g2
    simp only [List.cons.injEq, and_true] at e0 e1 e2
    subst e0 e1 e2
    exact ⟨(b, c, p), rfl, trivial⟩
theorem ed_el (m : Nat) (cs : List Value) (x : DataW H × List MemPlace) (h : DataW.trod enc Try.prog W 0 (fun _ => true) true m 44 cs = some x) : ∃ s : Ed, cs = encE s ∧ (0 ≤ s.member ∧ s.member ≤ 255) := by
  obtain ⟨xs, m, _, _, hl, hxl, hf⟩ := DataW.trod_struct Try.underlying44 h
  rw [Try.c44] at hl
  match cs, hl, xs, hxl with
  | [v0, v1, v2, v3, v4, v5, v6], _, [y0, y1, y2, y3, y4, y5, y6], _ =>
    have g0 := hf 0 _ rfl
    have g1 := hf 1 _ rfl
    have g2 := hf 2 _ rfl
    have g3 := hf 3 _ rfl
    have g4 := hf 4 _ rfl
    have g5 := hf 5 _ rfl
    have g6 := hf 6 _ rfl
    simp [Try.c3, Try.c5, Try.c42] at g0 g1 g2 g3 g4 g5 g6
    obtain ⟨a0, e0, _, w0⟩ := DataW.trod_int Try.underlying3 g0
    obtain ⟨a1, e1, _, w1⟩ := DataW.trod_int Try.underlying3 g1
    obtain ⟨a2, e2, _, w2⟩ := DataW.trod_int Try.underlying3 g2
    obtain ⟨a3, e3, _, w3⟩ := DataW.trod_int Try.underlying3 g3
    obtain ⟨a4, e4, _, w4⟩ := DataW.trod_int Try.underlying5 g4
    obtain ⟨a5, e5, _, w5⟩ := DataW.trod_int Try.underlying5 g5
    obtain ⟨a6, e6, _, w6⟩ := DataW.trod_int Try.underlying42 g6
    simp only [List.cons.injEq, and_true] at e0 e1 e2 e3 e4 e5 e6
    subst e0 e1 e2 e3 e4 e5 e6
    exact ⟨⟨a0, a1, a2, a3, a4, a5, a6⟩, rfl, wf_u8 w4⟩
theorem open_eds {v : Value} {d : DataW H} {p : List MemPlace} (o : Value.okWide Try.prog W .any base 37 v) (r : DataW.Trod enc Try.prog W 0 (fun _ => true) true 37 v d p) :
    ∃ (A : Option Addr) (l : List Ed) (cap : Nat), v = .slice A l.length cap ∧ l.length ≤ cap ∧ cap ≤ maxLen ∧ RowA W A (flE l) ∧ ∀ e ∈ l, 0 ≤ e.member ∧ e.member ≤ 255 := by
  obtain ⟨a0, len0, cap0, rfl⟩ := okWide_slice Try.underlying37 o
  obtain ⟨fuel, hf⟩ := r
  exact row_cells (⟨0, 0, 0, 0, 0, 0, 0⟩ : Ed) encE 7 (by omega) (fun _ => rfl) (fun s => 0 ≤ s.member ∧ s.member ≤ 255) Try.underlying37 Try.c44 ed_el (by simpa [Value.cells] using hf)
theorem open_cfg {v : Value} {d : DataW H} {p : List MemPlace} (o : Value.okWide Try.prog W .any base 26 v) (r : DataW.Trod enc Try.prog W 0 (fun _ => true) true 26 v d p) :
    ∃ (c : Cfg) (Ap Av As : Option Addr) (cp cv cs : Nat), v = .agg #[.int .i64 c.prio, .int .i64 c.age, .int .i64 c.delay, .slice Ap c.ports.length cp, .slice Av c.vlans.length cv, .slice As c.stats.length cs] ∧ Lens c ∧ Mems c ∧ CfgA W c Ap Av As := by
  obtain ⟨cs, rfl, hs⟩ := okWide_struct Try.underlying26 o
  obtain ⟨fuel, hf0⟩ := r
  have hf1 : DataW.trod enc Try.prog W 0 (fun _ => true) true fuel 26 cs.toList = some (d, p) := by simpa [Value.cells] using hf0
  obtain ⟨xs, m, _, _, hl, hxl, hf⟩ := DataW.trod_struct Try.underlying26 hf1
  rw [Try.c26] at hl
  obtain ⟨l⟩ := cs
  match l, hl, xs, hxl with
  | [v0, v1, v2, v3, v4, v5], _, [y0, y1, y2, y3, y4, y5], _ =>
    have g0 := hf 0 _ rfl
    have g1 := hf 1 _ rfl
    have g2 := hf 2 _ rfl
    have g3 := hf 3 _ rfl
    have g4 := hf 4 _ rfl
    have g5 := hf 5 _ rfl
    simp [Try.c3, Try.c22, Try.c23, Try.c24] at g0 g1 g2 g3 g4 g5
    obtain ⟨a0, e0, _, w0⟩ := DataW.trod_int Try.underlying3 g0
    obtain ⟨a1, e1, _, w1⟩ := DataW.trod_int Try.underlying3 g1
    obtain ⟨a2, e2, _, w2⟩ := DataW.trod_int Try.underlying3 g2
    obtain ⟨Ap, P, cp, rfl, p1, p2, p3, _⟩ := row_cells ((false, 0, 0) : PortC) encP 3 (by omega) (fun _ => rfl) (fun _ => True) Try.underlying22 Try.c50 port_el g3
    obtain ⟨Av, V, cv, rfl, q1, q2, q3, q4⟩ := row_cells ((0, 0, 0) : VlanC) encV 3 (by omega) (fun _ => rfl) (fun s => 0 ≤ s.2.1 ∧ s.2.1 ≤ 255) Try.underlying23 Try.c46 vlan_el g4
    obtain ⟨As, S, cs, rfl, r1, r2, r3, _⟩ := row_cells ((0, 0, 0) : StatC) encS 3 (by omega) (fun _ => rfl) (fun _ => True) Try.underlying24 Try.c52 stat_el g5
    simp only [List.cons.injEq, and_true] at e0 e1 e2
    subst e0 e1 e2
    exact ⟨⟨a0, a1, a2, P, V, S⟩, Ap, Av, As, cp, cv, cs, rfl, ⟨by dsimp only; omega, by dsimp only; omega, by dsimp only; omega⟩, q4, p3, q3, r3⟩
end Go.Proofs.Ytbbadncdkiganaa
