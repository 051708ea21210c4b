/- Rows of elements of three cells that the call owns: copy, append of zero values, shifts. -/
import Derived.Test.YtbbadncdkiganaaKbss
import Derived.Laws.CopyOwn
import Derived.Lib.AppendZerosOnto
import Derived.Lib.Overlaps
import Derived.Laws.Externs
import Derived.Deep.RegionLaw
namespace Go.Proofs.Ytbbadncdkiganaa
open Go.RowKit
set_option linter.unusedVariables false
set_option maxRecDepth 4000

theorem grown_trans {w w1 w2 : World} {r : Option Nat} (h : w.grownBy w1 r) (k : w1.grownBy w2 r) : w.grownBy w2 r :=
  ⟨k.os.trans h.os, k.tape.trans h.tape, k.output.trans h.output, Nat.le_trans h.size k.size, fun j hj hr => (k.block j (by have := h.size; omega) hr).trans (h.block j hj hr)⟩
theorem grown_below {w w1 : World} {r : Option Nat} (h : Below w.heap.size w w1) : w.grownBy w1 r := ⟨h.os, h.tape, h.output, h.size, fun j hj _ => h.block j hj⟩
theorem below_of_grown {w w1 : World} (h : w.grownBy w1 none) : Below w.heap.size w w1 := ⟨h.os, h.tape, h.output, h.size, fun j hj => h.block j hj (by simp)⟩
/-- A write that begins above the world at hand is no write of it. -/
theorem grown_new {w w1 w2 : World} {g : Nat} {r : Option Nat} (h : w.grownBy w1 r) (k : w1.grownBy w2 (some g)) (hg : w.heap.size ≤ g) : w.grownBy w2 r :=
  ⟨k.os.trans h.os, k.tape.trans h.tape, k.output.trans h.output, Nat.le_trans h.size k.size, fun j hj hr => (k.block j (by have := h.size; omega) (by intro e; cases e; omega)).trans (h.block j hj hr)⟩
theorem grown_drew {w : World} {r : Option Nat} : w.grownBy w.drew r := ⟨rfl, rfl, rfl, Nat.le_refl _, fun _ _ _ => rfl⟩

/-- Block g holds a row of cells, cap elements of three cells each. -/
structure Cur (w : World) (e : TypeId) (g cap : Nat) (cur : List Value) : Prop where
  heap : w.heap[g]? = some (.cells cur.toArray e (0, 0))
  len : cur.length = cap * 3
theorem Cur.lt {w : World} {e : TypeId} {g cap : Nat} {cur : List Value} (h : Cur w e g cap cur) : g < w.heap.size := lt_of_get h.heap
theorem Cur.cell {w : World} {e : TypeId} {g cap : Nat} {cur : List Value} (h : Cur w e g cap cur) (j : Nat) : w.cell? ⟨g, j, none⟩ = cur[j]? := by
  have := (heap_cell h.heap j).1
  simpa using this
theorem Cur.frozen {w : World} {e : TypeId} {g cap : Nat} {cur : List Value} (h : Cur w e g cap cur) (j : Nat) : w.frozen? ⟨g, j, none⟩ = false := (heap_cell h.heap j).2
theorem Cur.keep {w w' : World} {e : TypeId} {g cap : Nat} {cur : List Value} (h : Cur w e g cap cur) {r : Option Nat} (hg : w.grownBy w' r) (hr : some g ≠ r) : Cur w' e g cap cur := ⟨(hg.block g h.lt hr).trans h.heap, h.len⟩
theorem Cur.drew {w : World} {e : TypeId} {g cap : Nat} {cur : List Value} (h : Cur w e g cap cur) : Cur w.drew e g cap cur := ⟨h.heap, h.len⟩

/-- A row of the call's own that has elements, laid open. -/
theorem own_open {w : World} {base : Nat} {e : TypeId} {v : Value} {n : Nat} {xs : List Value} (h : w.ownsRow base e 3 v n xs) (hn : 0 < n) :
    ∃ g cap cur, v = .slice (some ⟨g, 0, none⟩) n cap ∧ base ≤ g ∧ n ≤ cap ∧ cap ≤ maxLen ∧ Cur w e g cap cur ∧ cur.take (n * 3) = xs := by
  obtain ⟨hl, h2⟩ := h
  rcases h2 with ⟨_, h0⟩ | ⟨g, cap, cur, hv, hb, hg, hnc, hcm, hcs, htk⟩
  · omega
  · exact ⟨g, cap, cur.toList, hv, hb, hnc, hcm, ⟨by simpa using hg, by simpa using hcs⟩, htk⟩
theorem own_shut {w : World} {base : Nat} {e : TypeId} {g n cap : Nat} {cur xs : List Value} (h : Cur w e g cap cur) (hb : base ≤ g) (hn : n ≤ cap) (hc : cap ≤ maxLen) (hx : cur.take (n * 3) = xs) : w.ownsRow base e 3 (.slice (some ⟨g, 0, none⟩) n cap) n xs := by
  refine ⟨?_, .inr ⟨g, cap, cur.toArray, rfl, hb, h.heap, hn, hc, by simpa using h.len, by simpa using hx⟩⟩
  rw [← hx, List.length_take, h.len]
  have : n * 3 ≤ cap * 3 := Nat.mul_le_mul_right _ hn
  omega

section
variable {P : Program}
theorem run_copy3 (w : World) (dT sT ty elem : TypeId) (g o dLen dCap b so sLen sCap : Nat) (cur : List Value) (t : TypeId) (cs : List Value) (m : Nat)
    (hu : P.underlying dT = some (.slice elem)) (hs : (P.info? elem).map (·.size) = some 3) (hm : Nat.min sLen dLen = m)
    (hg : w.heap[g]? = some (.cells cur.toArray t (0, 0))) (hn : cs.length = m * 3)
    (hsrc : ∀ j v, cs[j]? = some v → w.cell? ⟨b, so + j, none⟩ = some v) (hfit : o + cs.length ≤ cur.length) (h1 : ∀ v ∈ cs, v.oneCell' = true) :
    (Builtin.copy_ #[dT, sT] ty #[.slice (some ⟨g, o, none⟩) dLen dCap, .slice (some ⟨b, so, none⟩) sLen sCap]).run P w =
      .ok (goInt m) (w.setRow g (splice cur o cs).toArray) := by
  have hl := run_loadCells_list (P := P) w ⟨b, so, none⟩ cs (fun j v hj => by rw [addr_add]; exact hsrc j v hj)
  have hst := run_storeCells_at P g o t cs 0 cur.toArray w hg (by simpa using hfit) h1
  cases hq : P.info? elem with
  | none => simp [hq] at hs
  | some i =>
    have hi : i.size = 3 := by simpa [hq] using hs
    rw [hn] at hl
    simp [Builtin.copy_, run_underlying hu, Builtin.lenOf, Builtin.firstCells, sizeOf, typeInfo, hq, hi, hm, hl, hst, splice]

theorem copy_world {w : World} {g : Nat} {cur : List Value} {t : TypeId} (hg : w.heap[g]? = some (.cells cur.toArray t (0, 0))) (o : Nat) (cs : List Value) : (w.setRow g (splice cur o cs).toArray).heap[g]? = some (.cells (splice cur o cs).toArray t (0, 0)) ∧ w.grownBy (w.setRow g (splice cur o cs).toArray) (some g) :=
  ⟨setRow_heap w g _ _ t _ hg, rfl, rfl, rfl, by simp [World.setRow], fun k hk hr => setRow_other w g k _ (by intro e; subst e; exact hr rfl)⟩

theorem wpList_copy3 {w : World} {ops : Array Oper} {rest : List Oper} {o : Oper} {a : Act} {Q : Exit → Act → World → Prop} (hgd : o.guard = none) (d s : Operand) (dT sT : TypeId)
    (ho : o.op = .call { callee := .builtin .copy, args := #[d, s], argTypes := #[dT, sT] }) (elem : TypeId) (hu : P.underlying dT = some (.slice elem)) (hsz : (P.info? elem).map (·.size) = some 3)
    (g off dLen dCap b so sLen sCap cap : Nat) (cur : List Value) (cs : List Value) (m : Nat) (hd : a.eval d = .slice (some ⟨g, off, none⟩) dLen dCap) (hs : a.eval s = .slice (some ⟨b, so, none⟩) sLen sCap)
    (hm : Nat.min sLen dLen = m) (hC : Cur w elem g cap cur) (hn : cs.length = m * 3)
    (hsrc : ∀ j v, cs[j]? = some v → w.cell? ⟨b, so + j, none⟩ = some v) (hfit : off + cs.length ≤ cur.length) (h1 : ∀ v ∈ cs, v.oneCell' = true)
    (h : ∀ w', Hid (Cur w' elem g cap (splice cur off cs)) → Hid (w.grownBy w' (some g)) → wpList P ops Q rest (a.put o.dst (goInt m)) w') : wpList P ops Q (o :: rest) a w := by
  refine wpList_plain hgd fun K hK => ?_
  have hrun := run_copy3 (P := P) w dT sT o.type elem g off dLen dCap b so sLen sCap cur elem cs m hu hsz hm hC.heap hn hsrc hfit h1
  obtain ⟨k1, k2⟩ := copy_world hC.heap off cs
  unfold Oper.wp
  simp [execOp, ho, resolve, invoke, builtin, hd, hs, hrun, Result.andThen]
  exact hK _ _ (h _ ⟨k1, (length_splice _ _ _ hfit).trans hC.len⟩ k2)
theorem step_copy3 {w : World} {ops : Array Oper} {o : Oper} {a : Act} {K : Act → World → Prop} {Q : Exit → Act → World → Prop} {E : Prop} (hgd : o.guard = none) (d s : Operand) (dT sT : TypeId)
    (ho : o.op = .call { callee := .builtin .copy, args := #[d, s], argTypes := #[dT, sT] }) (elem : TypeId) (hu : P.underlying dT = some (.slice elem)) (hsz : (P.info? elem).map (·.size) = some 3)
    (g off dLen dCap b so sLen sCap cap : Nat) (cur : List Value) (cs : List Value) (m : Nat) (hd : a.eval d = .slice (some ⟨g, off, none⟩) dLen dCap) (hs : a.eval s = .slice (some ⟨b, so, none⟩) sLen sCap)
    (hm : Nat.min sLen dLen = m) (hC : Cur w elem g cap cur) (hn : cs.length = m * 3)
    (hsrc : ∀ j v, cs[j]? = some v → w.cell? ⟨b, so + j, none⟩ = some v) (hfit : off + cs.length ≤ cur.length) (h1 : ∀ v ∈ cs, v.oneCell' = true)
    (h : ∀ w', Hid (Cur w' elem g cap (splice cur off cs)) → Hid (w.grownBy w' (some g)) → K (a.put o.dst (goInt m)) w') : if Region.wanted o (yielded ops a.tmps) = true then Oper.wp P o a w K Q else E := by
  have hw : Region.wanted o (yielded ops a.tmps) = true := by simp [Region.wanted, hgd]
  rw [if_pos hw]
  have hrun := run_copy3 (P := P) w dT sT o.type elem g off dLen dCap b so sLen sCap cur elem cs m hu hsz hm hC.heap hn hsrc hfit h1
  obtain ⟨k1, k2⟩ := copy_world hC.heap off cs
  unfold Oper.wp
  simp [execOp, ho, resolve, invoke, builtin, hd, hs, hrun, Result.andThen]
  exact h _ ⟨k1, (length_splice _ _ _ hfit).trans hC.len⟩ k2
end
/-- What stands behind a shift: the elements up to i, x, and those from i on. -/
theorem shift_in {cur xs ys : List Value} {i n : Nat} (hc : (n + 1) * 3 ≤ cur.length) (hi : i ≤ n) (hx : cur.take (n * 3) = xs) (hy : ys.length = 3) :
    (splice (splice cur ((i + 1) * 3) (xs.drop (i * 3))) (i * 3) ys).take ((n + 1) * 3) = xs.take (i * 3) ++ ys ++ xs.drop (i * 3) := by
  have hxl : xs.length = n * 3 := by rw [← hx, List.length_take]; omega
  apply List.ext_getElem?
  intro j
  unfold splice
  simp only [List.getElem?_take, List.getElem?_append, List.length_take, List.length_append, List.length_drop, List.getElem?_drop, hy, hxl]
  subst hx
  simp only [List.getElem?_take]
  have h3 : i * 3 ≤ n * 3 := Nat.mul_le_mul_right _ hi
  by_cases h1 : j < i * 3
  · have e1 : j < min (i * 3) cur.length := by omega
    simp [h1]
    repeat' split
    all_goals first | rfl | omega | (congr 1; omega)
  · by_cases h2 : j < i * 3 + 3
    · repeat' split
      all_goals first | rfl | omega | (congr 1; omega)
    · repeat' split
      all_goals first | rfl | omega | (congr 1; omega) | (symm; apply List.getElem?_eq_none; omega) | (apply List.getElem?_eq_none; omega)
end Go.Proofs.Ytbbadncdkiganaa
