/- Helpers over any program: rows of cells that came in, rows that the call owns, append of the one onto the other; stores of many cells. -/
import Derived.WalkKit
import Derived.WalkSpells
import Derived.Below
import Derived.OwnWalk
import Derived.Deep.AppendLies
import Derived.RegionTactic
import Derived.Deep.QuietTactic
import Derived.BigQuiet
import Derived.Test.YtbbadncdkiganaaProg
import Derived.Laws.BytesArg
import Derived.Lib.SlBytesConst
import Derived.Deep.RegionHeld3
import Derived.Deep.DrawnRows
import Derived.Laws.Slices
import Derived.Deep.CutRange
import Derived.Deep.MidRow
import Derived.Deep.LoopGhost
import Derived.Laws.Build
/- Helpers over any program: rows of cells that came in, rows that the call owns, append of the one onto the other. -/
namespace Go.Proofs.Ytbbadncdkiganaa
open Go.RowKit
set_option linter.unusedVariables false

theorem hide {p : Prop} (h : p) : Hid p := h
theorem unhide {p : Prop} (h : Hid p) : p := h

theorem addr_add (b off i : Nat) : (⟨b, off, none⟩ : Addr).add i = ⟨b, off + i, none⟩ := by unfold Addr.add; split <;> simp_all

theorem maxLen_ge (n : Nat) (h : n ≤ 9223372036854775807) : n ≤ maxLen := h

theorem below_alloc {w0 w' : World} (h : Below w0.heap.size w0 w') (o : Obj) : Below w0.heap.size w0 (w'.alloc o) := h.alloc h.size o
theorem below_drewN {B : Nat} {w0 w' : World} (h : Below B w0 w') (n : Nat) : Below B w0 (w'.drewN n) := ⟨h.os, h.tape, h.output, h.size, h.block⟩
/-- What a callee that makes memory leaves, seen from the call's own beginning. -/
theorem below_then {w0 w1 w2 : World} (h : Below w0.heap.size w0 w1) (k : Below w1.heap.size w1 w2) : Below w0.heap.size w0 w2 := h.trans (k.mono h.size)
theorem below_set {w0 w' : World} (h : Below w0.heap.size w0 w') (g i : Nat) (u : Value) (hg : w0.heap.size ≤ g) : Below w0.heap.size w0 (w'.setCell ⟨g, i, none⟩ u) := h.setCell hg u

/-- The values vs lie one behind the other from A on. -/
def RowA (w : World) (A : Option Addr) (vs : List Value) : Prop :=
  vs ≠ [] → ∃ b off, A = some ⟨b, off, none⟩ ∧ ∀ j u, vs[j]? = some u → w.cell? ⟨b, off + j, none⟩ = some u

theorem rowA_nil (w : World) (A : Option Addr) : RowA w A [] := fun h => absurd rfl h

theorem rowA_below {w0 W : World} {A : Option Addr} {vs : List Value} (h : RowA w0 A vs) (hb : Below w0.heap.size w0 W) : RowA W A vs := by
  intro hne
  obtain ⟨b, off, ha, hc⟩ := h hne
  exact ⟨b, off, ha, fun j u hj => by rw [hb.cell (World.block_lt_of_cell? _ _ (hc j u hj))]; exact hc j u hj⟩

theorem run_append_none {P : Program} {w : World} (base : Nat) (t ty e : TypeId) (i : TypeInfo) (size c : Nat) (ht : P.underlying t = some (.slice e)) (hi : P.info? e = some i)
    (v : Value) (n : Nat) (xs : List Value) (hown : w.ownsRow base e size v n xs) :
    (Builtin.append_ #[t, t] ty #[v, .slice none 0 c]).run P w = .ok v w := by
  rcases hown.2 with ⟨rfl, rfl⟩ | ⟨g, cap, cur, rfl, _, _, hnc, _⟩
  · simp [Builtin.append_, run_underlying ht, sizeOf, typeInfo, hi, Builtin.lenOf, Builtin.firstCells]
  · simp [Builtin.append_, run_underlying ht, sizeOf, typeInfo, hi, Builtin.lenOf, Builtin.firstCells, hnc, storeCells]

/-- append of a row, nil or not, onto a row that the call owns. -/
theorem run_append_row {P : Program} {w : World} (base : Nat) (t ty e : TypeId) (i : TypeInfo) (z : Value) (size bytes : Nat) (ht : P.underlying t = some (.slice e)) (hi : P.info? e = some i) (hz : i.zero = some z)
    (hsize : i.size = size) (hby : i.bytes = bytes) (hzs : z.cells.size = size) (hsz : 0 < size)
    (v : Value) (n : Nat) (xs : List Value) (hown : w.ownsRow base e size v n xs)
    (A : Option Addr) (m c : Nat) (vs : List Value) (hl : vs.length = m * size) (hR : RowA w A vs) (h1 : ∀ u ∈ vs, u.oneCell' = true)
    (hbytes : (n + m) * bytes ≤ 140737488355328) (hb1 : 0 < bytes) (hbase : base ≤ w.heap.size) :
    ∃ v' w', (Builtin.append_ #[t, t] ty #[v, .slice A m c]).run P w = .ok v' w' ∧ w'.ownsRow base e size v' (n + m) (xs ++ vs) ∧ w.grownBy w' v.ownBlock ∧
      (v'.ownBlock = v.ownBlock ∨ v'.ownBlock = some w.heap.size) := by
  have h63 : n + m ≤ maxLen := by
    have : (n + m) * 1 ≤ (n + m) * bytes := Nat.mul_le_mul_left _ hb1
    unfold maxLen; omega
  cases A with
  | none =>
    have hv : vs = [] := by
      apply Classical.byContradiction
      intro hne
      obtain ⟨b, off, ha, _⟩ := hR hne
      cases ha
    subst hv
    obtain rfl : m = 0 := by
      rcases Nat.eq_zero_or_pos m with h | h
      · exact h
      · have := Nat.mul_pos h hsz; simp at hl; omega
    exact ⟨v, w, run_append_none base t ty e i size c ht hi v n xs hown, by simpa using hown, ⟨rfl, rfl, rfl, Nat.le_refl _, fun _ _ _ => rfl⟩, .inl rfl⟩
  | some ad =>
    have hn : ∀ j u, vs[j]? = some u → w.cell? (ad.add j) = some u := by
      intro j u hj
      obtain ⟨b, off, ha, hc⟩ := hR (by rintro rfl; simp at hj)
      cases ha
      rw [addr_add]; exact hc j u hj
    obtain ⟨v', w', hr, h2, h3, _, h5⟩ := run_append_own_at (P := P) w base t ty e i z size bytes ht hi hz hsize hby hzs hsz v n xs hown ad m c vs hl hn h1 h63 hbytes hbase
    exact ⟨v', w', hr, h2, h3, h5⟩

theorem wp_append_row {P : Program} {w : World} {o : Oper} {a : Act} {K : Act → World → Prop} {Q : Exit → Act → World → Prop} (s x : Operand) (t : TypeId)
    (ho : o.op = .call { callee := .builtin .append, args := #[s, x], argTypes := #[t, t] })
    (base : Nat) (e : TypeId) (i : TypeInfo) (z : Value) (size bytes : Nat) (ht : P.underlying t = some (.slice e)) (hi : P.info? e = some i) (hz : i.zero = some z)
    (hsize : i.size = size) (hby : i.bytes = bytes) (hzs : z.cells.size = size) (hsz : 0 < size) (hb1 : 0 < bytes)
    (v : Value) (n : Nat) (xs : List Value) (hs : a.eval s = v) (hown : w.ownsRow base e size v n xs)
    (A : Option Addr) (m c : Nat) (vs : List Value) (hx : a.eval x = .slice A m c) (hl : vs.length = m * size) (hR : RowA w A vs) (h1 : ∀ u ∈ vs, u.oneCell' = true)
    (hbytes : (n + m) * bytes ≤ 140737488355328) (hbase : base ≤ w.heap.size)
    (h : ∀ v' w', w'.ownsRow base e size v' (n + m) (xs ++ vs) → w.grownBy w' v.ownBlock → (v'.ownBlock = v.ownBlock ∨ v'.ownBlock = some w.heap.size) → K (a.put o.dst v') w') : o.wp P a w K Q := by
  obtain ⟨v', w', hr, h2, h3, h4⟩ := run_append_row (P := P) (w := w) base t o.type e i z size bytes ht hi hz hsize hby hzs hsz v n xs hown A m c vs hl hR h1 hbytes hb1 hbase
  unfold Oper.wp execOp
  simp only [ho, resolve, invoke, builtin, Sem.run_bind, Sem.run_pure, Result.andThen_ok, List.map_toArray, List.map_cons, List.map_nil, hs, hx, hr]
  exact h v' w' h2 h3 h4

/-- At the list of a plain region's operations. -/
theorem wpList_append_row {P : Program} {w : World} {ops : Array Oper} {rest : List Oper} {o : Oper} {a : Act} {Q : Exit → Act → World → Prop} (hgd : o.guard = none) (s x : Operand) (t : TypeId)
    (ho : o.op = .call { callee := .builtin .append, args := #[s, x], argTypes := #[t, t] })
    (base : Nat) (e : TypeId) (i : TypeInfo) (z : Value) (size bytes : Nat) (ht : P.underlying t = some (.slice e)) (hi : P.info? e = some i) (hz : i.zero = some z)
    (hsize : i.size = size) (hby : i.bytes = bytes) (hzs : z.cells.size = size) (hsz : 0 < size) (hb1 : 0 < bytes)
    (v : Value) (n : Nat) (xs : List Value) (hs : a.eval s = v) (hown : w.ownsRow base e size v n xs)
    (A : Option Addr) (m c : Nat) (vs : List Value) (hx : a.eval x = .slice A m c) (hl : vs.length = m * size) (hR : RowA w A vs) (h1 : ∀ u ∈ vs, u.oneCell' = true)
    (hbytes : (n + m) * bytes ≤ 140737488355328) (hbase : base ≤ w.heap.size)
    (h : ∀ v' w', w'.ownsRow base e size v' (n + m) (xs ++ vs) → w.grownBy w' v.ownBlock → (v'.ownBlock = v.ownBlock ∨ v'.ownBlock = some w.heap.size) → wpList P ops Q rest (a.put o.dst v') w') : wpList P ops Q (o :: rest) a w :=
  wpList_plain hgd fun _ hK => wp_append_row s x t ho base e i z size bytes ht hi hz hsize hby hzs hsz hb1 v n xs hs hown A m c vs hx hl hR h1 hbytes hbase fun v' w' h2 h3 h4 => hK _ _ (h v' w' h2 h3 h4)

/-- A block of the call's own, whole: its cells, none frozen. -/
def Blk (w : World) (e : TypeId) (g cap : Nat) (vs : List Value) : Prop :=
  ∃ cur, w.heap[g]? = some (.cells cur e (0, 0)) ∧ cur.size = cap ∧ cur.toList.take vs.length = vs

theorem Blk.lt {w : World} {e : TypeId} {g cap : Nat} {vs : List Value} (h : Blk w e g cap vs) : g < w.heap.size := by
  obtain ⟨cur, hg, _⟩ := h
  rcases Nat.lt_or_ge g w.heap.size with h | h
  · exact h
  · rw [Array.getElem?_eq_none h] at hg; cases hg

theorem Blk.cell {w : World} {e : TypeId} {g cap : Nat} {vs : List Value} (h : Blk w e g cap vs) {j : Nat} {u : Value} (hj : vs[j]? = some u) : w.cell? ⟨g, j, none⟩ = some u := by
  obtain ⟨cur, hg, _, ht⟩ := h
  have h2 : cur[j]? = some u := by
    rw [← ht, List.getElem?_take] at hj
    split at hj
    · simpa using hj
    · cases hj
  rw [cell_of_row w g j cur e (0, 0) hg]; exact h2

theorem Blk.frozen {w : World} {e : TypeId} {g cap : Nat} {vs : List Value} (h : Blk w e g cap vs) (j : Nat) : w.frozen? ⟨g, j, none⟩ = false := by
  obtain ⟨cur, hg, _, _⟩ := h
  simp [World.frozen?, hg]

theorem Blk.row {w : World} {e : TypeId} {g cap : Nat} {vs : List Value} (h : Blk w e g cap vs) : RowA w (some ⟨g, 0, none⟩) vs :=
  fun _ => ⟨g, 0, rfl, fun j u hj => by rw [Nat.zero_add]; exact h.cell hj⟩

theorem Blk.below {w W : World} {e : TypeId} {g cap : Nat} {vs : List Value} (h : Blk w e g cap vs) (hb : Below w.heap.size w W) : Blk W e g cap vs := by
  have := h.lt
  obtain ⟨cur, hg, r⟩ := h
  exact ⟨cur, by rw [hb.block g this]; exact hg, r⟩

theorem Blk.drew {w : World} {e : TypeId} {g cap : Nat} {vs : List Value} (h : Blk w e g cap vs) : Blk w.drew e g cap vs := h

theorem Blk.set {w : World} {e : TypeId} {g cap : Nat} {vs : List Value} (h : Blk w e g cap vs) {j : Nat} (u : Value) (hj : j < vs.length) : Blk (w.setCell ⟨g, j, none⟩ u) e g cap (vs.set j u) := by
  have hlt := h.lt
  obtain ⟨cur, hg, hc, ht⟩ := h
  refine ⟨cur.setIfInBounds j u, ?_, by simpa using hc, ?_⟩
  · simp only [World.setCell, Array.getElem?_modify, if_true, hg, Option.map_some]
    rfl
  · rw [Array.toList_setIfInBounds, List.length_set, List.take_set, ht]

theorem own_blk {w : World} {base : Nat} {e : TypeId} {v : Value} {n : Nat} {xs : List Value} (h : w.ownsRow base e 1 v n xs) (hn : 0 < n) :
    ∃ g cap, v = .slice (some ⟨g, 0, none⟩) n cap ∧ base ≤ g ∧ n ≤ cap ∧ cap ≤ maxLen ∧ Blk w e g cap xs := by
  obtain ⟨hl, h2⟩ := h
  rcases h2 with ⟨_, h0⟩ | ⟨g, cap, cur, hv, hb, hg, hnc, hcm, hcs, htk⟩
  · omega
  · exact ⟨g, cap, hv, hb, hnc, hcm, cur, hg, by omega, by rw [hl]; exact htk⟩

/-! ### stores of many cells -/
theorem heap_setCells_other (b : Nat) : ∀ (us : List Value) (o : Nat) (w : World) (k : Nat), k ≠ b → (w.setCells b o us).heap[k]? = w.heap[k]?
  | [], _, _, _, _ => rfl
  | u :: r, o, w, k, h => by
    rw [World.setCells, heap_setCells_other b r (o + 1) _ k h]
    exact Below.heap_setCell _ _ _ _ h
theorem size_setCells (b : Nat) : ∀ (us : List Value) (o : Nat) (w : World), (w.setCells b o us).heap.size = w.heap.size
  | [], _, _ => rfl
  | u :: r, o, w => by rw [World.setCells, size_setCells b r (o + 1)]; simp [World.setCell]
theorem os_setCells (b : Nat) : ∀ (us : List Value) (o : Nat) (w : World), (w.setCells b o us).os = w.os ∧ (w.setCells b o us).tape = w.tape ∧ (w.setCells b o us).output = w.output
  | [], _, _ => ⟨rfl, rfl, rfl⟩
  | u :: r, o, w => by rw [World.setCells]; exact os_setCells b r (o + 1) _

/-- Block g is a row of n cells, none frozen. -/
def Row (w : World) (e : TypeId) (g n : Nat) : Prop := ∃ cur, w.heap[g]? = some (.cells cur e (0, 0)) ∧ cur.size = n

theorem Row.lt {w : World} {e : TypeId} {g n : Nat} (h : Row w e g n) : g < w.heap.size := by
  obtain ⟨cur, hg, _⟩ := h
  rcases Nat.lt_or_ge g w.heap.size with h | h
  · exact h
  · rw [Array.getElem?_eq_none h] at hg; cases hg
theorem Row.of_block {w w' : World} {e : TypeId} {g n : Nat} (h : Row w e g n) (k : w'.heap[g]? = w.heap[g]?) : Row w' e g n := by
  obtain ⟨cur, hg, r⟩ := h
  exact ⟨cur, by rw [k]; exact hg, r⟩
theorem Row.set {w : World} {e : TypeId} {g n : Nat} (h : Row w e g n) (j : Nat) (u : Value) : Row (w.setCell ⟨g, j, none⟩ u) e g n := by
  obtain ⟨cur, hg, r⟩ := h
  refine ⟨cur.setIfInBounds j u, ?_, by simpa using r⟩
  simp only [World.setCell, Array.getElem?_modify, if_true, hg, Option.map_some]
  rfl
theorem Row.sets {e : TypeId} {g n : Nat} : ∀ (us : List Value) (o : Nat) {w : World}, Row w e g n → Row (w.setCells g o us) e g n
  | [], _, _, h => h
  | u :: r, o, w, h => by rw [World.setCells]; exact Row.sets r (o + 1) (h.set o u)
theorem Row.there {w : World} {e : TypeId} {g n : Nat} (h : Row w e g n) (o m : Nat) (hm : o + m ≤ n) : w.there g o m := by
  obtain ⟨cur, hg, r⟩ := h
  intro j hj
  refine ⟨?_, by simp [World.frozen?, hg]⟩
  rw [cell_of_row w g (o + j) cur e (0, 0) hg, Array.getElem?_eq_getElem (by omega)]; rfl
theorem Row.frozen {w : World} {e : TypeId} {g n : Nat} (h : Row w e g n) (j : Nat) : w.frozen? ⟨g, j, none⟩ = false := by
  obtain ⟨cur, hg, r⟩ := h
  simp [World.frozen?, hg]

theorem range_of_block {w w' : World} {g o : Nat} {cs : List Value} (h : w.rangeAt g o cs) (k : w'.heap[g]? = w.heap[g]?) : w'.rangeAt g o cs := by
  intro j v hv
  rw [World.cell?_of_block (w := w) (a := ⟨g, o + j, none⟩) k]
  exact h j v hv
end Go.Proofs.Ytbbadncdkiganaa
