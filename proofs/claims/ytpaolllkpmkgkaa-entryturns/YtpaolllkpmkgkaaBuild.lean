/- A pending write is built, as a value and as a row of one. -/
import Derived.Test.YtpaolllkpmkgkaaLeaf
import Derived.Deep.RegionLaw
namespace Go.Proofs.Ytpaolllkpmkgkaa
open Go.RowKit
set_option linter.unusedVariables false

theorem wv_cells (p : Nat × Sct) : (wv p).cells = (wcells p).toArray := rfl

theorem put_fold_get (off : Nat) : ∀ (l : List Value) (k : Nat) (cs : Array Value) (t : Nat), ((l.zipIdx k).foldl (fun cs x => cs.setIfInBounds (off + x.2) x.1) cs)[t]? = if off + k ≤ t ∧ t < off + k + l.length ∧ t < cs.size then l[t - off - k]? else cs[t]?
  | [], k, cs, t => by
    rw [if_neg (by simp; omega)]; rfl
  | c :: r, k, cs, t => by
    rw [List.zipIdx_cons, List.foldl_cons, put_fold_get off r (k + 1) _ t]
    simp only [Array.size_setIfInBounds, List.length_cons]
    by_cases h1 : off + (k + 1) ≤ t ∧ t < off + (k + 1) + r.length ∧ t < cs.size
    · rw [if_pos h1, if_pos (by omega), show t - off - k = (t - off - (k + 1)) + 1 by omega, List.getElem?_cons_succ]
    · rw [if_neg h1]
      by_cases h2 : t = off + k
      · subst h2
        by_cases h3 : off + k < cs.size
        · rw [if_pos (by omega), show off + k - off - k = 0 by omega]
          simp [h3]
        · rw [if_neg (by omega), Array.getElem?_eq_none (by simpa using h3), Array.getElem?_eq_none (by simpa using h3)]
      · rw [if_neg (by omega), Array.getElem?_setIfInBounds, if_neg (fun e => h2 e.symm)]

theorem fill_put (place : Nat → Option (Nat × Nat)) (cs : Array Value) (i off n : Nat) (v : Value) (rest : List (Nat × Value)) (hp : place i = some (off, n)) (hv : v.cells.size = n) (ho : off + n ≤ cs.size) :
    ∃ cs', Instr.fill place cs ((i, v) :: rest) = Instr.fill place cs' rest ∧ cs'.size = cs.size ∧ ∀ t, cs'[t]? = if off ≤ t ∧ t < off + n then v.cells[t - off]? else cs[t]? := by
  refine ⟨v.cells.zipIdx.foldl (fun cs x => cs.setIfInBounds (off + x.2) x.1) cs, ?_, ?_, ?_⟩
  · rw [Instr.fill, hp]
    simp only
    rw [if_neg (by simp [hv]; omega)]
  · rw [← Array.foldl_toList, Array.toList_zipIdx]
    generalize v.cells.toList.zipIdx 0 = l
    clear hv hp ho
    induction l generalizing cs with
    | nil => rfl
    | cons x r ih => rw [List.foldl_cons, ih]; simp
  · intro t
    rw [← Array.foldl_toList, Array.toList_zipIdx, put_fold_get off v.cells.toList 0 cs t]
    rw [Nat.add_zero, Nat.sub_zero, Array.length_toList, hv, Array.getElem?_toList]
    by_cases h : off ≤ t ∧ t < off + n
    · rw [if_pos ⟨h.1, h.2, by omega⟩, if_pos h]
    · rw [if_neg (fun e => h ⟨e.1, e.2.1⟩), if_neg h]

theorem wcells_toArray_get (p : Nat × Sct) (t : Nat) : (wcells p).toArray[t]? = (wcells p)[t]? := by simp

/-- The two fields of a write are laid. -/
theorem fill_two (place : Nat → Option (Nat × Nat)) (h0 : place 0 = some (0, 1)) (h1 : place 1 = some (1, 64)) (p : Nat × Sct) (cs : Array Value) (hc : cs.size = 65) :
    Instr.fill place cs [(0, .int .i64 p.1), (1, .agg (bytes p.2).toArray)] = some (wcells p).toArray := by
  obtain ⟨c1, e1, s1, g1⟩ := fill_put place cs 0 0 1 (.int .i64 p.1) [(1, .agg (bytes p.2).toArray)] h0 rfl (by omega)
  obtain ⟨c2, e2, s2, g2⟩ := fill_put place c1 1 1 64 (.agg (bytes p.2).toArray) [] h1 (by simp [Value.cells, bytes_len]) (by omega)
  rw [e1, e2]
  show some c2 = _
  congr 1
  apply Array.ext_getElem?
  intro t
  rw [g2 t, wcells_toArray_get]
  by_cases ht : 1 ≤ t ∧ t < 1 + 64
  · rw [if_pos ht]
    obtain ⟨u, rfl⟩ : ∃ u, t = u + 1 := ⟨t - 1, by omega⟩
    unfold wcells
    simp [Value.cells]
  · rw [if_neg ht, g1 t]
    by_cases ht0 : 0 ≤ t ∧ t < 0 + 1
    · rw [if_pos ht0]
      obtain rfl : t = 0 := by omega
      rfl
    · rw [if_neg ht0, Array.getElem?_eq_none (by omega), List.getElem?_eq_none (by rw [wcells_len]; omega)]

theorem fill_one (p : Nat × Sct) (cs : Array Value) (hc : cs.size = 65) : Instr.fill (fun i => some (i * 65, 65)) cs [(0, wv p)] = some (wcells p).toArray := by
  obtain ⟨c1, e1, s1, g1⟩ := fill_put (fun i => some (i * 65, 65)) cs 0 0 65 (wv p) [] rfl (by rw [wv_cells, List.size_toArray, wcells_len]) (by omega)
  rw [e1]
  show some c1 = _
  congr 1
  apply Array.ext_getElem?
  intro t
  rw [g1 t, wcells_toArray_get]
  by_cases ht : 0 ≤ t ∧ t < 0 + 65
  · rw [if_pos ht, wv_cells, Nat.sub_zero]; simp
  · rw [if_neg ht, Array.getElem?_eq_none (by omega), List.getElem?_eq_none (by rw [wcells_len]; omega)]

/-- 'write{place: i, bytes: s}'. -/
theorem run_buildW {P : Program} {t : TypeId} {i : TypeInfo} (hi : P.info? t = some i) (hz : i.zero = some (wv (0, zeroS))) {f0 f1 : Field} (hu : P.underlying t = some (.struct #[f0, f1])) (h0 : f0.offset = 0) (h1 : f1.offset = 1)
    (s0 : (P.info? f0.type).map (·.size) = some 1) (s1 : (P.info? f1.type).map (·.size) = some 64) (p : Nat × Sct) (w : World) :
    (Instr.build t #[(0, .int .i64 p.1), (1, .agg (bytes p.2).toArray)]).run P w = .ok (wv p) w := by
  obtain ⟨j0, hj0, hs0⟩ := Option.map_eq_some_iff.1 s0
  obtain ⟨j1, hj1, hs1⟩ := Option.map_eq_some_iff.1 s1
  have hf := fill_two (fun x => ([(f0.offset, j0.size), (f1.offset, j1.size)] : List (Nat × Nat))[x]?) (by rw [h0, hs0]; rfl) (by rw [h1, hs1]; rfl) p (wv (0, zeroS)).cells (by rw [wv_cells, List.size_toArray, wcells_len])
  simp only [Instr.build, zeroValue, typeInfo, Sem.run_bind, run_program, hi, hz, Sem.run_pure, Result.andThen_ok, run_underlying hu, sizeOf]
  simp [hj0, hj1, wv]
  have hf' : Instr.fill (fun x => ([(f0.offset, j0.size), (f1.offset, j1.size)] : List (Nat × Nat))[x]?) (Value.agg (wcells (0, zeroS)).toArray).cells [(0, .int .i64 p.1), (1, .agg (bytes p.2).toArray)] = some (wcells p).toArray := hf
  rw [hf']
  rfl

theorem run_buildSliceW {P : Program} {tS t : TypeId} {i : TypeInfo} (hu : P.underlying tS = some (.slice t)) (hi : P.info? t = some i) (hz : i.zero = some (wv (0, zeroS))) (hs : i.size = 65) (p : Nat × Sct) (w : World) :
    (Instr.buildSlice tS 1 #[(0, wv p)]).run P w = .ok (.slice (some ⟨w.heap.size, 0, none⟩) 1 1) (w.alloc (.cells (wcells p).toArray t)) := by
  have hf := fill_one p ((Array.range (1 * 65)).map ((wv (0, zeroS)).cells[· % (wv (0, zeroS)).cells.size]!)) (by simp)
  simp only [Instr.buildSlice, Sem.run_bind, Result.andThen_ok, run_underlying hu]
  simp only [sizeOf, typeInfo, Sem.run_bind, hi, Sem.run_pure, Result.andThen_ok, run_program, hs]
  rw [if_neg (by omega), if_neg (by omega)]
  simp only [zeroValue, typeInfo, Sem.run_bind, run_program, hi, hz, Sem.run_pure, Result.andThen_ok]
  rw [hf]
  simp [newRow]

/-- append onto a row of the call's own, as one step of a region that draws. -/
theorem step_append_row {P : Program} {ops : Array Oper} {w : World} {o : Oper} {a : Act} {K : Act → World → Prop} {Q : Exit → Act → World → Prop} {E : Prop} (hg : o.guard = none) (s x : Operand) (t : TypeId)
    (ho : o.op = .call { callee := .builtin .append, args := #[s, x], argTypes := #[t, t] })
    (base : Nat) (e : TypeId) (i : TypeInfo) (z : Value) (size bytes : Nat) (ht : P.underlying t = some (.slice e)) (hi : P.info? e = some i) (hz : i.zero = some z)
    (hsize : i.size = size) (hby : i.bytes = bytes) (hzs : z.cells.size = size) (hsz : 0 < size) (hb1 : 0 < bytes)
    (v : Value) (n : Nat) (xs : List Value) (hs : a.eval s = v) (hown : w.ownsRow base e size v n xs)
    (A : Option Addr) (m c : Nat) (vs : List Value) (hx : a.eval x = .slice A m c) (hl : vs.length = m * size) (hR : RowA w A vs) (h1 : ∀ u ∈ vs, u.oneCell' = true)
    (hbytes : (n + m) * bytes ≤ 140737488355328) (hbase : base ≤ w.heap.size)
    (h : ∀ v' w', w'.ownsRow base e size v' (n + m) (xs ++ vs) → w.grownBy w' v.ownBlock → (v'.ownBlock = v.ownBlock ∨ v'.ownBlock = some w.heap.size) → K (a.put o.dst v') w') :
    if Region.wanted o (yielded ops a.tmps) = true then o.wp P a w K Q else E := by
  rw [if_pos (by simp [Region.wanted, hg])]
  exact wp_append_row s x t ho base e i z size bytes ht hi hz hsize hby hzs hsz hb1 v n xs hs hown A m c vs hx hl hR h1 hbytes hbase h

/-- Behind the append: the new row's header is stored into the disk. -/
def ldS (x : Value) : Sem Value := Instr.loadAt 44 x
theorem ldS_of (x : Value) : Instr.loadAt 44 x = ldS x := rfl
theorem ldS_is (b o : Nat) (s : Sct) (W : World) (h : W.rangeAt b o (bytes s)) : (ldS (.pointer (some ⟨b, o, none⟩))).run Try.prog W = .ok (.agg (bytes s).toArray) W :=
  run_loadAt_mid W b o 44 (bytes s) _ h Try.underlying44 rfl (by rw [bytes_len]; exact Try.size44)

def bld (t : TypeId) (x y : Nat × Value) : Sem Value := Instr.build t #[x, y]
def bsl (t : TypeId) (x : Nat × Value) : Sem Value := Instr.buildSlice t 1 #[x]

theorem box_sv (P : Program) (t : TypeId) (s : Sct) (w : World) : (Instr.box t (sv s)).run P w = .ok (.pointer (some ⟨w.heap.size, 0, none⟩)) (w.alloc (.cells (bytes s).toArray t)) := by
  simp [Instr.box, newVar, newRow, sv_cells]
theorem secs_box (w : World) (t : TypeId) (s : Sct) : SecsAt (w.alloc (.cells (bytes s).toArray t)) t w.heap.size [s] := secs_new (by rw [heap_alloc_last, sv_cells])
theorem row_box (w : World) (t : TypeId) (p : Nat × Sct) : RowA (w.alloc (.cells (wcells p).toArray t)) (some ⟨w.heap.size, 0, none⟩) (wcells p) := by
  refine fun _ => ⟨w.heap.size, 0, rfl, fun j u hj => ?_⟩
  rw [cell_of_row _ _ _ _ _ _ (heap_alloc_last w _)]
  simpa using hj

end Go.Proofs.Ytpaolllkpmkgkaa
