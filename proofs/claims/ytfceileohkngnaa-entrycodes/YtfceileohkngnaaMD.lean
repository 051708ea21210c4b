/- Own texts in one: EMath, Laws, Cut, Bys, Bys2, Enc, Enc2, Enc3. -/
import Derived.Test.YtfceileohkngnaaMB
import Derived.OwnWalkIn
import Derived.Laws.IdiomCopy
import Derived.Test.YtfceileohkngnaaMC
import Derived.Maps.AppendAt
import Derived.Lib.AppendZerosOnto
import Derived.Lib.SliceRun
import Derived.Deep.RegionWith
import Derived.Deep.RegionHeld3
/- Plain mathematics of entries: bytes, pieces, sectors; no program. -/
namespace Go.Proofs.Ytfceileohkngnaa
open Go.RowKit
set_option linter.unusedVariables false

/-- A sector out of its first bytes. -/
def mkS (l : List Int) : Sct := ⟨(List.range 64).map (fun j => l.getD j 0 % 256), by simp, fun x hx => by
  obtain ⟨j, _, rfl⟩ := List.mem_map.1 hx
  have := Int.emod_nonneg (l.getD j 0) (show (256 : Int) ≠ 0 by omega)
  have := Int.emod_lt_of_pos (l.getD j 0) (show (0 : Int) < 256 by omega)
  omega⟩
theorem mkS_get (l : List Int) (j : Nat) (h : j < 64) : (mkS l).1[j]? = some (l.getD j 0 % 256) := by
  unfold mkS
  rw [List.getElem?_map, List.getElem?_range h]; rfl
theorem mkS_getD (l : List Int) (j : Nat) (h : j < 64) : (mkS l).1.getD j 0 = l.getD j 0 % 256 := by
  rw [List.getD_eq_getElem?_getD, mkS_get l j h]; rfl
theorem byt_mod {l : List Int} (h : Byt l) (j : Nat) : l.getD j 0 % 256 = l.getD j 0 := by
  have := h j
  omega
/-- Two sectors are the same where each byte is. -/
theorem sct_ext {s t : Sct} (h : ∀ j, j < 64 → s.1.getD j 0 = t.1.getD j 0) : s = t := by
  apply Subtype.ext
  have h1 := s.2.1
  have h2 := t.2.1
  apply List.ext_getElem?
  intro j
  by_cases hj : j < 64
  · have := h j hj
    rw [List.getD_eq_getElem?_getD, List.getD_eq_getElem?_getD, List.getElem?_eq_getElem (by omega), List.getElem?_eq_getElem (by omega)] at this
    rw [List.getElem?_eq_getElem (by omega), List.getElem?_eq_getElem (by omega)]
    simpa using this
  · rw [List.getElem?_eq_none (by omega), List.getElem?_eq_none (by omega)]
theorem bytes_mk (l : List Int) (j : Nat) (h : j < 64) : (bytes (mkS l))[j]? = some (.int .u8 (l.getD j 0 % 256)) := by
  rw [bytes_get _ _ h, mkS_getD l j h]

def markI (i : Nat) : Int := if i = 0 then 87 else 119
theorem markI_lim (i : Nat) : 0 ≤ markI i ∧ markI i ≤ 255 := by unfold markI; split <;> omega
def chunk (bs : List Int) (k : Nat) : List Int := (bs.drop (63 * k)).take 63
theorem chunk_len (bs : List Int) (k : Nat) : (chunk bs k).length = min 63 (bs.length - 63 * k) := by unfold chunk; simp
theorem chunk_byt {bs : List Int} (h : Byt bs) (k : Nat) : Byt (chunk bs k) := byt_take (byt_drop h _) _
theorem chunk_getD (bs : List Int) (k j : Nat) : (chunk bs k).getD j 0 = if j < 63 then bs.getD (63 * k + j) 0 else 0 := by
  unfold chunk
  rw [List.getD_eq_getElem?_getD, List.getElem?_take]
  by_cases h : j < 63
  · rw [if_pos h, if_pos h, List.getElem?_drop, List.getD_eq_getElem?_getD]
  · rw [if_neg h, if_neg h]; rfl
def secOf (i : Nat) (c : List Int) : Sct := mkS (markI i :: c)
def pieces (n : Nat) : Nat := (n + 62) / 63
/-- The sectors of bytes. -/
def cutS (bs : List Int) : List Sct := (List.range (pieces bs.length)).map (fun k => secOf k (chunk bs k))
theorem cutS_len (bs : List Int) : (cutS bs).length = pieces bs.length := by unfold cutS; simp
theorem cutS_get (bs : List Int) (k : Nat) (h : k < pieces bs.length) : (cutS bs)[k]? = some (secOf k (chunk bs k)) := by
  unfold cutS; rw [List.getElem?_map, List.getElem?_range h]; rfl
/-- What the loop has made of the pieces that came. -/
def cutF (bs : List Int) (pre : List Nat) : List Sct := pre.mapIdx (fun i k => secOf i (chunk bs k))
theorem cutF_snoc (bs : List Int) (pre : List Nat) (k : Nat) : cutF bs (pre ++ [k]) = cutF bs pre ++ [secOf pre.length (chunk bs k)] := by
  unfold cutF; rw [List.mapIdx_concat]
theorem cutF_len (bs : List Int) (pre : List Nat) : (cutF bs pre).length = pre.length := by unfold cutF; simp
theorem cutF_all (bs : List Int) : cutF bs (List.range (pieces bs.length)) = cutS bs := by
  unfold cutF cutS
  apply List.ext_getElem?
  intro j
  rw [List.getElem?_mapIdx, List.getElem?_map]
  by_cases h : j < pieces bs.length
  · rw [List.getElem?_range h]; rfl
  · rw [List.getElem?_eq_none (by simpa using h)]; rfl

def flatS (S : List Sct) : List Value := S.flatMap bytes
theorem flatS_len (S : List Sct) : (flatS S).length = S.length * 64 := by
  induction S with
  | nil => rfl
  | cons p r ih =>
    show (bytes p ++ flatS r).length = _
    rw [List.length_append, bytes_len, ih, List.length_cons]; omega
theorem flatS_app (S T : List Sct) : flatS (S ++ T) = flatS S ++ flatS T := by unfold flatS; rw [List.flatMap_append]
theorem flatS_one (s : Sct) : flatS [s] = bytes s := by unfold flatS; simp
theorem flatS_snoc (S : List Sct) (s : Sct) : flatS (S ++ [s]) = flatS S ++ bytes s := by rw [flatS_app, flatS_one]
theorem flatS_get (S : List Sct) : ∀ (k : Nat) (s : Sct) (j : Nat), S[k]? = some s → j < 64 → (flatS S)[k * 64 + j]? = (bytes s)[j]? := by
  induction S with
  | nil => intro k p j h; simp at h
  | cons q r ih =>
    intro k p j h hj
    show (bytes q ++ flatS r)[k * 64 + j]? = _
    cases k with
    | zero =>
      simp only [List.getElem?_cons_zero, Option.some.injEq] at h
      subst h
      rw [Nat.zero_mul, Nat.zero_add, List.getElem?_append_left (by rw [bytes_len]; exact hj)]
    | succ k =>
      rw [List.getElem?_cons_succ] at h
      rw [List.getElem?_append_right (by rw [bytes_len]; omega), bytes_len, show (k + 1) * 64 + j - 64 = k * 64 + j by omega]
      exact ih k p j h hj
theorem flatS_oneCell (S : List Sct) : ∀ u ∈ flatS S, u.oneCell' = true := by
  intro u hu
  obtain ⟨s, _, h⟩ := List.mem_flatMap.1 hu
  exact bytes_one s u h

/-- The sectors S lie one behind the other from A on. -/
def ScsA (w : World) (A : Option Addr) (S : List Sct) : Prop := RowA w A (flatS S)
theorem ScsA.range {w : World} {A : Option Addr} {S : List Sct} (h : ScsA w A S) {k : Nat} (hk : k < S.length) : ∃ b off, A = some ⟨b, off, none⟩ ∧ ∀ k s, S[k]? = some s → w.rangeAt b (off + k * 64) (bytes s) := by
  have hl := flatS_len S
  obtain ⟨b, off, ha, hc⟩ := h (by intro e; rw [e] at hl; simp at hl; omega)
  refine ⟨b, off, ha, fun k s hs j v hv => ?_⟩
  have hj : j < 64 := by have := (List.getElem?_eq_some_iff.1 hv).1; rwa [bytes_len] at this
  rw [Nat.add_assoc]
  exact hc _ _ (by rw [flatS_get S k s j hs hj]; exact hv)
theorem ScsA.below {w0 W : World} {A : Option Addr} {S : List Sct} (h : ScsA w0 A S) (hb : Below w0.heap.size w0 W) : ScsA W A S := rowA_below h hb
end Go.Proofs.Ytfceileohkngnaa

/- The walk's laws for sectors, plain and inside a fence. -/
namespace Go.Proofs.Ytfceileohkngnaa
open Go.RowKit
set_option linter.unusedVariables false

section
variable {F : Fence} {n : Nat} {P : Program} {ops : Array Oper} {rest : List Oper} {o : Oper} {a : Act} {w : World} {Q : Exit → Act → World → Prop}
theorem wpListIn_val (hg : o.guard = none) (hd : ∀ c, o.op ≠ .defer c) (hab : o.about P w a.eval = none) {v : Value} {w' : World} (hr : (execOp a.eval o).run P w = .ok (.value v) w') (h : wpListIn F n P ops Q rest (a.put o.dst v) w') : wpListIn F n P ops Q (o :: rest) a w := by
  refine wpListIn_plain hg fun K hK => ?_
  unfold Oper.wpIn
  refine ⟨fun f hf => (by rw [hab] at hf; cases hf), ?_⟩
  rw [Oper.semAt_plain F _ _ hd, hr]
  exact hK _ _ h
theorem wpListIn_skp (hg : o.guard = none) (hd : ∀ c, o.op ≠ .defer c) (hab : o.about P w a.eval = none) {w' : World} (hr : (execOp a.eval o).run P w = .ok .skip w') (h : wpListIn F n P ops Q rest (a.put o.dst undef) w') : wpListIn F n P ops Q (o :: rest) a w := by
  refine wpListIn_plain hg fun K hK => ?_
  unfold Oper.wpIn
  refine ⟨fun f hf => (by rw [hab] at hf; cases hf), ?_⟩
  rw [Oper.semAt_plain F _ _ hd, hr]
  exact hK _ _ h
theorem wpList_val (hg : o.guard = none) {v : Value} {w' : World} (hr : (execOp a.eval o).run P w = .ok (.value v) w') (h : wpList P ops Q rest (a.put o.dst v) w') : wpList P ops Q (o :: rest) a w := by
  refine wpList_plain hg fun K hK => ?_
  unfold Oper.wp
  rw [hr]
  exact hK _ _ h
theorem wpList_skp (hg : o.guard = none) {w' : World} (hr : (execOp a.eval o).run P w = .ok .skip w') (h : wpList P ops Q rest (a.put o.dst undef) w') : wpList P ops Q (o :: rest) a w := by
  refine wpList_plain hg fun K hK => ?_
  unfold Oper.wp
  rw [hr]
  exact hK _ _ h
end

theorem cell_setCells_out (g : Nat) : ∀ (us : List Value) (o : Nat) (w : World) (j : Nat), ¬ (o ≤ j ∧ j < o + us.length) → (w.setCells g o us).cell? ⟨g, j, none⟩ = w.cell? ⟨g, j, none⟩
  | [], _, _, _, _ => rfl
  | u :: r, o, w, j, h => by
    rw [World.setCells, cell_setCells_out g r (o + 1) _ j (by simp at h; omega)]
    exact World.cell?_setCell_other _ _ _ _ (by intro e; cases e; simp at h)
/-! ### what operations on sectors come to -/
theorem all_one_bytes (s : Sct) : (bytes s).toArray.all (·.oneCell') = true := all_oneCell_toArray (bytes_one s)

section
variable {ρ : Operand → Value} {w : World} {dst : Option Tmp} {ty : TypeId} {pos : String} {af : Array Edge} {gd : Option (Nat × Bool)}
theorem exec_loadS (x : Operand) (b o : Nat) (s : Sct) (hx : ρ x = .pointer (some ⟨b, o, none⟩)) (hc : w.rangeAt b o (bytes s)) :
    (execOp ρ ⟨dst, .load 75 x, ty, pos, af, gd⟩).run Try.prog w = .ok (.value (sv s)) w := by
  unfold execOp
  simp only [hx, Instr.loadAt, Instr.sureAddr, Sem.run_bind, Sem.run_pure, Result.andThen_ok, run_loadS w b o s hc]

theorem exec_storeS (x y : Operand) (b o : Nat) (s : Sct) (hx : ρ x = .pointer (some ⟨b, o, none⟩)) (hy : ρ y = sv s) (ht : w.there b o 64) :
    (execOp ρ ⟨dst, .store 75 x y, ty, pos, af, gd⟩).run Try.prog w = .ok .skip (w.setCells b o (bytes s)) := by
  have hz : (bytes s).toArray.size = 64 := by rw [List.size_toArray, bytes_len]
  have := run_storeAt_mid (P := Try.prog) w b o 75 (bytes s).toArray (by rw [hz]; exact ht) (by rw [hz]; exact Try.size75) (all_one_bytes s)
  unfold execOp
  simp only [hx, hy, sv, Sem.run_bind, this, Result.andThen_ok, Sem.run_pure]

theorem exec_allocT (t : TypeId) (i : TypeInfo) (z : Value) (hi : Try.prog.info? t = some i) (hz : i.zero = some z) :
    (execOp ρ ⟨dst, .alloc t, ty, pos, af, gd⟩).run Try.prog w = .ok (.value (.pointer (some ⟨w.heap.size, 0, none⟩))) (w.alloc (.cells z.cells t)) := by
  have hr : (Instr.alloc t true (.tuple #[])).run Try.prog w = .ok (.pointer (some ⟨w.heap.size, 0, none⟩)) (w.alloc (.cells z.cells t)) := by
    simp [Instr.alloc, zeroValue, typeInfo, hi, hz, newVar, newRow]
  unfold execOp
  simp only [Sem.run_bind, hr, Result.andThen_ok, Sem.run_pure]

theorem toArr_get (l : List Value) (t : Nat) : l.toArray[t]? = l[t]? := by simp
theorem run_build1 (m : Int) (hm : 0 ≤ m ∧ m ≤ 255) (w : World) : (Instr.build 75 #[(0, .int .u8 m)]).run Try.prog w = .ok (sv (mkS [m])) w := by
  obtain ⟨i36, hi36, hz36⟩ := Try.zero75
  obtain ⟨j5, hj5, hs5⟩ := Option.map_eq_some_iff.1 Try.size5
  obtain ⟨c1, e1, s1, g1⟩ := fill_put (fun i => some (i * 1, 1)) (bytes zeroS).toArray 0 0 1 (.int .u8 m) [] rfl rfl (by rw [List.size_toArray, bytes_len]; omega)
  have e2 : c1 = (bytes (mkS [m])).toArray := by
    apply Array.ext_getElem?
    intro t
    rw [g1 t]
    by_cases ht : 0 ≤ t ∧ t < 0 + 1
    · rw [if_pos ht]
      obtain rfl : t = 0 := by omega
      rw [toArr_get (bytes (mkS [m])), bytes_mk _ _ (by omega)]
      have : m % 256 = m := by omega
      simp [Value.cells, this]
    · rw [if_neg ht, List.getElem?_toArray, List.getElem?_toArray]
      by_cases h64 : t < 64
      · obtain ⟨u, rfl⟩ : ∃ u, t = u + 1 := ⟨t - 1, by omega⟩
        rw [bytes_mk _ _ h64]
        unfold zeroS
        rw [bytes_full, List.getElem?_replicate, if_pos h64]
        simp
      · rw [List.getElem?_eq_none (by rw [bytes_len]; omega), List.getElem?_eq_none (by rw [bytes_len]; omega)]
  rw [e2] at e1
  have e3 : Instr.fill (fun i => some (i * 1, 1)) (sv zeroS).cells [(0, .int .u8 m)] = some (bytes (mkS [m])).toArray := e1
  simp only [Instr.build, zeroValue, typeInfo, Sem.run_bind, run_program, hi36, hz36, Sem.run_pure, Result.andThen_ok, run_underlying Try.underlying75, sizeOf, hj5, hs5]
  rw [e3]
  rfl

theorem exec_build1 (x : Operand) (m : Int) (hm : 0 ≤ m ∧ m ≤ 255) (hx : ρ x = .int .u8 m) :
    (execOp ρ ⟨dst, .build 75 #[(0, x)], ty, pos, af, gd⟩).run Try.prog w = .ok (.value (sv (mkS [m]))) w := by
  unfold execOp
  simp only [List.map_toArray, List.map_cons, List.map_nil, hx, Sem.run_bind, run_build1 m hm w, Result.andThen_ok, Sem.run_pure]

theorem fill_oneS (s : Sct) (cs : Array Value) (hc : cs.size = 64) : Instr.fill (fun i => some (i * 64, 64)) cs [(0, sv s)] = some (bytes s).toArray := by
  obtain ⟨c1, e1, s1, g1⟩ := fill_put (fun i => some (i * 64, 64)) cs 0 0 64 (sv s) [] rfl (by rw [sv_cells, List.size_toArray, bytes_len]) (by omega)
  rw [e1]
  show some c1 = _
  congr 1
  apply Array.ext_getElem?
  intro t
  rw [g1 t]
  by_cases ht : 0 ≤ t ∧ t < 0 + 64
  · rw [if_pos ht, sv_cells, Nat.sub_zero]
  · rw [if_neg ht, Array.getElem?_eq_none (by omega), List.getElem?_toArray, List.getElem?_eq_none (by rw [bytes_len]; omega)]

theorem run_buildSliceS (s : Sct) (w : World) :
    (Instr.buildSlice 26 1 #[(0, sv s)]).run Try.prog w = .ok (.slice (some ⟨w.heap.size, 0, none⟩) 1 1) (w.alloc (.cells (bytes s).toArray 75)) := by
  obtain ⟨i, hi, hz⟩ := Try.zero75
  have hs : i.size = 64 := by have := Try.size75; rw [hi] at this; simpa using this
  have hf := fill_oneS s ((Array.range (1 * 64)).map ((sv zeroS).cells[· % (sv zeroS).cells.size]!)) (by simp)
  simp only [Instr.buildSlice, Sem.run_bind, Result.andThen_ok, run_underlying Try.underlying26]
  simp only [sizeOf, typeInfo, Sem.run_bind, hi, Sem.run_pure, Result.andThen_ok, run_program, hs]
  rw [if_neg (by omega), if_neg (by omega)]
  simp only [zeroValue, typeInfo, Sem.run_bind, run_program, hi, hz, Sem.run_pure, Result.andThen_ok]
  rw [hf]
  simp [newRow]

theorem exec_bsl (x : Operand) (s : Sct) (hx : ρ x = sv s) :
    (execOp ρ ⟨dst, .buildSlice 26 1 #[(0, x)], ty, pos, af, gd⟩).run Try.prog w = .ok (.value (.slice (some ⟨w.heap.size, 0, none⟩) 1 1)) (w.alloc (.cells (bytes s).toArray 75)) := by
  unfold execOp
  simp only [List.map_toArray, List.map_cons, List.map_nil, hx, Sem.run_bind, run_buildSliceS s w, Result.andThen_ok, Sem.run_pure]

set_option maxRecDepth 8000 in
/-- 'copy(x[1:], p)': a piece behind the mark. -/
theorem exec_copy (x y : Operand) (g dc : Nat) (A : Option Addr) (sc : Nat) (c : List Int) (m : Int) (hc : c.length ≤ 63) (hB : Byt c) (hm : 0 ≤ m ∧ m ≤ 255)
    (hx : ρ x = .slice (some ⟨g, 1, none⟩) 63 dc) (hy : ρ y = .slice A c.length sc) (hA : BysA w A c) (hs : SecsAt w 75 g [mkS [m]]) :
    ∃ w', (execOp ρ ⟨dst, .call { callee := .builtin .copy, args := #[x, y], argTypes := #[23, 23] }, ty, pos, af, gd⟩).run Try.prog w = .ok (.value (goInt c.length)) w' ∧ w' = w.setCells g 1 (c.map (Value.int .u8)) ∧ SecsAt w' 75 g [mkS (m :: c)] := by
  have hmin : Nat.min c.length 63 = c.length := Nat.min_eq_left hc
  have hth : ∀ j, j < 63 → (w.cell? ⟨g, 1 + j, none⟩).isSome = true ∧ w.frozen? ⟨g, 1 + j, none⟩ = false := fun j hj => hs.1.there 1 63 (by simp) j hj
  have hrun : (Builtin.copy_ #[23, 23] ty #[.slice (some ⟨g, 1, none⟩) 63 dc, .slice A c.length sc]).run Try.prog w = .ok (goInt c.length) (w.setCells g 1 (c.map (Value.int .u8))) := by
    by_cases h0 : c = []
    · subst h0
      exact run_copy_none w 23 23 ty 5 _ _ _ _ _ _ Try.underlying23 Try.size5 (by simp)
    · obtain ⟨b, off, rfl, hcell⟩ := hA h0
      have := run_copy_cells (P := Try.prog) w 23 23 ty 5 g 1 63 dc ⟨b, off, none⟩ c.length sc (c.map (Value.int .u8)) Try.underlying23 Try.size5 (by rw [List.length_map]; exact hmin.symm)
        (fun j v hj => by
          have hjl : j < c.length := by have := (List.getElem?_eq_some_iff.1 hj).1; simpa using this
          rw [map_get hjl] at hj
          cases hj
          rw [addr_add]; exact hcell j hjl)
        (fun j hj => (hth j (by rw [List.length_map] at hj; omega)).1) (fun j hj => (hth j (by rw [List.length_map] at hj; omega)).2) (one_u8 c)
      rw [List.length_map] at this
      exact this
  refine ⟨_, ?_, rfl, ?_⟩
  · unfold execOp
    simp only [resolve, invoke, builtin, Sem.run_bind, Sem.run_pure, Result.andThen_ok, List.map_toArray, List.map_cons, List.map_nil, hx, hy, hrun]
  · refine ⟨hs.1.sets _ _, fun i t ht => ?_⟩
    obtain ⟨rfl, rfl⟩ : i = 0 ∧ t = mkS (m :: c) := by
      cases i with
      | zero => simpa using ht.symm
      | succ i => simp at ht
    intro j v hv
    have hj : j < 64 := by have := (List.getElem?_eq_some_iff.1 hv).1; rwa [bytes_len] at this
    rw [bytes_mk _ _ hj] at hv
    cases hv
    rw [Nat.zero_mul, Nat.zero_add]
    have hold := secs_byte hs j hj
    rw [mkS_getD _ _ hj] at hold
    by_cases hin : 1 ≤ j ∧ j < 1 + c.length
    · obtain ⟨u, rfl⟩ : ∃ u, j = 1 + u := ⟨j - 1, by omega⟩
      have hth2 : w.there g 1 (c.map (Value.int .u8)).length := by rw [List.length_map]; exact fun k hk => hth k (by omega)
      have hr := World.rangeAt_setCells_same w g 1 (c.map (Value.int .u8)) hth2 u _ (map_get (by omega))
      rw [hr, Nat.add_comm 1 u, List.getD_cons_succ, byt_mod hB]
    · rw [cell_setCells_out]
      · rw [hold]
        congr 2
        cases j with
        | zero => rfl
        | succ u =>
          have hz : c.getD u 0 = 0 := by rw [List.getD_eq_getElem?_getD, List.getElem?_eq_none (by omega)]; rfl
          rw [List.getD_cons_succ, List.getD_cons_succ, hz]; rfl
      · rw [List.length_map]; omega
end

theorem grown_sets (w : World) (b o : Nat) (us : List Value) : w.grownBy (w.setCells b o us) (some b) := by
  obtain ⟨h1, h2, h3⟩ := os_setCells b us o w
  exact ⟨h1, h2, h3, by rw [size_setCells]; exact Nat.le_refl _, fun k _ hk => heap_setCells_other b us o w k (fun e => hk (by rw [e]))⟩
theorem SecsAt.kept {w w' : World} {e : TypeId} {g : Nat} {S : List Sct} {row : Option Nat} (h : SecsAt w e g S) (hg : w.grownBy w' row) (hne : row ≠ some g) : SecsAt w' e g S := h.of_block (hg.block g h.lt (fun e => hne e.symm))

section
variable {F : Fence} {n : Nat} {ops : Array Oper} {rest : List Oper} {a : Act} {w : World} {Q : Exit → Act → World → Prop} {dst : Option Tmp} {ty : TypeId} {pos : String} {af : Array Edge}
theorem wpListIn_allocS (h : ∀ w1, w.grownBy w1 none → Hid (w1.heap.size = w.heap.size + 1) → SecsAt w1 75 w.heap.size [zeroS] → wpListIn F n Try.prog ops Q rest (a.put dst (.pointer (some ⟨w.heap.size, 0, none⟩))) w1) :
    wpListIn F n Try.prog ops Q (⟨dst, .alloc 75, ty, pos, af, none⟩ :: rest) a w := by
  obtain ⟨i, hi, hz⟩ := Try.zero75
  exact wpListIn_val rfl (fun c h => by cases h) rfl (exec_allocT 75 i (sv zeroS) hi hz) (h _ (World.grownBy_alloc _ _ _) (by show _ = _; simp) (secs_new (heap_alloc_last _ _)))
theorem wpListIn_storeS (x y : Operand) (b : Nat) (s0 s : Sct) (hx : a.eval x = .pointer (some ⟨b, 0, none⟩)) (hy : a.eval y = sv s) (hs : SecsAt w 75 b [s0])
    (h : ∀ w1, w.grownBy w1 (some b) → SecsAt w1 75 b [s] → wpListIn F n Try.prog ops Q rest (a.put dst undef) w1) :
    wpListIn F n Try.prog ops Q (⟨dst, .store 75 x y, ty, pos, af, none⟩ :: rest) a w :=
  wpListIn_skp rfl (fun c h => by cases h) rfl (exec_storeS x y b 0 s hx hy (secs_there hs)) (h _ (grown_sets _ _ _ _) (secs_store hs s))
theorem wpListIn_loadS (x : Operand) (b o : Nat) (s : Sct) (hx : a.eval x = .pointer (some ⟨b, o, none⟩)) (hc : w.rangeAt b o (bytes s))
    (h : wpListIn F n Try.prog ops Q rest (a.put dst (sv s)) w) : wpListIn F n Try.prog ops Q (⟨dst, .load 75 x, ty, pos, af, none⟩ :: rest) a w :=
  wpListIn_val rfl (fun c h => by cases h) rfl (exec_loadS x b o s hx hc) h
theorem wpListIn_build1 (x : Operand) (m : Int) (hm : 0 ≤ m ∧ m ≤ 255) (hx : a.eval x = .int .u8 m)
    (h : wpListIn F n Try.prog ops Q rest (a.put dst (sv (mkS [m]))) w) : wpListIn F n Try.prog ops Q (⟨dst, .build 75 #[(0, x)], ty, pos, af, none⟩ :: rest) a w :=
  wpListIn_val rfl (fun c h => by cases h) rfl (exec_build1 x m hm hx) h
theorem wpListIn_copyS (x y : Operand) (g dc : Nat) (A : Option Addr) (sc : Nat) (c : List Int) (m : Int) (hc : c.length ≤ 63) (hB : Byt c) (hm : 0 ≤ m ∧ m ≤ 255)
    (hx : a.eval x = .slice (some ⟨g, 1, none⟩) 63 dc) (k : Nat) (hk : k = c.length) (hy : a.eval y = .slice A k sc) (hA : BysA w A c) (hs : SecsAt w 75 g [mkS [m]])
    (h : ∀ w1, w.grownBy w1 (some g) → SecsAt w1 75 g [mkS (m :: c)] → wpListIn F n Try.prog ops Q rest (a.put dst (goInt c.length)) w1) :
    wpListIn F n Try.prog ops Q (⟨dst, .call { callee := .builtin .copy, args := #[x, y], argTypes := #[23, 23] }, ty, pos, af, none⟩ :: rest) a w := by
  subst hk
  obtain ⟨w', hr, hw, hs'⟩ := exec_copy (dst := dst) (ty := ty) (pos := pos) (af := af) (gd := none) x y g dc A sc c m hc hB hm hx hy hA hs
  refine wpListIn_val rfl (fun c h => by cases h) ?_ hr (h _ (by rw [hw]; exact grown_sets _ _ _ _) hs')
  simp [Oper.about, resolve, Target.leads, Sem.run_pure]
theorem wpListIn_bslS (x : Operand) (s : Sct) (hx : a.eval x = sv s)
    (h : ∀ w1, w.grownBy w1 none → RowA w1 (some ⟨w.heap.size, 0, none⟩) (bytes s) → wpListIn F n Try.prog ops Q rest (a.put dst (.slice (some ⟨w.heap.size, 0, none⟩) 1 1)) w1) :
    wpListIn F n Try.prog ops Q (⟨dst, .buildSlice 26 1 #[(0, x)], ty, pos, af, none⟩ :: rest) a w :=
  wpListIn_val rfl (fun c h => by cases h) rfl (exec_bsl x s hx) (h _ (World.grownBy_alloc _ _ _) (fun _ => ⟨_, 0, rfl, fun j u hj => by
    rw [cell_of_row _ _ _ _ _ _ (heap_alloc_last w _)]
    simpa using hj⟩))
theorem wpListIn_appendS (s x : Operand) (base : Nat) (v : Value) (S : List Sct) (T : List Sct) (hs : a.eval s = v) (hown : w.ownsRow base 75 64 v S.length (flatS S)) (A : Option Addr) (m c : Nat) (hm : m = T.length) (hx : a.eval x = .slice A m c) (hT : ScsA w A T)
    (hlen : S.length + T.length ≤ 100000) (hbase : base ≤ w.heap.size)
    (h : ∀ v' w1, w1.ownsRow base 75 64 v' (S ++ T).length (flatS (S ++ T)) → w.grownBy w1 v.ownBlock → wpListIn F n Try.prog ops Q rest (a.put dst v') w1) :
    wpListIn F n Try.prog ops Q (⟨dst, .call { callee := .builtin .append, args := #[s, x], argTypes := #[26, 26] }, ty, pos, af, none⟩ :: rest) a w := by
  subst hm
  obtain ⟨i, hi, hz⟩ := Try.zero75
  obtain ⟨i', hi', hz0, hz1, hz2⟩ := info_parts Try.info75
  obtain rfl : i' = i := by rw [hi'] at hi; exact (Option.some.inj hi)
  obtain ⟨v', w', hr, h2, h3, h4⟩ := run_append_row (P := Try.prog) (w := w) base 26 ty 75 i' (sv zeroS) 64 64 Try.underlying26 hi hz hz1 hz2 (by rw [sv_cells, List.size_toArray, bytes_len]) (by omega) v S.length (flatS S) hown A T.length c (flatS T) (flatS_len T) hT (flatS_oneCell T) (by omega) (by omega) hbase
  refine wpListIn_val (v := v') (w' := w') rfl (fun c h => by cases h) (by simp [Oper.about, resolve, Target.leads, Sem.run_pure]) ?_ (h v' w' (by rw [List.length_append, flatS_app]; exact h2) h3)
  unfold execOp
  simp only [resolve, invoke, builtin, Sem.run_bind, Sem.run_pure, Result.andThen_ok, List.map_toArray, List.map_cons, List.map_nil, hs, hx, hr]
end
end Go.Proofs.Ytfceileohkngnaa

/- Contract: cut, the sectors of bytes. -/
namespace Go.Proofs.Ytfceileohkngnaa
open Go.RowKit Go.Shelf
set_option linter.unusedVariables false
attribute [local go_sem] Oper.semAt_some

theorem mark_any (i : Nat) (hi : i ≤ 100000) (w : World) : Calls Try.prog 56 #[.int .i64 i] w fun e w' => e = .returned (.int .u8 (markI i)) ∧ w' = w := by
  by_cases h : i = 0
  · subst h
    go_enter Try.func56, Try.ntmps56
    go_wp2
    go_ret
    exact ⟨rfl, rfl⟩
  · have h' : ¬ (i : Int) = 0 := by omega
    have hm : Hid (markI i = 119) := by show _ = _; unfold markI; rw [if_neg h]
    go_enter Try.func56, Try.ntmps56
    go_wp2
    go_ret
    exact ⟨ret_int (by rw [hm.out]), rfl⟩

theorem boxed_pushed {W4 w5 : World} {n₀ B : Nat} {t e : TypeId} {size : Nat} {v v' : Value} {k m : Nat} {xs ys : List Value} (hv : Boxed W4 B t v) (hte : t ≠ e) (hrow : W4.ownsRow n₀ e size v k xs) (hown' : w5.ownsRow n₀ e size v' m ys) (hgrow : W4.grownBy w5 v.ownBlock) (hn : n₀ ≤ W4.heap.size) (hB : n₀ ≤ B) :
    Boxed w5 B t v ∧ Boxed (w5.setCell ⟨B, 0, none⟩ v') B t v' ∧ (w5.setCell ⟨B, 0, none⟩ v').ownsRow n₀ e size v' m ys ∧ KeepsOthers W4 (w5.setCell ⟨B, 0, none⟩ v') ∧ Below n₀ W4 (w5.setCell ⟨B, 0, none⟩ v') ∧
      ∀ B' t' u, Boxed W4 B' t' u → t' ≠ e → B' ≠ B → Boxed (w5.setCell ⟨B, 0, none⟩ v') B' t' u := by
  have hv1 : Boxed w5 B t v := hv.kept hgrow (hv.not_row hte hrow)
  have hblk : ∀ j, v.ownBlock = some j → n₀ ≤ j ∧ ∃ cur, W4.heap[j]? = some (.cells cur e (0, 0)) := fun j hj => own_block hrow hj
  refine ⟨hv1, hv1.set v', hown'.kept (grownBy_setCell' w5 B v') (.inr (hv1.not_row hte hown').symm), ?_, ?_, ?_⟩
  · refine (KeepsOthers.of_grownBy hgrow fun j o ej hj => ?_).trans (KeepsOthers.setCell _ _ _)
    obtain ⟨_, cur, hc⟩ := hblk j ej
    rw [hc] at hj; cases hj; rfl
  · exact ((Below.refl n₀ W4).grown hgrow hn fun j ej => (hblk j ej).1).setCell (p := ⟨B, 0, none⟩) hB v'
  · intro B' t' u hb ht hne
    exact (hb.kept hgrow (hb.not_row ht hrow)).other hne v'
theorem boxed_below {W W' : World} {B : Nat} {t : TypeId} {v : Value} (h : Boxed W B t v) (hb : Below W.heap.size W W') : Boxed W' B t v := (hb.block B h.lt).trans h
theorem keeps_below {W W' : World} (hb : Below W.heap.size W W') : KeepsOthers W W' := ⟨hb.size, fun k o hk _ => (hb.block k (Array.getElem?_eq_some_iff.1 hk).1).trans hk⟩

set_option maxHeartbeats 1000000 in
theorem chunk_in (F : Fence) (n : Nat) (h25 : F.fn 55) (hro : F.round = none) (a : Option Addr) (len cap : Nat) (w : World) :
    CallsIn F n Try.prog 55 #[.slice a len cap, .int .i64 63] w fun e w' => e = .returned (.func (.func 72) #[] #[.pointer (some ⟨w.heap.size, 0, none⟩), .pointer (some ⟨w.heap.size + 1, 0, none⟩)]) ∧ w' = (w.alloc (.cells #[.slice a len cap] 23)).alloc (.cells #[.int .i64 63] 3) := by
  refine callsIn_of_wp Try.func55 rfl h25 ?_ hro
  simp only [Try.ntmps55, List.size_toArray, List.length_cons, List.length_nil, Nat.reduceAdd, Nat.reduceSub, Array.replicate_succ, Array.replicate_zero, List.push_toArray, List.append_toArray, List.nil_append, List.cons_append]
  gi_wp2
  go_ret
  exact ⟨rfl, rfl⟩

theorem chunk_stops (F : Fence) (n : Nat) (h38 : F.fn 72) (hro : F.round = none) (hn : 1 ≤ n) (Bs Bn b off len cap : Nat) (hlen : len ≤ 100000) (hcap : len ≤ cap) (w : World) (hb1 : Bs < w.heap.size) (hb2 : Bn < w.heap.size)
    (hc : w.cell? ⟨Bs, 0, none⟩ = some (.slice (some ⟨b, off, none⟩) len cap)) (hc2 : w.cell? ⟨Bn, 0, none⟩ = some (.int .i64 63)) :
    SeqStopsK F n Try.prog 72 #[.pointer (some ⟨Bs, 0, none⟩), .pointer (some ⟨Bn, 0, none⟩)] (fun k : Nat => #[pieceV b off len k]) (Two Bs Bn) (fun ys => ys = List.range (pieces len)) (fun _ => True) (pieces len) w := fun l J Jx W hW hA _ hY h0 => by
  have hc' := (hW.cell (p := ⟨Bs, 0, none⟩) hb1).trans hc
  have hc2' := (hW.cell (p := ⟨Bn, 0, none⟩) hb2).trans hc2
  have hp : pieces len = (len + 62) / 63 := rfl
  refine (chunk1_in F n h38 hro hn l Bs Bn b off len cap (pieces len) hlen hcap (by omega) (by omega) J Jx hY W hc' hc2' h0 ?_).mono ?_
  · intro pre W1 hJ
    exact hA pre W1 W1.drew none hJ ⟨rfl, rfl, rfl, Nat.le_refl _, fun _ _ _ => rfl⟩ (fun r e => by cases e)
  · rintro e W' ⟨he, hj | ⟨pre, hj⟩⟩
    · exact ⟨he, .inl ⟨_, rfl, hj⟩⟩
    · exact ⟨he, .inr ⟨pre, trivial, hj⟩⟩

set_option maxRecDepth 100000 in
set_option maxHeartbeats 2000000 in
theorem cut_any (b off cap : Nat) (bs : List Int) (w : World) (hB : Byt bs) (h1 : 0 < bs.length) (hl : bs.length ≤ 5000) (hcap : bs.length ≤ cap) (hb : BysA w (some ⟨b, off, none⟩) bs) :
    Calls Try.prog 37 #[.slice (some ⟨b, off, none⟩) bs.length cap] w fun e w' => ∃ v, e = .returned v ∧ w'.ownsRow w.heap.size 75 64 v (cutS bs).length (flatS (cutS bs)) ∧ Below w.heap.size w w' := by
  obtain ⟨i44, hi44, hz44'⟩ := Try.zero75
  obtain ⟨i44', hi44', hz0, hz1, hz2⟩ := info_parts Try.info75
  obtain rfl : i44' = i44 := by rw [hi44'] at hi44; exact (Option.some.inj hi44)
  clear hi44' hz0
  refine (callsIn_wide (n := 5)).1 ?_
  have HB := hide hB
  have HBS := hide hb
  obtain ⟨K, HK, hK1, hK2⟩ : ∃ K, Hid (K = pieces bs.length) ∧ bs.length ≤ 63 * K ∧ 63 * K < bs.length + 63 := ⟨_, rfl, by unfold pieces; omega, by unfold pieces; omega⟩
  clear hB hb
  refine callsIn_of_wp_marks Try.func37 rfl trivial ?_ rfl
  simp only [Try.ntmps37, List.size_toArray, List.length_cons, List.length_nil, Nat.reduceAdd, Nat.reduceSub, Array.replicate_succ, Array.replicate_zero, List.push_toArray, List.append_toArray, List.nil_append, List.cons_append]
  gi_wp2_with (first
    | (gi_at_make; refine wpListIn_make_own _ rfl _ _ 26 rfl w.heap.size 75 i44' (sv zeroS) 64 Try.underlying26 hi44 hz44' hz1 _ _ _ K rfl rfl (by omega) (by rw [hz2]; omega) (maxLen_ge _ (by omega)) (Nat.le_refl _) ?_; intro w1 hown1 hgrow1)
    | (refine ⟨trivial, ?_⟩; gi_at_call 55; refine (chunk_in Fence.wide _ trivial rfl _ _ _ _).mono ?_; rintro e w' ⟨rfl, rfl⟩))
  have hsz1 : w.heap.size ≤ w1.heap.size := hgrow1.size
  have hbel1 : Below w.heap.size w w1 := (Below.refl _ _).grown hgrow1 (Nat.le_refl _) (fun k e => by cases e)
  obtain ⟨w2, hw2⟩ : ∃ w2, w1.alloc (.cells #[.slice (some ⟨w.heap.size, 0, none⟩) 0 K] 26) = w2 := ⟨_, rfl⟩
  obtain ⟨w3, hw3⟩ : ∃ w3, (w2.alloc (.cells #[.slice (some ⟨b, off, none⟩) bs.length cap] 23)).alloc (.cells #[.int .i64 63] 3) = w3 := ⟨_, rfl⟩
  have hs2 : w2.heap.size = w1.heap.size + 1 := by rw [← hw2]; simp
  have hs3 : w3.heap.size = w1.heap.size + 3 := by rw [← hw3]; simp; omega
  have bO : Boxed w3 w1.heap.size 26 (.slice (some ⟨w.heap.size, 0, none⟩) 0 K) := by rw [← hw3, ← hw2]; exact ((Boxed.new w1 26 _).alloc _).alloc _
  have bS : Boxed w3 w2.heap.size 23 (.slice (some ⟨b, off, none⟩) bs.length cap) := by rw [← hw3]; exact (Boxed.new w2 23 _).alloc _
  have bN : Boxed w3 (w2.heap.size + 1) 3 (.int .i64 63) := by
    rw [← hw3]
    have := Boxed.new (w2.alloc (.cells #[.slice (some ⟨b, off, none⟩) bs.length cap] 23)) 3 (.int .i64 63)
    rwa [World.size_alloc] at this
  have hbel3 : Below w.heap.size w w3 := by
    rw [← hw3, ← hw2]
    exact below_alloc (below_alloc (below_alloc hbel1 _) _) _
  have hr3 : w3.ownsRow w.heap.size 75 64 (.slice (some ⟨w.heap.size, 0, none⟩) 0 K) 0 [] := by
    rw [← hw3, ← hw2]
    exact ((hown1.alloc _).alloc _).alloc _
  rw [hw2, hw3]
  rw [hs2] at bS bN
  have hblt : b < w.heap.size := by
    obtain ⟨b', off', e, hc⟩ := (unhide HBS) (by intro e; rw [e] at h1; simp at h1)
    cases e
    exact World.block_lt_of_cell? _ _ (hc 0 h1)
  have hbys : ∀ (W : World) (k : Nat), Below w.heap.size w W → BysA W (some ⟨b, off + 63 * k, none⟩) (chunk bs k) := by
    intro W k hW hne
    obtain ⟨b', off', e, hc⟩ := (unhide HBS) (by intro e; rw [e] at h1; simp at h1)
    cases e
    refine ⟨b, off + 63 * k, rfl, fun j hj => ?_⟩
    rw [chunk_len] at hj
    rw [chunk_getD, if_pos (by omega), Nat.add_assoc, hW.cell (p := ⟨b, off + (63 * k + j), none⟩) hblt]
    exact hc (63 * k + j) (by omega)
  have HY := hide hbys
  clear hbys
  have hstops := chunk_stops Fence.wide 4 trivial rfl (by omega) (w1.heap.size + 1) (w1.heap.size + 1 + 1) b off bs.length cap (by omega) hcap w3 (by omega) (by omega) bS.cell bN.cell
  have HKK := unhide HK
  rw [← HKK] at hstops
  clear HKK
  refine wpIn_rangeFunc_ownG rfl (by omega) (gf := 72) (lb := #[.pointer (some ⟨w1.heap.size + 1, 0, none⟩), .pointer (some ⟨w1.heap.size + 1 + 1, 0, none⟩)]) rfl trivial (enters_of Try.func72 (by kernel_rfl) rfl)
    hstops Two.trans
    (fun W l o o' hlt hl ho _ => ⟨(grownBy_putObj' W l o').block _ (by have := (Array.getElem?_eq_some_iff.1 hl).1; omega) (fun e => by cases e; omega), (grownBy_putObj' W l o').block _ (by have := (Array.getElem?_eq_some_iff.1 hl).1; omega) (fun e => by cases e; omega)⟩)
    (Below.refl _ _) (fun _ => rfl)
    (fun pre W => (∃ v, Boxed W w1.heap.size 26 v ∧ W.ownsRow w.heap.size 75 64 v (cutF bs pre).length (flatS (cutF bs pre)) ∧ True) ∧ Below w.heap.size w W ∧ Boxed W (w1.heap.size + 1) 23 (.slice (some ⟨b, off, none⟩) bs.length cap) ∧ Boxed W (w1.heap.size + 1 + 1) 3 (.int .i64 63))
    (fun _ _ _ => False)
    (OwnFrom.and (Own.from (holdsRow_own w.heap.size w1.heap.size 26 75 64 (fun pre => (cutF bs pre).length) (fun pre => flatS (cutF bs pre)) (fun _ _ => True)) _) (OwnFrom.and (ownFrom_below (Nat.le_refl _) (by omega)) (OwnFrom.and (Own.from (boxed_own _ _ (fun _ => _)) _) (Own.from (boxed_own _ _ (fun _ => _)) _))))
    (fun _ _ _ _ _ hs _ _ => hs)
    ⟨⟨_, bO, hr3, trivial⟩, hbel3, bS, bN⟩
    (fun k => { tmps := #[.slice (some ⟨b, off, none⟩) bs.length cap, undef, .slice none 0 0, .pointer (some ⟨w1.heap.size, 0, none⟩), pieceV b off bs.length k, undef, .slice (some ⟨b, off, none⟩) bs.length cap, .int .i64 bs.length, .int .i64 ((bs.length : Int) + 63), .int .i64 ((bs.length : Int) + 63 - 1), .int .i64 (((bs.length : Int) + 63 - 1) / 63), .slice (some ⟨w.heap.size, 0, none⟩) 0 K, .slice (some ⟨b, off, none⟩) bs.length cap,
      .func (.func 72) #[] #[.pointer (some ⟨w1.heap.size + 1, 0, none⟩), .pointer (some ⟨w1.heap.size + 1 + 1, 0, none⟩)], pieceV b off bs.length k, undef, undef, undef, undef, undef, undef, undef, undef, undef, undef, undef, undef], defers := [] }) ?assign ?body ?done ?stop
  case assign =>
    intro l x W K hK
    gi_wp2
    exact hK
  case body =>
    rintro l pre k W ⟨⟨v, hv, hrow, _⟩, hBW, hS, hN⟩ hlt
    have hpl := cutF_len bs pre
    obtain ⟨A, c, rfl⟩ : ∃ A c, v = .slice A pre.length c := by
      rw [hpl] at hrow
      rcases hrow.2 with ⟨rfl, h0⟩ | ⟨g, cap, cur, rfl, _⟩
      · exact ⟨none, 0, by rw [h0]⟩
      · exact ⟨_, cap, rfl⟩
    have hc := hv.cell
    have HR := hide hrow
    have hsW := hBW.size
    have HL := hide hpl
    have hpk : pieceV b off bs.length k = .slice (some ⟨b, off + 63 * k, none⟩) (chunk bs k).length (chunk bs k).length := by rw [chunk_len]; rfl
    rw [hpk]
    have hcl : (chunk bs k).length ≤ 63 := by rw [chunk_len]; omega
    clear hrow hpl hpk
    have hBl : w.heap.size ≤ w1.heap.size := hsz1
    gi_wp2_with (first
      | (refine ⟨trivial, ?_⟩; gi_at_call 56; refine (CallsIn.inRound l (callsIn_wide.2 (mark_any pre.length (by omega) _))).mono ?_; rintro e w' ⟨rfl, rfl⟩)
      | ((with_reducible refine wpListIn_build1 _ (markI pre.length) (markI_lim _) ?_ ?_); (focus rfl))
      | (with_reducible refine wpListIn_allocS ?_; intro W1 hg1 hs1 hS1; have HB1 := hide ((Below.refl _ w').grown hg1 (Nat.le_refl _) (fun k e => by cases e)))
      | ((with_reducible refine wpListIn_storeS _ _ w'.heap.size zeroS (mkS [markI pre.length]) ?_ ?_ hS1 ?_); (focus rfl); (focus rfl); intro W2 hg2 hS2; have HB2 := hide ((unhide HB1).grown hg2 (unhide HB1).size (fun k e => by cases e; exact Nat.le_refl _)))
      | (have hA2 := unhide HY W2 k (below_then hBW (unhide HB2)); have hB2 := chunk_byt (unhide HB) k; (with_reducible refine wpListIn_copyS _ _ w'.heap.size 63 (some ⟨b, off + 63 * k, none⟩) (chunk bs k).length (chunk bs k) (markI pre.length) hcl hB2 (markI_lim _) ?_ (chunk bs k).length ?_ ?_ hA2 hS2 ?_); (focus rfl); (focus rfl); (focus rfl); intro W3 hg3 hS3; have HB3 := hide ((unhide HB2).grown hg3 (unhide HB2).size (fun k e => by cases e; exact Nat.le_refl _)); have hc3 := (boxed_below hv (unhide HB3)).cell)
      | ((with_reducible refine wpListIn_loadS _ w'.heap.size 0 (secOf pre.length (chunk bs k)) ?_ (secs_range hS3) ?_); (focus rfl))
      | ((with_reducible refine wpListIn_bslS _ (secOf pre.length (chunk bs k)) ?_ ?_); (focus rfl); intro W4 hg4 hR4; have HB4 := hide ((unhide HB3).grown hg4 (unhide HB3).size (fun k e => by cases e)))
      | ((with_reducible refine wpListIn_appendS _ _ w.heap.size _ (cutF bs pre) [secOf pre.length (chunk bs k)] ?_ (own_below (unhide HR) (unhide HB4)) _ 1 1 rfl ?_ (by unfold ScsA; rw [flatS_one]; exact hR4) (by rw [unhide HL]; simp; omega) (by have := (unhide HB4).size; omega) ?_); (focus rfl); (focus rfl); intro v' W5 hown5 hgrow5; obtain ⟨hv5, hv6, hr6, hk6, hb6, hx6⟩ := boxed_pushed (boxed_below hv (unhide HB4)) (by decide) (own_below (unhide HR) (unhide HB4)) hown5 hgrow5 (by have := (unhide HB4).size; omega) hBl; have hc5 := hv5.cell; have hf5 := hv5.frozen; rw [List.length_append] at hown5; obtain ⟨g', cap', rfl⟩ := ownsRow_succ hown5))
    have hS6 := hx6 _ _ _ (boxed_below hS (unhide HB4)) (by decide) (by omega)
    have hN6 := hx6 _ _ _ (boxed_below hN (unhide HB4)) (by decide) (by omega)
    refine ⟨((keeps_below (unhide HB4)).trans hk6).from _, ⟨(show _ = _ from hS6).trans (show _ = _ from hS).symm, (show _ = _ from hN6).trans (show _ = _ from hN).symm⟩, ⟨_, hv6, ?_, trivial⟩, (below_then hBW (unhide HB4)).trans hb6, hS6, hN6⟩
    rw [cutF_snoc]
    exact hr6
  case done =>
    rintro D ys W hD rfl ⟨⟨v, hv, hrow, _⟩, hBW, hS, hN⟩ hK
    have hc := hv.cell
    have HR := hide hrow
    clear hrow
    gi_wp2
    refine ⟨by simp, .inl ⟨_, _, rfl, run_takeDeferred hK, ?_⟩⟩
    have hrow := unhide HR
    rw [unhide HK, cutF_all] at hrow
    exact ⟨_, results_tmp rfl _ _ _, v, rfl, ownsRow_putObj hrow _ hK rfl, hBW.trans (belowK_b (w := w) (Nat.le_refl _) W D _ _ (by omega) hK rfl rfl)⟩
  case stop =>
    rintro D c pre W _ _ h _
    exact h.elim
end Go.Proofs.Ytfceileohkngnaa

/- Contracts of the leaves: numbers as bytes and back, copies, bytes put together. -/
namespace Go.Proofs.Ytfceileohkngnaa
open Go.RowKit
set_option linter.unusedVariables false

def four (x : Int) : List Int := [x / 16777216 % 256, x / 65536 % 256, x / 256 % 256, x % 256]
theorem four_byt (x : Int) : Byt (four x) := byt_of (by unfold four; simp only [List.mem_cons, List.not_mem_nil, or_false]; rintro y (rfl | rfl | rfl | rfl) <;> omega)
theorem four_len (x : Int) : (four x).length = 4 := rfl

theorem bits_or_i64_nat (a b : Nat) (ha : a < 4611686018427387904) (hb : b < 4611686018427387904) : bits .or .i64 (a : Int) (b : Int) = ((a ||| b : Nat) : Int) := by
  have hx : a ||| b < 2 ^ 62 := Nat.or_lt_two_pow (by omega) (by omega)
  have h1 : (BitVec.ofInt 64 (a : Int)).toNat = a := by
    rw [BitVec.ofInt_natCast, BitVec.toNat_ofNat]; exact Nat.mod_eq_of_lt (by omega)
  have h2 : (BitVec.ofInt 64 (b : Int)).toNat = b := by
    rw [BitVec.ofInt_natCast, BitVec.toNat_ofNat]; exact Nat.mod_eq_of_lt (by omega)
  show IntKind.i64.wrap ((BitVec.ofInt 64 (a : Int) ||| BitVec.ofInt 64 (b : Int)).toNat : Int) = _
  rw [BitVec.toNat_or, h1, h2, IntKind.wrap_i64]
  omega
theorem bits_or_u32_nat (a b : Nat) (ha : a < 4294967296) (hb : b < 4294967296) : bits .or .u32 (a : Int) (b : Int) = ((a ||| b : Nat) : Int) := by
  have hx : a ||| b < 2 ^ 32 := Nat.or_lt_two_pow (by omega) (by omega)
  have h1 : (BitVec.ofInt 32 (a : Int)).toNat = a := by
    rw [BitVec.ofInt_natCast, BitVec.toNat_ofNat]; exact Nat.mod_eq_of_lt (by omega)
  have h2 : (BitVec.ofInt 32 (b : Int)).toNat = b := by
    rw [BitVec.ofInt_natCast, BitVec.toNat_ofNat]; exact Nat.mod_eq_of_lt (by omega)
  show IntKind.u32.wrap ((BitVec.ofInt 32 (a : Int) ||| BitVec.ofInt 32 (b : Int)).toNat : Int) = _
  rw [BitVec.toNat_or, h1, h2, IntKind.wrap_u32]
  omega
theorem or_i64 (x y : Int) (hx : 0 ≤ x ∧ x ≤ 255) (hy : 0 ≤ y ∧ y ≤ 255) : bits .or .i64 (x * 256) y = x * 256 + y := by
  obtain ⟨a, rfl⟩ : ∃ a : Nat, x = a := ⟨x.toNat, by omega⟩
  obtain ⟨b, rfl⟩ : ∃ b : Nat, y = b := ⟨y.toNat, by omega⟩
  have h := bits_or_i64_nat (2 ^ 8 * a) b (by omega) (by omega)
  rw [← Nat.two_pow_add_eq_or_of_lt (show b < 2 ^ 8 by omega)] at h
  rw [show (a : Int) * 256 = ((2 ^ 8 * a : Nat) : Int) by omega, h]
  omega
theorem or_u32 (i a b : Nat) (hb : b < 2 ^ i) (ha : 2 ^ i * a < 4294967296) (hb2 : b < 4294967296) : bits .or .u32 ((2 ^ i * a : Nat) : Int) (b : Int) = ((2 ^ i * a + b : Nat) : Int) := by
  rw [bits_or_u32_nat _ _ ha hb2, ← Nat.two_pow_add_eq_or_of_lt hb]
theorem or_four (x y z u : Int) (hx : 0 ≤ x ∧ x ≤ 255) (hy : 0 ≤ y ∧ y ≤ 255) (hz : 0 ≤ z ∧ z ≤ 255) (hu : 0 ≤ u ∧ u ≤ 255) :
    bits .or .u32 (bits .or .u32 (bits .or .u32 (x * 16777216) (y * 65536)) (z * 256)) u = x * 16777216 + y * 65536 + z * 256 + u := by
  obtain ⟨a, rfl⟩ : ∃ a : Nat, x = a := ⟨x.toNat, by omega⟩
  obtain ⟨b, rfl⟩ : ∃ b : Nat, y = b := ⟨y.toNat, by omega⟩
  obtain ⟨c, rfl⟩ : ∃ c : Nat, z = c := ⟨z.toNat, by omega⟩
  obtain ⟨d, rfl⟩ : ∃ d : Nat, u = d := ⟨u.toNat, by omega⟩
  have h1 := or_u32 24 a (65536 * b) (by omega) (by omega) (by omega)
  rw [show (a : Int) * 16777216 = ((2 ^ 24 * a : Nat) : Int) by omega, show (b : Int) * 65536 = ((65536 * b : Nat) : Int) by omega, h1]
  have h2 := or_u32 16 (256 * a + b) (256 * c) (by omega) (by omega) (by omega)
  rw [show ((2 ^ 24 * a + 65536 * b : Nat) : Int) = ((2 ^ 16 * (256 * a + b) : Nat) : Int) by omega, show (c : Int) * 256 = ((256 * c : Nat) : Int) by omega, h2]
  have h3 := or_u32 8 (65536 * a + 256 * b + c) d (by omega) (by omega) (by omega)
  rw [show ((2 ^ 16 * (256 * a + b) + 256 * c : Nat) : Int) = ((2 ^ 8 * (65536 * a + 256 * b + c) : Nat) : Int) by omega, h3]
  omega

set_option maxHeartbeats 400000 in
theorem wide_any (x : Int) (hx : 0 ≤ x ∧ x ≤ 4294967295) (w : World) :
    Calls Try.prog 58 #[.int .u32 x] w fun e w' => e = .returned (.slice (some ⟨w.heap.size, 0, none⟩) 4 4) ∧ w' = w.alloc (.cells #[.int .u8 (x / 16777216 % 256), .int .u8 (x / 65536 % 256), .int .u8 (x / 256 % 256), .int .u8 (x % 256)] 5) := by
  obtain ⟨h1, h2⟩ := hx
  have he : Hid (x / 16777216 % 256 = x / 16777216) := by show _ = _; omega
  go_enter Try.func58, Try.ntmps58
  go_wp2
  go_ret
  rw [he.out]
  exact ⟨rfl, rfl⟩
set_option maxHeartbeats 400000 in
theorem length_any (b off cap : Nat) (bs : List Int) (w : World) (hb : BysA w (some ⟨b, off, none⟩) bs) (hB : Byt bs) (hl : 11 ≤ bs.length) (hl2 : bs.length ≤ 100000) :
    Calls Try.prog 62 #[.slice (some ⟨b, off, none⟩) bs.length cap] w fun e w' => e = .returned (.int .i64 (bs.getD 9 0 * 256 + bs.getD 10 0)) ∧ ∃ n, w' = w.drewN n := by
  obtain ⟨b', off', e, hc⟩ := hb (by rintro rfl; simp at hl)
  cases e
  have h9 := hc 9 (by omega)
  have h10 := hc 10 (by omega)
  have b9 := hB 9
  have b10 := hB 10
  generalize bs.getD 9 0 = x at *
  generalize bs.getD 10 0 = y at *
  generalize bs.length = n at *
  obtain ⟨x1, x2⟩ := b9
  obtain ⟨y1, y2⟩ := b10
  clear hc hB hb
  have l9 : (9 : Int) < (n : Int) := by omega
  have l10 : (10 : Int) < (n : Int) := by omega
  have he := hide (or_i64 x y ⟨x1, x2⟩ ⟨y1, y2⟩)
  go_enter Try.func62, Try.ntmps62
  go_wp2
  go_quiet (fail)
  go_wp2
  go_ret
  exact ⟨ret_int (unhide he), _, rfl⟩
set_option maxHeartbeats 400000 in
theorem number_any (b off cap : Nat) (bs : List Int) (w : World) (hb : BysA w (some ⟨b, off, none⟩) bs) (hB : Byt bs) (hl : 4 ≤ bs.length) (hl2 : bs.length ≤ 100000) :
    Calls Try.prog 63 #[.slice (some ⟨b, off, none⟩) bs.length cap] w fun e w' => e = .returned (.int .u32 (bs.getD 0 0 * 16777216 + bs.getD 1 0 * 65536 + bs.getD 2 0 * 256 + bs.getD 3 0)) ∧ ∃ n, w' = w.drewN n := by
  obtain ⟨b', off', e, hc⟩ := hb (by rintro rfl; simp at hl)
  cases e
  have h0 := hc 0 (by omega)
  rw [Nat.add_zero] at h0
  have h1 := hc 1 (by omega)
  have h2 := hc 2 (by omega)
  have h3 := hc 3 (by omega)
  obtain ⟨a1, a2⟩ := hB 0
  obtain ⟨b1, b2⟩ := hB 1
  obtain ⟨c1, c2⟩ := hB 2
  obtain ⟨d1, d2⟩ := hB 3
  generalize bs.getD 0 0 = x at *
  generalize bs.getD 1 0 = y at *
  generalize bs.getD 2 0 = z at *
  generalize bs.getD 3 0 = u at *
  generalize bs.length = n at *
  clear hc hB hb
  have l9 : (0 : Int) < (n : Int) := by omega
  have l10 : (1 : Int) < (n : Int) := by omega
  have l11 : (2 : Int) < (n : Int) := by omega
  have l12 : (3 : Int) < (n : Int) := by omega
  have he := hide (or_four x y z u ⟨a1, a2⟩ ⟨b1, b2⟩ ⟨c1, c2⟩ ⟨d1, d2⟩)
  go_enter Try.func63, Try.ntmps63
  go_wp2
  go_quiet (fail)
  go_wp2
  go_ret
  exact ⟨ret_int (unhide he), _, rfl⟩
end Go.Proofs.Ytfceileohkngnaa

/- Contracts of the leaves: copies, bytes put together, what is blank, what is needed. -/
namespace Go.Proofs.Ytfceileohkngnaa
open Go.RowKit
set_option linter.unusedVariables false
set_option maxRecDepth 4000

theorem blank_any (a : Option Addr) (bs : List Int) (cap : Nat) (w : World) (hb : BysA w a bs) (hB : Byt bs) (hl : bs.length ≤ 100000) :
    Calls Try.prog 64 #[.slice a bs.length cap] w fun e w' => e = .returned (.bool (bs.all (· == 0))) ∧ w' = w := by
  go_enter Try.func64, Try.ntmps64
  go_wp2
  go_loop [7] (fun i => ∃ k : Nat, k ≤ bs.length ∧ i = .int .i64 k ∧ ∀ j, j < k → bs.getD j 0 = 0) (fun i => bs.length - (intOf i).toNat)
  case atStart => exact ⟨0, Nat.zero_le _, rfl, fun j h => by omega⟩
  case round =>
    obtain ⟨k, hk, rfl, h0⟩ := hrel
    have H0 := hide h0
    clear h0
    by_cases hlt : k < bs.length
    · obtain ⟨b, off, rfl, hc⟩ := hb (by rintro rfl; simp at hlt)
      have hck := hc k hlt
      obtain ⟨x1, x2⟩ := hB k
      have HG : Hid (bs[k] = bs.getD k 0) := by show _ = _; rw [List.getD_eq_getElem?_getD, List.getElem?_eq_getElem hlt]; rfl
      generalize hx : bs.getD k 0 = x at *
      have HX := hide hx
      clear hc hb hB hx
      by_cases hx0 : x = 0
      · subst hx0
        go_wp2
        go_round
        case rel => exact ⟨k + 1, by omega, by go_num, fun j hj => by
          by_cases e : j = k
          · rw [e]; exact unhide HX
          · exact unhide H0 j (by omega)⟩
        case measure => simp [intOf]; omega
      · have HE : Hid (bs.all (· == 0) = false) := by
          show _ = _
          rw [List.all_eq_false]
          exact ⟨bs[k], List.getElem_mem hlt, by rw [unhide HG]; simpa using hx0⟩
        go_wp2
        go_ret
        exact ⟨ret_bool (unhide HE).symm, rfl⟩
    · have HE : Hid (bs.all (· == 0) = true) := by
        show _ = _
        rw [List.all_eq_true]
        intro x hx
        obtain ⟨j, hj, rfl⟩ := List.getElem_of_mem hx
        have := unhide H0 j (by omega)
        rw [List.getD_eq_getElem?_getD, List.getElem?_eq_getElem hj] at this
        simpa using this
      go_wp2
      go_ret
      exact ⟨ret_bool (unhide HE).symm, rfl⟩

def numL (bs : List Int) : Int := bs.foldl (fun v x => v * 256 + x) 0
theorem numL_snoc (bs : List Int) (x : Int) : numL (bs ++ [x]) = numL bs * 256 + x := by unfold numL; rw [List.foldl_append]; rfl
theorem numL_take (bs : List Int) (hB : Byt bs) : ∀ k, k ≤ bs.length → k ≤ 4 → 0 ≤ numL (bs.take k) ∧ numL (bs.take k) < (256 : Int) ^ k
  | 0, _, _ => by simp [numL]
  | k + 1, h, h4 => by
    obtain ⟨h1, h2⟩ := numL_take bs hB k (by omega) (by omega)
    rw [take_snoc bs k (by omega), numL_snoc]
    have := hB k
    rw [Int.pow_succ]
    omega

theorem pow_lt {v : Int} {k : Nat} (h : v < (256 : Int) ^ k) (hk : k ≤ 3) : v < 16777216 := by
  have : k = 0 ∨ k = 1 ∨ k = 2 ∨ k = 3 := by omega
  rcases this with rfl | rfl | rfl | rfl
  · simp at h; omega
  · simp at h; omega
  · rw [show (256 : Int) ^ 2 = 65536 from rfl] at h; omega
  · exact h
theorem num_any (a : Option Addr) (bs : List Int) (cap : Nat) (w : World) (hb : BysA w a bs) (hB : Byt bs) (hl : bs.length ≤ 4) :
    Calls Try.prog 44 #[.slice a bs.length cap] w fun e w' => e = .returned (.int .u32 (numL bs)) ∧ w' = w := by
  go_enter Try.func44, Try.ntmps44
  go_wp2
  go_loop [3, 4] (fun v i => ∃ k : Nat, k ≤ bs.length ∧ i = .int .i64 k ∧ v = .int .u32 (numL (bs.take k))) (fun _ i => bs.length - (intOf i).toNat)
  case atStart => exact ⟨0, Nat.zero_le _, rfl, rfl⟩
  case round =>
    obtain ⟨k, hk, rfl, rfl⟩ := hrel
    by_cases hlt : k < bs.length
    · obtain ⟨b, off, rfl, hc⟩ := hb (by rintro rfl; simp at hlt)
      have hck := hc k hlt
      obtain ⟨x1, x2⟩ := hB k
      have HS : Hid (numL (bs.take (k + 1)) = numL (bs.take k) * 256 + bs.getD k 0) := by show _ = _; rw [take_snoc bs k hlt, numL_snoc]
      obtain ⟨n1, n2⟩ := numL_take bs hB k (by omega) (by omega)
      have n3 : numL (bs.take k) < 16777216 := pow_lt n2 (by omega)
      generalize bs.getD k 0 = x at *
      generalize numL (bs.take k) = v at *
      clear hc hb hB n2
      go_wp2
      go_round
      case rel => exact ⟨k + 1, by omega, by go_num, by rw [HS.out]⟩
      case measure => simp [intOf]; omega
    · have HT : Hid (bs.take k = bs) := List.take_of_length_le (by omega)
      go_wp2
      go_ret
      exact ⟨ret_int (by rw [HT.out]), rfl⟩

theorem rfour_any (x : Int) (hx : 0 ≤ x ∧ x ≤ 4294967295) (w : World) :
    Calls Try.prog 60 #[.int .u32 x] w fun e w' => e = .returned (.slice (some ⟨w.heap.size, 0, none⟩) 4 4) ∧ w' = w.alloc (.cells #[.int .u8 (x / 16777216 % 256), .int .u8 (x / 65536 % 256), .int .u8 (x / 256 % 256), .int .u8 (x % 256)] 5) := by
  obtain ⟨h1, h2⟩ := hx
  have he : Hid (x / 16777216 % 256 = x / 16777216) := by show _ = _; omega
  go_enter Try.func60, Try.ntmps60
  go_wp2
  go_ret
  rw [he.out]
  exact ⟨rfl, rfl⟩

def needI (n : Int) : Int := if n < 0 ∨ 4000 < n then 0 else (n + 77) / 63
theorem need_any (n : Int) (hn : -9223372036854775808 ≤ n ∧ n ≤ 9223372036854775807) (w : World) :
    Calls Try.prog 13 #[.int .i64 n] w fun e w' => e = .returned (.int .i64 (needI n)) ∧ w' = w := by
  obtain ⟨n1, n2⟩ := hn
  by_cases h : n < 0
  · have HE : Hid (needI n = 0) := by show _ = _; unfold needI; rw [if_pos (.inl h)]
    go_enter Try.func13, Try.ntmps13
    go_wp2
    go_ret
    exact ⟨ret_int (unhide HE).symm, rfl⟩
  · by_cases h2 : 4000 < n
    · have HE : Hid (needI n = 0) := by show _ = _; unfold needI; rw [if_pos (.inr h2)]
      go_enter Try.func13, Try.ntmps13
      go_wp2
      go_ret
      exact ⟨ret_int (unhide HE).symm, rfl⟩
    · have HE : Hid (needI n = (n + 77) / 63) := by show _ = _; unfold needI; rw [if_neg (by omega)]
      go_enter Try.func13, Try.ntmps13
      go_wp2
      go_ret
      exact ⟨ret_int (by rw [unhide HE]; congr 1; omega), rfl⟩
theorem rneed_any (n : Int) (hn : -9223372036854775808 ≤ n ∧ n ≤ 9223372036854775807) (w : World) :
    Calls Try.prog 14 #[.int .i64 n] w fun e w' => e = .returned (.int .i64 (needI n)) ∧ w' = w := by
  obtain ⟨n1, n2⟩ := hn
  by_cases h : n < 0
  · have HE : Hid (needI n = 0) := by show _ = _; unfold needI; rw [if_pos (.inl h)]
    go_enter Try.func14, Try.ntmps14
    go_wp2
    go_ret
    exact ⟨ret_int (unhide HE).symm, rfl⟩
  · by_cases h2 : 4000 < n
    · have HE : Hid (needI n = 0) := by show _ = _; unfold needI; rw [if_pos (.inr h2)]
      go_enter Try.func14, Try.ntmps14
      go_wp2
      go_ret
      exact ⟨ret_int (unhide HE).symm, rfl⟩
    · have HE : Hid (needI n = (n + 77) / 63) := by show _ = _; unfold needI; rw [if_neg (by omega)]
      go_enter Try.func14, Try.ntmps14
      go_wp2
      go_ret
      exact ⟨ret_int (by rw [unhide HE]; congr 1; omega), rfl⟩

/-- A row of bytes that the call owns, as a value and as bytes. -/
theorem own_bys {w : World} {base : Nat} {v : Value} {bs : List Int} (h : w.ownsRow base 5 1 v bs.length (bs.map (Value.int .u8))) : ∃ A cap, v = .slice A bs.length cap ∧ BysA w A bs ∧ bs.length ≤ cap := by
  rcases h.2 with ⟨rfl, h0⟩ | ⟨g, cap, cur, rfl, hb, hg, hnc, hcm, hcs, htk⟩
  · obtain rfl : bs = [] := List.length_eq_zero_iff.1 h0
    exact ⟨none, 0, rfl, bysA_nil _ _, Nat.le_refl _⟩
  · refine ⟨_, cap, rfl, bys_rowA (Blk.row (e := 5) (cap := cap) ⟨cur, hg, by omega, by rw [h.1]; exact htk⟩), hnc⟩
/-- .. where there is one byte at least. -/
theorem own_bys1 {w : World} {base : Nat} {v : Value} {bs : List Int} (h : w.ownsRow base 5 1 v bs.length (bs.map (Value.int .u8))) (h1 : 0 < bs.length) : ∃ g cap, v = .slice (some ⟨g, 0, none⟩) bs.length cap ∧ base ≤ g ∧ BysA w (some ⟨g, 0, none⟩) bs ∧ bs.length ≤ cap := by
  rcases h.2 with ⟨rfl, h0⟩ | ⟨g, cap, cur, rfl, hb, hg, hnc, hcm, hcs, htk⟩
  · omega
  · refine ⟨g, cap, rfl, hb, bys_rowA (Blk.row (e := 5) (cap := cap) ⟨cur, hg, by omega, by rw [h.1]; exact htk⟩), hnc⟩

section
variable {ops : Array Oper} {rest : List Oper} {a : Act} {w : World} {Q : Exit → Act → World → Prop} {dst : Option Tmp} {ty : TypeId} {pos : String} {af : Array Edge}
/-- append of bytes onto a row of bytes that the call owns. -/
theorem wpList_appendB (s x : Operand) (base : Nat) (v : Value) (bs cs : List Int) (hs : a.eval s = v) (hown : w.ownsRow base 5 1 v bs.length (bs.map (Value.int .u8))) (A : Option Addr) (m c : Nat) (hm : m = cs.length) (hx : a.eval x = .slice A m c) (hA : BysA w A cs)
    (hlen : bs.length + cs.length ≤ 100000) (hbase : base ≤ w.heap.size)
    (h : ∀ v' w1, w1.ownsRow base 5 1 v' (bs ++ cs).length ((bs ++ cs).map (Value.int .u8)) → w.grownBy w1 v.ownBlock → wpList Try.prog ops Q rest (a.put dst v') w1) :
    wpList Try.prog ops Q (⟨dst, .call { callee := .builtin .append, args := #[s, x], argTypes := #[23, 23] }, ty, pos, af, none⟩ :: rest) a w := by
  subst hm
  obtain ⟨i, hi, hz, hz1, hz2⟩ := info_parts Try.info5
  refine wpList_append_row rfl s x 23 rfl base 5 i (.int .u8 0) 1 1 Try.underlying23 hi hz hz1 hz2 rfl (by decide) (by decide) v bs.length (bs.map (Value.int .u8)) hs hown A cs.length c (cs.map (Value.int .u8)) hx (by simp) (rowA_bys hA) (one_u8 cs) (by omega) hbase ?_
  intro v' w' h2 h3 _
  exact h v' w' (by rw [List.length_append, List.map_append]; exact h2) h3
end

set_option maxHeartbeats 400000 in
theorem clone_any (b off cap : Nat) (bs : List Int) (w : World) (hb : BysA w (some ⟨b, off, none⟩) bs) (hl : bs.length ≤ 100000) :
    Calls Try.prog 66 #[.slice (some ⟨b, off, none⟩) bs.length cap] w fun e w' => ∃ v, e = .returned v ∧ w'.ownsRow w.heap.size 5 1 v bs.length (bs.map (Value.int .u8)) ∧ Below w.heap.size w w' := by
  have HB := hide hb
  clear hb
  have hne : ∀ W : World, (binOp .eql 23 (.slice (some ⟨b, off, none⟩) bs.length cap) (.slice none 0 0)).run Try.prog W = .ok (.bool false) W := fun W => Lib.run_eql_slice_nil W 23 5 _ _ _ _ _ Try.underlying23
  have HL : Hid ((w.alloc (.cells #[] 5)).ownsRow w.heap.size 5 1 (.slice (some ⟨w.heap.size, 0, none⟩) 0 0) ([] : List Int).length (([] : List Int).map (Value.int .u8))) := World.ownsRow_lit w #[] 0 (Nat.le_refl _) (by simp) (by simp)
  have HA := hide (bysA_alloc (unhide HB) (.cells #[] 5))
  have HZ : Hid (w.heap.size ≤ (w.alloc (.cells #[] 5)).heap.size) := by show _ ≤ _; simp
  go_enter Try.func66, Try.ntmps66
  go_wp2_with ((with_reducible refine wpList_appendB _ _ w.heap.size (.slice (some ⟨w.heap.size, 0, none⟩) 0 0) [] bs ?_ (unhide HL) (some ⟨b, off, none⟩) bs.length cap ?_ ?_ (unhide HA) ?_ (unhide HZ) ?_); (focus rfl); (focus rfl); (focus rfl); (focus (simp; omega)); intro v' w1 h1 hg1)
  go_ret
  exact ⟨_, rfl, h1, (below_alloc (Below.refl _ _) _).grown hg1 (by simp) (fun k hk => by simp [Value.ownBlock] at hk; omega)⟩

set_option maxHeartbeats 400000 in
theorem grow_any (n : Nat) (h0 : 0 < n) (hn : n ≤ 100000) (w : World) :
    Calls Try.prog 70 #[.slice none 0 0, .int .i64 n] w fun e w' => ∃ v, e = .returned v ∧ w'.ownsRow w.heap.size 5 1 v 0 [] ∧ Below w.heap.size w w' := by
  obtain ⟨i, hi, hz, hz1, hz2⟩ := info_parts Try.info5
  have hr := Lib.run_append_nil_zeros (P := Try.prog) w 23 3 23 5 i (.int .u8 0) .i64 .i64 Try.underlying23 Try.underlying3 hi hz n h0 (by omega) (by omega) (by rw [hz2]; omega)
  have hge := grownCap_ge w n 0 5
  have hcm := grownCap_le_maxLen w n 0 5 (maxLen_ge _ (by omega))
  have HO : Hid ((w.drew.alloc (.cells (Builtin.zeroCells (Value.int .u8 0).cells n ++ Builtin.zeroCells (Value.int .u8 0).cells (grownCap w n 0 5 - n)) 5)).ownsRow w.heap.size 5 1 (.slice (some ⟨w.heap.size, 0, none⟩) 0 (grownCap w n 0 5)) 0 []) := by
    refine ⟨rfl, .inr ⟨_, _, _, rfl, Nat.le_refl _, heap_alloc_last w.drew _, Nat.zero_le _, hcm, ?_, rfl⟩⟩
    simp only [Array.size_append, size_zeroCells]
    show n * 1 + (grownCap w n 0 5 - n) * 1 = _
    omega
  have HB : Hid (Below w.heap.size w (w.drew.alloc (.cells (Builtin.zeroCells (Value.int .u8 0).cells n ++ Builtin.zeroCells (Value.int .u8 0).cells (grownCap w n 0 5 - n)) 5))) := below_alloc (Below.drew (Below.refl _ _)) _
  have hn0 : (0 : Int) < (n : Int) := by omega
  have hge' : ((n : Int)) ≤ ((grownCap w n 0 5 : Nat) : Int) := by omega
  generalize w.drew.alloc (.cells (Builtin.zeroCells (Value.int .u8 0).cells n ++ Builtin.zeroCells (Value.int .u8 0).cells (grownCap w n 0 5 - n)) 5) = W at *
  generalize grownCap w n 0 5 = c at *
  go_enter Try.func70, Try.ntmps70
  go_wp2_with (at_builtin; refine Lib.wpList_append_run _ rfl _ _ 23 3 rfl _ _ rfl rfl _ _ hr ?_)
  go_ret
  exact ⟨_, rfl, unhide HO, unhide HB⟩

theorem flat_take (pss : List (List Int)) (k : Nat) (h : k < pss.length) : (pss.take (k + 1)).flatten = (pss.take k).flatten ++ pss.getD k [] := by
  rw [takes_snoc pss k h, List.flatten_append]; simp
theorem flat_le (pss : List (List Int)) (k : Nat) : (pss.take k).flatten.length ≤ pss.flatten.length := by
  have := congrArg (fun l => l.flatten.length) (List.take_append_drop k pss)
  simp only [List.flatten_append, List.length_append] at this
  omega
theorem part_le (pss : List (List Int)) (k : Nat) : (pss.getD k []).length ≤ pss.flatten.length := by
  by_cases h : k < pss.length
  · have := flat_le pss (k + 1)
    rw [flat_take pss k h, List.length_append] at this
    omega
  · rw [List.getD_eq_getElem?_getD, List.getElem?_eq_none (by omega)]; simp

def flk (pss : List (List Int)) (k : Nat) : List Int := (pss.take k).flatten
theorem flk_all (pss : List (List Int)) : flk pss pss.length = pss.flatten := by unfold flk; rw [List.take_length]
theorem flk_succ (pss : List (List Int)) (k : Nat) (h : k < pss.length) : flk pss (k + 1) = flk pss k ++ pss.getD k [] := flat_take pss k h
theorem flk_le (pss : List (List Int)) (k : Nat) : (flk pss k).length ≤ (flk pss pss.length).length := by rw [flk_all]; exact flat_le pss k
theorem flk_part (pss : List (List Int)) (k : Nat) : (pss.getD k []).length ≤ (flk pss pss.length).length := by rw [flk_all]; exact part_le pss k

set_option maxHeartbeats 1000000 in
theorem concat_go (a : Option Addr) (pss : List (List Int)) (cap : Nat) (w : World) (hp : PartsA w a pss) (hB : Byts pss) (hl : pss.length ≤ 100) (h0 : 0 < (flk pss pss.length).length) (hf : (flk pss pss.length).length ≤ 10000) :
    Calls Try.prog 49 #[.slice a pss.length cap] w fun e w' => ∃ v, e = .returned v ∧ w'.ownsRow w.heap.size 5 1 v (flk pss pss.length).length ((flk pss pss.length).map (Value.int .u8)) ∧ Below w.heap.size w w' := by
  have HP := hide hp
  have HF := hide (flk_le pss)
  have HFT := hide (flk_succ pss)
  have HPL := hide (flk_part pss)
  clear hp
  go_enter Try.func49, Try.ntmps49
  go_wp2
  go_loop [3, 11] (fun s i => ∃ k : Nat, k ≤ pss.length ∧ i = .int .i64 k ∧ s = .int .i64 ((flk pss k).length : Int)) (fun _ i => pss.length - (intOf i).toNat)
  case atStart => exact ⟨0, Nat.zero_le _, rfl, rfl⟩
  case round =>
    obtain ⟨k, hk, rfl, rfl⟩ := hrel
    by_cases hlt : k < pss.length
    · obtain ⟨b, off, rfl, hc⟩ := (unhide HP) (by rintro rfl; simp at hlt)
      obtain ⟨a', cap', hck, hby⟩ := hc k hlt
      have h1 := unhide HF k
      have h2 := unhide HPL k
      have HS := hide (unhide HFT k hlt)
      generalize pss.getD k [] = ps at *
      have HSL : Hid ((flk pss (k + 1)).length = (flk pss k).length + ps.length) := by show _ = _; rw [unhide HS, List.length_append]
      generalize (flk pss k).length = n at *
      clear hc hby hB HS
      go_wp2
      go_round
      case rel => exact ⟨k + 1, by omega, by go_num, by rw [unhide HSL]; go_num⟩
      case measure => simp [intOf]; omega
    · obtain rfl : k = pss.length := by omega
      have h0' : (0 : Int) < ((flk pss pss.length).length : Int) := by omega
      go_wp2_with (go_at_call 70; refine (grow_any (flk pss pss.length).length h0 ?_ _).mono ?_; (focus omega); rintro e w1 ⟨v, rfl, hown, hb1⟩; have HO := hide hown; clear hown)
      go_loopw [6, 27] (fun v i wr => ∃ k : Nat, k ≤ pss.length ∧ i = .int .i64 k ∧ Below w.heap.size w wr ∧ wr.ownsRow w.heap.size 5 1 v (flk pss k).length ((flk pss k).map (Value.int .u8))) (fun _ i _ => pss.length - (intOf i).toNat)
      case atStart => exact ⟨0, Nat.zero_le _, rfl, hb1, unhide HO⟩
      case round =>
        obtain ⟨k, hk, rfl, hbel, hown⟩ := hrel
        obtain ⟨A, capA, rfl, hbys, hcapA⟩ := own_bys hown
        have HOW := hide hown
        clear hown hbys
        by_cases hlt : k < pss.length
        · obtain ⟨b, off, rfl, hc⟩ := (unhide HP) (by rintro rfl; simp at hlt)
          obtain ⟨a', cap', hck0, hby⟩ := hc k hlt
          have hck : wr.cell? ⟨b, off + k, none⟩ = some (.slice a' (pss.getD k []).length cap') := by rw [hbel.cell (World.block_lt_of_cell? _ _ hck0)]; exact hck0
          have HY := hide (bysA_below hby hbel)
          have h1 := unhide HF k
          have h2 := unhide HPL k
          have HS := hide (unhide HFT k hlt)
          generalize pss.getD k [] = ps at *
          clear hc hby hck0 hB
          go_wp2_with ((with_reducible refine wpList_appendB _ _ w.heap.size _ (flk pss k) ps ?_ (unhide HOW) a' ps.length cap' ?_ ?_ (unhide HY) ?_ hbel.size ?_); (focus rfl); (focus rfl); (focus rfl); (focus omega); intro v2 w2 hown2 hg2)
          have hob := unhide HOW
          have hbl : ∀ j, (Value.slice A (flk pss k).length capA).ownBlock = some j → w.heap.size ≤ j := fun j hj => (own_block hob hj).1
          have hb2 : Below w.heap.size w w2 := hbel.grown hg2 hbel.size hbl
          rw [← unhide HS] at hown2
          clear hob hbl hg2
          go_roundw
          case rel => exact ⟨k + 1, by omega, by go_num, hb2, hown2⟩
          case measure => simp [intOf]; omega
        · obtain rfl : k = pss.length := by omega
          go_wp2
          go_ret
          exact ⟨_, rfl, unhide HOW, hbel⟩
theorem concat_any (a : Option Addr) (pss : List (List Int)) (cap : Nat) (w : World) (hp : PartsA w a pss) (hB : Byts pss) (hl : pss.length ≤ 100) (h0 : 0 < pss.flatten.length) (hf : pss.flatten.length ≤ 10000) :
    Calls Try.prog 49 #[.slice a pss.length cap] w fun e w' => ∃ v, e = .returned v ∧ w'.ownsRow w.heap.size 5 1 v pss.flatten.length (pss.flatten.map (Value.int .u8)) ∧ Below w.heap.size w w' := by
  have := concat_go a pss cap w hp hB hl (by rw [flk_all]; exact h0) (by rw [flk_all]; exact hf)
  rw [flk_all] at this
  exact this
end Go.Proofs.Ytfceileohkngnaa

/- Contracts: an entry's bytes, its sectors. -/
namespace Go.Proofs.Ytfceileohkngnaa
open Go.RowKit
set_option linter.unusedVariables false

def leadL (k e s : Int) : List Int := [k] ++ four e ++ four s
def headL (k e s : Int) (b : List Int) : List Int := leadL k e s ++ [(b.length : Int) / 256 % 256, (b.length : Int) % 256] ++ b
/-- An entry's bytes. -/
def entL (k e s : Int) (b : List Int) : List Int := headL k e s b ++ four (more 1 (headL k e s b))

def fourV (x : Int) : Array Value := ((four x).map (Value.int .u8)).toArray
theorem wide_four (x : Int) (hx : 0 ≤ x ∧ x ≤ 4294967295) (w : World) : Calls Try.prog 58 #[.int .u32 x] w fun e w' => e = .returned (.slice (some ⟨w.heap.size, 0, none⟩) 4 4) ∧ w' = w.alloc (.cells (fourV x) 5) := wide_any x hx w
theorem rfour_four (x : Int) (hx : 0 ≤ x ∧ x ≤ 4294967295) (w : World) : Calls Try.prog 60 #[.int .u32 x] w fun e w' => e = .returned (.slice (some ⟨w.heap.size, 0, none⟩) 4 4) ∧ w' = w.alloc (.cells (fourV x) 5) := rfour_any x hx w
theorem leadL_len (k e s : Int) : (leadL k e s).length = 9 := rfl
theorem headL_len (k e s : Int) (b : List Int) : (headL k e s b).length = 11 + b.length := by unfold headL; simp [leadL_len]; omega
theorem entL_len (k e s : Int) (b : List Int) : (entL k e s b).length = 15 + b.length := by unfold entL; rw [List.length_append, headL_len, four_len]; omega
theorem byt_app {a b : List Int} (h : Byt a) (k : Byt b) : Byt (a ++ b) := by
  intro i
  rw [List.getD_eq_getElem?_getD, List.getElem?_append]
  split
  · rw [← List.getD_eq_getElem?_getD]; exact h i
  · rw [← List.getD_eq_getElem?_getD]; exact k _
theorem byt_one {x : Int} (h : 0 ≤ x ∧ x ≤ 255) : Byt [x] := byt_of (by simp only [List.mem_singleton]; rintro y rfl; exact h)
theorem leadL_byt {k e s : Int} (hk : 0 ≤ k ∧ k ≤ 255) : Byt (leadL k e s) := byt_app (byt_app (byt_one hk) (four_byt e)) (four_byt s)
theorem lenB_byt (n : Nat) : Byt [(n : Int) / 256 % 256, (n : Int) % 256] := byt_of (by simp only [List.mem_cons, List.not_mem_nil, or_false]; rintro y (rfl | rfl) <;> omega)
theorem headL_byt {k e s : Int} {b : List Int} (hk : 0 ≤ k ∧ k ≤ 255) (hb : Byt b) : Byt (headL k e s b) := byt_app (byt_app (leadL_byt hk) (lenB_byt _)) hb
theorem entL_byt {k e s : Int} {b : List Int} (hk : 0 ≤ k ∧ k ≤ 255) (hb : Byt b) : Byt (entL k e s b) := byt_app (headL_byt hk hb) (four_byt _)

theorem bys4 {W : World} {b : Nat} {x y z u : Int} (h0 : W.cell? ⟨b, 0, none⟩ = some (.int .u8 x)) (h1 : W.cell? ⟨b, 1, none⟩ = some (.int .u8 y)) (h2 : W.cell? ⟨b, 2, none⟩ = some (.int .u8 z)) (h3 : W.cell? ⟨b, 3, none⟩ = some (.int .u8 u)) : BysA W (some ⟨b, 0, none⟩) [x, y, z, u] :=
  bysA_block fun i hi => by
    have : i = 0 ∨ i = 1 ∨ i = 2 ∨ i = 3 := by simp at hi; omega
    rcases this with rfl | rfl | rfl | rfl
    · exact h0
    · exact h1
    · exact h2
    · exact h3
theorem bys2 {W : World} {b : Nat} {x y : Int} (h0 : W.cell? ⟨b, 0, none⟩ = some (.int .u8 x)) (h1 : W.cell? ⟨b, 1, none⟩ = some (.int .u8 y)) : BysA W (some ⟨b, 0, none⟩) [x, y] :=
  bysA_block fun i hi => by
    have : i = 0 ∨ i = 1 := by simp at hi; omega
    rcases this with rfl | rfl
    · exact h0
    · exact h1
theorem bys_lit {X : World} {N : Nat} {c : Array Value} {r : Nat × Nat} {l : List Int} (h : N = X.heap.size) (hc : c = (l.map (Value.int .u8)).toArray) : BysA (X.alloc (.cells c 5 r)) (some ⟨N, 0, none⟩) l :=
  bysA_block fun i hi => by rw [cell_at _ _ _ _ _ _ h, hc, toArr_get, map_get hi]
theorem cell_lit {X : World} {N i : Nat} {c : Array Value} {t : TypeId} {r : Nat × Nat} {v : Value} (h : N = X.heap.size) (hc : c[i]? = some v) : (X.alloc (.cells c t r)).cell? ⟨N, i, none⟩ = some v := by rw [cell_at _ _ _ _ _ _ h, hc]
theorem parts3 {W : World} {N : Nat} {a1 a2 a3 : Option Addr} {p1 p2 p3 : List Int} {c1 c2 c3 : Nat} (h1 : W.cell? ⟨N, 0, none⟩ = some (.slice a1 p1.length c1)) (h2 : W.cell? ⟨N, 1, none⟩ = some (.slice a2 p2.length c2)) (h3 : W.cell? ⟨N, 2, none⟩ = some (.slice a3 p3.length c3))
    (b1 : BysA W a1 p1) (b2 : BysA W a2 p2) (b3 : BysA W a3 p3) : PartsA W (some ⟨N, 0, none⟩) [p1, p2, p3] := by
  intro _
  refine ⟨N, 0, rfl, fun i hi => ?_⟩
  have : i = 0 ∨ i = 1 ∨ i = 2 := by simp at hi; omega
  rcases this with rfl | rfl | rfl
  · exact ⟨a1, c1, by simpa using h1, by simpa using b1⟩
  · exact ⟨a2, c2, by simpa using h2, by simpa using b2⟩
  · exact ⟨a3, c3, by simpa using h3, by simpa using b3⟩
theorem bys_four {X : World} {N : Nat} {x : Int} (h : N = X.heap.size) : BysA (X.alloc (.cells (fourV x) 5)) (some ⟨N, 0, none⟩) (four x) := bys_lit h rfl
theorem bys_kind {X : World} {N : Nat} {x : Int} (h : N = X.heap.size) : BysA (X.alloc (.cells #[.int .u8 x] 5)) (some ⟨N, 0, none⟩) [x] := bys_lit h rfl
theorem bys_pair {X : World} {N : Nat} {x y : Int} (h : N = X.heap.size) : BysA (X.alloc (.cells #[.int .u8 x, .int .u8 y] 5)) (some ⟨N, 0, none⟩) [x, y] := bys_lit h rfl
theorem parts_row3 {X : World} {N : Nat} {A1 A2 A3 : Option Addr} {n1 n2 n3 c1 c2 c3 : Nat} {p1 p2 p3 : List Int} (h : N = X.heap.size) (e1 : n1 = p1.length) (e2 : n2 = p2.length) (e3 : n3 = p3.length) (b1 : BysA X A1 p1) (b2 : BysA X A2 p2) (b3 : BysA X A3 p3) : PartsA (X.alloc (.cells #[.slice A1 n1 c1, .slice A2 n2 c2, .slice A3 n3 c3] 23)) (some ⟨N, 0, none⟩) [p1, p2, p3] := by
  subst e1 e2 e3
  refine parts3 (a1 := A1) (a2 := A2) (a3 := A3) (c1 := c1) (c2 := c2) (c3 := c3) (cell_lit h rfl) (cell_lit h rfl) (cell_lit h rfl) (bysA_alloc b1 _) (bysA_alloc b2 _) (bysA_alloc b3 _)
theorem byts_three {b1 b2 b3 : List Int} (h1 : Byt b1) (l1 : b1.length ≤ 20000) (h2 : Byt b2) (l2 : b2.length ≤ 20000) (h3 : Byt b3) (l3 : b3.length ≤ 20000) : Byts [b1, b2, b3] :=
  byts_of (by
    simp only [List.mem_cons, List.not_mem_nil, or_false, forall_eq_or_imp, forall_eq]
    exact ⟨⟨h1, maxLen_ge _ (by omega)⟩, ⟨h2, maxLen_ge _ (by omega)⟩, ⟨h3, maxLen_ge _ (by omega)⟩⟩)
theorem own_mono {w : World} {base base' : Nat} {e : TypeId} {size : Nat} {v : Value} {n : Nat} {xs : List Value} (h : w.ownsRow base e size v n xs) (hb : base' ≤ base) : w.ownsRow base' e size v n xs := by
  obtain ⟨hl, h2⟩ := h
  refine ⟨hl, ?_⟩
  rcases h2 with h0 | ⟨g, cap, cur, hv, hbg, r⟩
  · exact .inl h0
  · exact .inr ⟨g, cap, cur, hv, by omega, r⟩
theorem concat3 (N cap : Nat) (p1 p2 p3 : List Int) (W : World) (hp : PartsA W (some ⟨N, 0, none⟩) [p1, p2, p3]) (hB : Byts [p1, p2, p3]) (h0 : 0 < p1.length) (hf : p1.length + p2.length + p3.length ≤ 10000) :
    Calls Try.prog 49 #[.slice (some ⟨N, 0, none⟩) 3 cap] W fun e w' => ∃ g c, e = .returned (.slice (some ⟨g, 0, none⟩) (p1 ++ p2 ++ p3).length c) ∧ w'.ownsRow W.heap.size 5 1 (.slice (some ⟨g, 0, none⟩) (p1 ++ p2 ++ p3).length c) (p1 ++ p2 ++ p3).length ((p1 ++ p2 ++ p3).map (Value.int .u8)) ∧ Below W.heap.size W w' := by
  have e : [p1, p2, p3].flatten = p1 ++ p2 ++ p3 := by simp
  have := concat_any (some ⟨N, 0, none⟩) [p1, p2, p3] cap W hp hB (by simp) (by rw [e]; simp; omega) (by rw [e]; simp; omega)
  rw [e] at this
  refine this.mono ?_
  rintro e w' ⟨v, rfl, ho, hb⟩
  obtain ⟨g, c, rfl, _⟩ := own_bys1 ho (by simp; omega)
  exact ⟨g, c, rfl, ho, hb⟩

set_option maxHeartbeats 2000000 in
theorem lead_any (k e s : Int) (hk : 0 ≤ k ∧ k ≤ 255) (he : 0 ≤ e ∧ e ≤ 4294967295) (hs : 0 ≤ s ∧ s ≤ 4294967295) (w : World) :
    Calls Try.prog 57 #[.agg #[.int .u8 k, .int .u32 e, .int .u32 s]] w fun x w' => ∃ g c, x = .returned (.slice (some ⟨g, 0, none⟩) 9 c) ∧ w'.ownsRow w.heap.size 5 1 (.slice (some ⟨g, 0, none⟩) 9 c) (leadL k e s).length ((leadL k e s).map (Value.int .u8)) ∧ Below w.heap.size w w' := by
  have HK := hide hk
  have HE := hide he
  have HS := hide hs
  have HBT : Hid (Byts [[k], four e, four s]) := byts_three (byt_one hk) (by simp) (four_byt _) (by simp [four_len]) (four_byt _) (by simp [four_len])
  have HZ : Hid (0 < [k].length) := by show _ < _; simp
  have HL : Hid ([k].length + (four e).length + (four s).length ≤ 10000) := by show _ ≤ _; simp [four_len]
  clear hk he hs
  have HB0 : Hid (Below w.heap.size w (w.alloc (.cells #[.int .u8 k, .int .u32 e, .int .u32 s] 87))) := below_alloc (Below.refl _ _) _
  have c0 : (w.alloc (.cells #[.int .u8 k, .int .u32 e, .int .u32 s] 87)).cell? ⟨w.heap.size, 0, none⟩ = some (.int .u8 k) := cell_lit rfl rfl
  have c1 : (w.alloc (.cells #[.int .u8 k, .int .u32 e, .int .u32 s] 87)).cell? ⟨w.heap.size, 1, none⟩ = some (.int .u32 e) := cell_lit rfl rfl
  have c2 : (w.alloc (.cells #[.int .u8 k, .int .u32 e, .int .u32 s] 87)).cell? ⟨w.heap.size, 2, none⟩ = some (.int .u32 s) := cell_lit rfl rfl
  have hlt : w.heap.size < (w.alloc (.cells #[.int .u8 k, .int .u32 e, .int .u32 s] 87)).heap.size := by simp
  go_enter Try.func57, Try.ntmps57
  go_wp2
  generalize w.alloc (.cells #[.int .u8 k, .int .u32 e, .int .u32 s] 87) = w1 at *
  obtain ⟨bx, hbx⟩ : ∃ bx, w.heap.size = bx := ⟨_, rfl⟩
  have HBX := hide hbx
  rw [hbx] at c0 c1 c2 hlt ⊢
  clear hbx
  have HKEEP := hide (fun (W : World) (h : Below w1.heap.size w1 W) => (⟨h, (h.cell (p := ⟨bx, 0, none⟩) hlt).trans c0, (h.cell (p := ⟨bx, 1, none⟩) hlt).trans c1, (h.cell (p := ⟨bx, 2, none⟩) hlt).trans c2⟩ : Below w1.heap.size w1 W ∧ W.cell? ⟨bx, 0, none⟩ = some (.int .u8 k) ∧ W.cell? ⟨bx, 1, none⟩ = some (.int .u32 e) ∧ W.cell? ⟨bx, 2, none⟩ = some (.int .u32 s)))
  go_region_held3 (fun W => Below w1.heap.size w1 W ∧ W.cell? ⟨bx, 0, none⟩ = some (.int .u8 k) ∧ W.cell? ⟨bx, 1, none⟩ = some (.int .u32 e) ∧ W.cell? ⟨bx, 2, none⟩ = some (.int .u32 s)) ((go_split_ands; refine unhide HKEEP _ ?_; repeat (first | assumption | exact Below.refl _ _ | apply Below.drew | apply below_alloc))) (first
    | (go_at_call 58; refine (wide_four _ ?_ _).mono ?_; (focus (first | exact unhide HE | exact unhide HS)); rintro x w' ⟨rfl, rfl⟩)
    | (go_at_call 49; go_split_ands; refine (concat3 _ _ [k] (four e) (four s) _ ?_ (unhide HBT) (unhide HZ) (unhide HL)).mono ?_; (focus ((try refine partsA_drew ?_); ((with_reducible refine parts_row3 ?_ ?_ ?_ ?_ ?_ ?_ ?_) <;> (repeat (first | (focus (simp; done)) | rfl | (with_reducible refine bys_four ?_) | (with_reducible refine bys_kind ?_) | (with_reducible refine bysA_alloc ?_ _)))); done)); rintro x w' ⟨g, c, rfl, ho, hb⟩; have hbw : Below w1.heap.size w1 w' := (below_then (by repeat (first | assumption | exact Below.refl _ _ | apply Below.drew | apply below_alloc)) hb); have HO := hide (own_mono ho (base' := w.heap.size) (by have := (unhide HB0).size; simp; omega)); clear ho hb))
  all_goals
    have hbw' := below_then (unhide HB0) hbw
    clear HBX
    go_wp2
    go_ret
    exact ⟨g, c, rfl, unhide HO, hbw'⟩
end Go.Proofs.Ytfceileohkngnaa

/- Contracts: an entry's bytes. -/
namespace Go.Proofs.Ytfceileohkngnaa
open Go.RowKit
set_option linter.unusedVariables false

theorem bysA_drew1 {w : World} {a : Option Addr} {bs : List Int} (h : BysA w a bs) : BysA w.drew a bs := h

theorem sum_one {W : World} {A : Option Addr} {bs : List Int} (hb : BysA W A bs) (hB : Byt bs) (hl : bs.length ≤ 20000) (c : Nat) (N : Nat) (hN : N = W.heap.size) :
    Calls Try.prog 59 #[.slice (some ⟨N, 0, none⟩) 1 1] (W.alloc (.cells #[.slice A bs.length c] 23)) fun e w' => e = .returned (.int .u32 (more 1 bs)) ∧ w' = W.alloc (.cells #[.slice A bs.length c] 23) := by
  refine (sum1 hB hl _ N (parts_new (cs := [_]) hN (fun i hi => ?_))).mono ?_
  · have : i = 0 := by simpa using hi
    subst this
    exact ⟨A, c, rfl, hb⟩
  · rintro e w' ⟨he, rfl⟩
    exact ⟨he, rfl⟩
theorem concat_head (N cap : Nat) (k e s : Int) (b : List Int) (W : World) (hp : PartsA W (some ⟨N, 0, none⟩) [leadL k e s, [IntKind.u8.wrap ((b.length : Int) / 256), IntKind.u8.wrap (b.length : Int)], b]) (hk : 0 ≤ k ∧ k ≤ 255) (hB : Byt b) (hl : b.length ≤ 4000) :
    Calls Try.prog 49 #[.slice (some ⟨N, 0, none⟩) 3 cap] W fun e' w' => ∃ g c, e' = .returned (.slice (some ⟨g, 0, none⟩) (headL k e s b).length c) ∧ w'.ownsRow W.heap.size 5 1 (.slice (some ⟨g, 0, none⟩) (headL k e s b).length c) (headL k e s b).length ((headL k e s b).map (Value.int .u8)) ∧ Below W.heap.size W w' := by
  rw [IntKind.wrap_u8, IntKind.wrap_u8] at hp
  exact concat3 N cap (leadL k e s) _ b W hp (byts_three (leadL_byt hk) (by simp [leadL_len]) (lenB_byt _) (by simp) hB (by omega)) (by rw [leadL_len]; omega) (by rw [leadL_len]; simp; omega)

set_option maxHeartbeats 2000000 in
theorem rbytes_any (k e s : Int) (hk : 0 ≤ k ∧ k ≤ 255) (he : 0 ≤ e ∧ e ≤ 4294967295) (hs : 0 ≤ s ∧ s ≤ 4294967295) (A : Option Addr) (b : List Int) (cap : Nat) (hl : b.length ≤ 4000) (hB : Byt b) (w : World) (hA : BysA w A b) :
    Calls Try.prog 38 #[.agg #[.int .u8 k, .int .u32 e, .int .u32 s, .slice A b.length cap]] w fun x w' => ∃ g c, x = .returned (.slice (some ⟨g, 0, none⟩) (entL k e s b).length c) ∧ w'.ownsRow w.heap.size 5 1 (.slice (some ⟨g, 0, none⟩) (entL k e s b).length c) (entL k e s b).length ((entL k e s b).map (Value.int .u8)) ∧ Below w.heap.size w w' := by
  have HK := hide hk
  have HE := hide he
  have HS := hide hs
  have HB := hide hB
  have HA := hide hA
  have HB0 : Hid (Below w.heap.size w (w.alloc (.cells #[.int .u8 k, .int .u32 e, .int .u32 s, .slice A b.length cap] 89))) := below_alloc (Below.refl _ _) _
  have c0 : (w.alloc (.cells #[.int .u8 k, .int .u32 e, .int .u32 s, .slice A b.length cap] 89)).cell? ⟨w.heap.size, 0, none⟩ = some (.int .u8 k) := cell_lit rfl rfl
  have c1 : (w.alloc (.cells #[.int .u8 k, .int .u32 e, .int .u32 s, .slice A b.length cap] 89)).cell? ⟨w.heap.size, 1, none⟩ = some (.int .u32 e) := cell_lit rfl rfl
  have c2 : (w.alloc (.cells #[.int .u8 k, .int .u32 e, .int .u32 s, .slice A b.length cap] 89)).cell? ⟨w.heap.size, 2, none⟩ = some (.int .u32 s) := cell_lit rfl rfl
  have c3 : (w.alloc (.cells #[.int .u8 k, .int .u32 e, .int .u32 s, .slice A b.length cap] 89)).cell? ⟨w.heap.size, 3, none⟩ = some (.slice A b.length cap) := cell_lit rfl rfl
  have hlt : w.heap.size < (w.alloc (.cells #[.int .u8 k, .int .u32 e, .int .u32 s, .slice A b.length cap] 89)).heap.size := by simp
  have hn0 : (0 : Int) ≤ (b.length : Int) := by omega
  have hn1 : (b.length : Int) ≤ 4000 := by omega
  clear hk he hs hB hA
  go_enter Try.func38, Try.ntmps38
  go_wp2
  generalize w.alloc (.cells #[.int .u8 k, .int .u32 e, .int .u32 s, .slice A b.length cap] 89) = w1 at *
  obtain ⟨bx, hbx⟩ : ∃ bx, w.heap.size = bx := ⟨_, rfl⟩
  have HBX := hide hbx
  rw [hbx] at c0 c1 c2 c3 hlt ⊢
  clear hbx
  have HKEEP := hide (fun (W : World) (h : Below w1.heap.size w1 W) => (⟨h, (h.cell (p := ⟨bx, 0, none⟩) hlt).trans c0, (h.cell (p := ⟨bx, 1, none⟩) hlt).trans c1, (h.cell (p := ⟨bx, 2, none⟩) hlt).trans c2, (h.cell (p := ⟨bx, 3, none⟩) hlt).trans c3⟩ : Below w1.heap.size w1 W ∧ W.cell? ⟨bx, 0, none⟩ = some (.int .u8 k) ∧ W.cell? ⟨bx, 1, none⟩ = some (.int .u32 e) ∧ W.cell? ⟨bx, 2, none⟩ = some (.int .u32 s) ∧ W.cell? ⟨bx, 3, none⟩ = some (.slice A b.length cap)))
  have HBODY := hide (fun (W : World) (h : Below w1.heap.size w1 W) => bysA_below (unhide HA) (below_then (unhide HB0) h))
  go_region_held3 (fun W => Below w1.heap.size w1 W ∧ W.cell? ⟨bx, 0, none⟩ = some (.int .u8 k) ∧ W.cell? ⟨bx, 1, none⟩ = some (.int .u32 e) ∧ W.cell? ⟨bx, 2, none⟩ = some (.int .u32 s) ∧ W.cell? ⟨bx, 3, none⟩ = some (.slice A b.length cap)) ((go_split_ands; refine unhide HKEEP _ ?_; repeat (first | assumption | exact Below.refl _ _ | apply Below.drew | apply below_alloc))) (first
    | (go_at_call 57; go_split_ands; refine (lead_any k e s (unhide HK) (unhide HE) (unhide HS) _).mono ?_; rintro x w2 ⟨g, c, rfl, ho, hb⟩; have hbw : Below w1.heap.size w1 w2 := (below_then (by repeat (first | assumption | exact Below.refl _ _ | apply Below.drew | apply below_alloc)) hb); obtain ⟨A9, c9, e9, hbys, _⟩ := own_bys ho; cases e9; have HLB := hide hbys; have HBL := hide hb; clear ho hb hbys)
    | (go_at_call 49; go_split_ands; refine (concat_head _ _ k e s b _ ?_ (unhide HK) (unhide HB) hl).mono ?_; (focus ((try refine partsA_drew ?_); ((with_reducible refine parts_row3 ?_ ?_ ?_ ?_ ?_ ?_ ?_) <;> (repeat (first | (focus (simp; done)) | rfl | exact unhide HLB | (with_reducible refine bys_pair ?_) | (with_reducible refine bysA_below ?_ (unhide HBL)) | (refine unhide HBODY _ ?_; (repeat (first | assumption | exact Below.refl _ _ | apply Below.drew | apply below_alloc)); done) | (with_reducible refine bysA_drew1 ?_) | (with_reducible refine bysA_alloc ?_ _)))); done)); rintro x w' ⟨g, c, rfl, ho, hb⟩; have hbw' : Below w1.heap.size w1 w' := (below_then (by repeat (first | assumption | exact Below.refl _ _ | apply Below.drew | apply below_alloc)) hb); have HO := hide (own_mono ho (base' := w.heap.size) (by have h1 := (unhide HB0).size; have h2 := hbw.size; simp; omega)); clear ho hb))
  all_goals
    have hb9 := below_then (unhide HB0) hbw'
    have hh := headL_len k e s b
    have HHB := hide (headL_byt (e := e) (s := s) (unhide HK) (unhide HB))
    have HEN : Hid (entL k e s b = headL k e s b ++ four (more 1 (headL k e s b))) := rfl
    generalize headL k e s b = h at *
    obtain ⟨A9, c9, e9, hbys, hc9⟩ := own_bys (unhide HO)
    cases e9
    have HY := hide hbys
    have HOA : Hid (((w'.alloc (.cells #[.slice (some ⟨g, 0, none⟩) h.length c] 23)).alloc (.cells (fourV (more 1 h)) 5)).ownsRow w.heap.size 5 1 (.slice (some ⟨g, 0, none⟩) h.length c) h.length (h.map (Value.int .u8))) := ((unhide HO).alloc _).alloc _
    have HML := hide (more_lim 1 h)
    have hh2 : h.length ≤ 20000 := by omega
    have HZ : Hid (w.heap.size ≤ ((w'.alloc (.cells #[.slice (some ⟨g, 0, none⟩) h.length c] 23)).alloc (.cells (fourV (more 1 h)) 5)).heap.size) := by show _ ≤ _; have := hb9.size; simp; omega
    have HBF : Hid (BysA ((w'.alloc (.cells #[.slice (some ⟨g, 0, none⟩) h.length c] 23)).alloc (.cells (fourV (more 1 h)) 5)) (some ⟨w'.heap.size + 1, 0, none⟩) (four (more 1 h))) := bys_four (by simp)
    clear hbys hh HKEEP HBODY hc9
    go_wp2_with (first
      | (go_at_call 59; refine (sum_one (unhide HY) (unhide HHB) hh2 c _ ?_).mono ?_; (focus rfl); rintro x w4 ⟨rfl, rfl⟩)
      | (go_at_call 58; refine (wide_four _ (unhide HML) _).mono ?_; rintro x w5 ⟨rfl, rfl⟩)
      | ((with_reducible refine wpList_appendB _ _ w.heap.size _ h (four (more 1 h)) ?_ (unhide HOA) (some ⟨w'.heap.size + 1, 0, none⟩) 4 4 ?_ ?_ (unhide HBF) ?_ (unhide HZ) ?_); (focus rfl); (focus rfl); (focus rfl); (focus (rw [four_len]; omega)); intro v' w6 h6 hg6))
    obtain ⟨g6, c6, rfl, _⟩ := own_bys1 h6 (by rw [List.length_append, four_len]; omega)
    have hb6 : Below w.heap.size w w6 := (below_alloc (below_alloc hb9 _) _).grown hg6 (unhide HZ) (fun j hj => (own_block (unhide HO) hj).1)
    clear HBX
    go_wp2
    go_ret
    rw [unhide HEN]
    exact ⟨g6, c6, rfl, h6, hb6⟩
end Go.Proofs.Ytfceileohkngnaa

/- Contract: Encode. -/
namespace Go.Proofs.Ytfceileohkngnaa
open Go.RowKit
set_option linter.unusedVariables false

/-- An entry as one value. -/
def entV (k e s : Int) (A : Option Addr) (n cap : Nat) : Value := .agg #[.int .i64 k, .int .u32 e, .int .u32 s, .slice A n cap]
theorem pieces_ent (k e s : Int) (b : List Int) : pieces (entL k e s b).length = (b.length + 77) / 63 := by unfold pieces; rw [entL_len]; omega

set_option maxHeartbeats 1000000 in
theorem encode_ok (k e s : Int) (hk : 0 ≤ k ∧ k ≤ 255) (he : 0 ≤ e ∧ e ≤ 4294967295) (hs : 0 ≤ s ∧ s ≤ 4294967295) (A : Option Addr) (b : List Int) (cap : Nat) (hl : b.length ≤ 4000) (hB : Byt b) (w : World) (hA : BysA w A b) :
    Calls Try.prog 7 #[.agg #[.int .i64 k, .int .u32 e, .int .u32 s, .slice A b.length cap]] w fun x w' => ∃ g c, x = .returned (.tuple #[.slice (some ⟨g, 0, none⟩) (cutS (entL k e s b)).length c, .int .i64 0]) ∧ w'.ownsRow w.heap.size 75 64 (.slice (some ⟨g, 0, none⟩) (cutS (entL k e s b)).length c) (cutS (entL k e s b)).length (flatS (cutS (entL k e s b))) ∧ Below w.heap.size w w' := by
  have HE := hide he
  have HS := hide hs
  have HB := hide hB
  have HA := hide hA
  have HK := hide hk
  obtain ⟨k1, k2⟩ := hk
  obtain ⟨e1, e2⟩ := he
  obtain ⟨s1, s2⟩ := hs
  have hn1 : (b.length : Int) ≤ 4000 := by omega
  have HBL : Hid (∀ (o1 o2 : Obj), BysA ((w.alloc o1).alloc o2) A b) := fun o1 o2 => bysA_alloc (bysA_alloc (unhide HA) _) _
  have HLN : Hid ((entL k e s b).length = 15 + b.length) := entL_len k e s b
  have HEB := hide (entL_byt (e := e) (s := s) (unhide HK) hB)
  have HCL : Hid (0 < (cutS (entL k e s b)).length) := by show _ < _; rw [cutS_len, pieces_ent]; omega
  have HBW : Hid (∀ (o1 o2 : Obj), Below w.heap.size w ((w.alloc o1).alloc o2)) := fun o1 o2 => below_alloc (below_alloc (Below.refl _ _) _) _
  clear hB hA
  go_enter Try.func7, Try.ntmps7
  go_wp2_with (first
    | (go_at_call 38; refine (rbytes_any k e s (unhide HK) (unhide HE) (unhide HS) A b cap hl (unhide HB) _ (unhide HBL _ _)).mono ?_; rintro x w2 ⟨g, c, rfl, ho, hb⟩; have hb2 := below_then (unhide HBW _ _) hb; obtain ⟨A9, c9, e9, hbys, hc9⟩ := own_bys ho; cases e9; have HY := hide hbys; clear ho hbys)
    | (go_at_call 37; refine (cut_any _ _ _ (entL k e s b) _ (unhide HEB) ?_ ?_ hc9 (unhide HY)).mono ?_; (focus (rw [unhide HLN]; omega)); (focus (rw [unhide HLN]; omega)); rintro x w3 ⟨v, rfl, ho, hb3⟩; obtain ⟨gv, cv, rfl⟩ : ∃ gv cv, v = .slice (some ⟨gv, 0, none⟩) (cutS (entL k e s b)).length cv := (by rcases ho.2 with ⟨_, h0⟩ | ⟨g', cap', cur, h', _⟩; (have := unhide HCL; omega); exact ⟨g', cap', h'⟩); have HO := hide (own_mono ho hb2.size); clear ho))
  go_ret2
  exact ⟨gv, cv, rfl, unhide HO, below_then hb2 hb3⟩

theorem encode_form (k e s : Int) (hk : k < 0 ∨ 255 < k) (A : Option Addr) (n cap : Nat) (w : World) :
    Calls Try.prog 7 #[.agg #[.int .i64 k, .int .u32 e, .int .u32 s, .slice A n cap]] w fun x w' => x = .returned (.tuple #[.slice none 0 0, .int .i64 11]) ∧ Below w.heap.size w w' := by
  by_cases h : k < 0
  · go_enter Try.func7, Try.ntmps7
    go_wp2
    go_ret2
    exact ⟨rfl, below_alloc (Below.refl _ _) _⟩
  · have h2 : 255 < k := by omega
    have h3 : ¬ k < 0 := h
    go_enter Try.func7, Try.ntmps7
    go_wp2
    go_ret2
    exact ⟨rfl, below_alloc (Below.refl _ _) _⟩
theorem encode_long (k e s : Int) (hk : 0 ≤ k ∧ k ≤ 255) (A : Option Addr) (n cap : Nat) (hn : 4000 < n) (w : World) :
    Calls Try.prog 7 #[.agg #[.int .i64 k, .int .u32 e, .int .u32 s, .slice A n cap]] w fun x w' => x = .returned (.tuple #[.slice none 0 0, .int .i64 2]) ∧ Below w.heap.size w w' := by
  obtain ⟨k1, k2⟩ := hk
  have h2 : (4000 : Int) < (n : Int) := by omega
  go_enter Try.func7, Try.ntmps7
  go_wp2
  go_ret2
  exact ⟨rfl, below_alloc (Below.refl _ _) _⟩
end Go.Proofs.Ytfceileohkngnaa
