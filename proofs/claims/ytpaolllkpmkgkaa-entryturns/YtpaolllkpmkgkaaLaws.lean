/- The walk's laws for sectors, plain and inside a fence. -/
import Derived.OwnWalkIn
import Derived.Laws.IdiomCopy
import Derived.Test.YtpaolllkpmkgkaaEMath
namespace Go.Proofs.Ytpaolllkpmkgkaa
open Go.RowKit
set_option linter.unusedVariables false

section
variable {F : Fence} {n : Nat} {P : Program} {ops : Array Oper} {rest : List Oper} {o : Oper} {a : Act} {w : World} {Q : Exit → Act → World → Prop}
theorem wpListIn_val (hg : o.guard = none) (hd : ∀ c, o.op ≠ .defer c) (hab : o.about P w a.eval = none) {v : Value} {w' : World} (hr : (execOp a.eval o).run P w = .ok (.value v) w') (h : wpListIn F n P ops Q rest (a.put o.dst v) w') : wpListIn F n P ops Q (o :: rest) a w := by
  refine wpListIn_plain hg fun K hK => ?_
  unfold Oper.wpIn
  refine ⟨fun f hf => (by rw [hab] at hf; cases hf), ?_⟩
  rw [Oper.semAt_plain F _ _ hd, hr]
  exact hK _ _ h
theorem wpListIn_skp (hg : o.guard = none) (hd : ∀ c, o.op ≠ .defer c) (hab : o.about P w a.eval = none) {w' : World} (hr : (execOp a.eval o).run P w = .ok .skip w') (h : wpListIn F n P ops Q rest (a.put o.dst undef) w') : wpListIn F n P ops Q (o :: rest) a w := by
  refine wpListIn_plain hg fun K hK => ?_
  unfold Oper.wpIn
  refine ⟨fun f hf => (by rw [hab] at hf; cases hf), ?_⟩
  rw [Oper.semAt_plain F _ _ hd, hr]
  exact hK _ _ h
theorem wpList_val (hg : o.guard = none) {v : Value} {w' : World} (hr : (execOp a.eval o).run P w = .ok (.value v) w') (h : wpList P ops Q rest (a.put o.dst v) w') : wpList P ops Q (o :: rest) a w := by
  refine wpList_plain hg fun K hK => ?_
  unfold Oper.wp
  rw [hr]
  exact hK _ _ h
theorem wpList_skp (hg : o.guard = none) {w' : World} (hr : (execOp a.eval o).run P w = .ok .skip w') (h : wpList P ops Q rest (a.put o.dst undef) w') : wpList P ops Q (o :: rest) a w := by
  refine wpList_plain hg fun K hK => ?_
  unfold Oper.wp
  rw [hr]
  exact hK _ _ h
end

theorem cell_setCells_out (g : Nat) : ∀ (us : List Value) (o : Nat) (w : World) (j : Nat), ¬ (o ≤ j ∧ j < o + us.length) → (w.setCells g o us).cell? ⟨g, j, none⟩ = w.cell? ⟨g, j, none⟩
  | [], _, _, _, _ => rfl
  | u :: r, o, w, j, h => by
    rw [World.setCells, cell_setCells_out g r (o + 1) _ j (by simp at h; omega)]
    exact World.cell?_setCell_other _ _ _ _ (by intro e; cases e; simp at h)
/-! ### what operations on sectors come to -/
theorem all_one_bytes (s : Sct) : (bytes s).toArray.all (·.oneCell') = true := all_oneCell_toArray (bytes_one s)

section
variable {ρ : Operand → Value} {w : World} {dst : Option Tmp} {ty : TypeId} {pos : String} {af : Array Edge} {gd : Option (Nat × Bool)}
theorem exec_loadS (x : Operand) (b o : Nat) (s : Sct) (hx : ρ x = .pointer (some ⟨b, o, none⟩)) (hc : w.rangeAt b o (bytes s)) :
    (execOp ρ ⟨dst, .load 44 x, ty, pos, af, gd⟩).run Try.prog w = .ok (.value (sv s)) w := by
  unfold execOp
  simp only [hx, Instr.loadAt, Instr.sureAddr, Sem.run_bind, Sem.run_pure, Result.andThen_ok, run_loadS w b o s hc]

theorem exec_storeS (x y : Operand) (b o : Nat) (s : Sct) (hx : ρ x = .pointer (some ⟨b, o, none⟩)) (hy : ρ y = sv s) (ht : w.there b o 64) :
    (execOp ρ ⟨dst, .store 44 x y, ty, pos, af, gd⟩).run Try.prog w = .ok .skip (w.setCells b o (bytes s)) := by
  have hz : (bytes s).toArray.size = 64 := by rw [List.size_toArray, bytes_len]
  have := run_storeAt_mid (P := Try.prog) w b o 44 (bytes s).toArray (by rw [hz]; exact ht) (by rw [hz]; exact Try.size44) (all_one_bytes s)
  unfold execOp
  simp only [hx, hy, sv, Sem.run_bind, this, Result.andThen_ok, Sem.run_pure]

theorem exec_allocT (t : TypeId) (i : TypeInfo) (z : Value) (hi : Try.prog.info? t = some i) (hz : i.zero = some z) :
    (execOp ρ ⟨dst, .alloc t, ty, pos, af, gd⟩).run Try.prog w = .ok (.value (.pointer (some ⟨w.heap.size, 0, none⟩))) (w.alloc (.cells z.cells t)) := by
  have hr : (Instr.alloc t true (.tuple #[])).run Try.prog w = .ok (.pointer (some ⟨w.heap.size, 0, none⟩)) (w.alloc (.cells z.cells t)) := by
    simp [Instr.alloc, zeroValue, typeInfo, hi, hz, newVar, newRow]
  unfold execOp
  simp only [Sem.run_bind, hr, Result.andThen_ok, Sem.run_pure]

theorem toArr_get (l : List Value) (t : Nat) : l.toArray[t]? = l[t]? := by simp
theorem run_build1 (m : Int) (hm : 0 ≤ m ∧ m ≤ 255) (w : World) : (Instr.build 44 #[(0, .int .u8 m)]).run Try.prog w = .ok (sv (mkS [m])) w := by
  obtain ⟨i36, hi36, hz36⟩ := Try.zero44
  obtain ⟨j5, hj5, hs5⟩ := Option.map_eq_some_iff.1 Try.size5
  obtain ⟨c1, e1, s1, g1⟩ := fill_put (fun i => some (i * 1, 1)) (bytes zeroS).toArray 0 0 1 (.int .u8 m) [] rfl rfl (by rw [List.size_toArray, bytes_len]; omega)
  have e2 : c1 = (bytes (mkS [m])).toArray := by
    apply Array.ext_getElem?
    intro t
    rw [g1 t]
    by_cases ht : 0 ≤ t ∧ t < 0 + 1
    · rw [if_pos ht]
      obtain rfl : t = 0 := by omega
      rw [toArr_get (bytes (mkS [m])), bytes_mk _ _ (by omega)]
      have : m % 256 = m := by omega
      simp [Value.cells, this]
    · rw [if_neg ht, List.getElem?_toArray, List.getElem?_toArray]
      by_cases h64 : t < 64
      · obtain ⟨u, rfl⟩ : ∃ u, t = u + 1 := ⟨t - 1, by omega⟩
        rw [bytes_mk _ _ h64]
        unfold zeroS
        rw [bytes_full, List.getElem?_replicate, if_pos h64]
        simp
      · rw [List.getElem?_eq_none (by rw [bytes_len]; omega), List.getElem?_eq_none (by rw [bytes_len]; omega)]
  rw [e2] at e1
  have e3 : Instr.fill (fun i => some (i * 1, 1)) (sv zeroS).cells [(0, .int .u8 m)] = some (bytes (mkS [m])).toArray := e1
  simp only [Instr.build, zeroValue, typeInfo, Sem.run_bind, run_program, hi36, hz36, Sem.run_pure, Result.andThen_ok, run_underlying Try.underlying44, sizeOf, hj5, hs5]
  rw [e3]
  rfl

theorem exec_build1 (x : Operand) (m : Int) (hm : 0 ≤ m ∧ m ≤ 255) (hx : ρ x = .int .u8 m) :
    (execOp ρ ⟨dst, .build 44 #[(0, x)], ty, pos, af, gd⟩).run Try.prog w = .ok (.value (sv (mkS [m]))) w := by
  unfold execOp
  simp only [List.map_toArray, List.map_cons, List.map_nil, hx, Sem.run_bind, run_build1 m hm w, Result.andThen_ok, Sem.run_pure]

theorem fill_oneS (s : Sct) (cs : Array Value) (hc : cs.size = 64) : Instr.fill (fun i => some (i * 64, 64)) cs [(0, sv s)] = some (bytes s).toArray := by
  obtain ⟨c1, e1, s1, g1⟩ := fill_put (fun i => some (i * 64, 64)) cs 0 0 64 (sv s) [] rfl (by rw [sv_cells, List.size_toArray, bytes_len]) (by omega)
  rw [e1]
  show some c1 = _
  congr 1
  apply Array.ext_getElem?
  intro t
  rw [g1 t]
  by_cases ht : 0 ≤ t ∧ t < 0 + 64
  · rw [if_pos ht, sv_cells, Nat.sub_zero]
  · rw [if_neg ht, Array.getElem?_eq_none (by omega), List.getElem?_toArray, List.getElem?_eq_none (by rw [bytes_len]; omega)]

theorem run_buildSliceS (s : Sct) (w : World) :
    (Instr.buildSlice 26 1 #[(0, sv s)]).run Try.prog w = .ok (.slice (some ⟨w.heap.size, 0, none⟩) 1 1) (w.alloc (.cells (bytes s).toArray 44)) := by
  obtain ⟨i, hi, hz⟩ := Try.zero44
  have hs : i.size = 64 := by have := Try.size44; rw [hi] at this; simpa using this
  have hf := fill_oneS s ((Array.range (1 * 64)).map ((sv zeroS).cells[· % (sv zeroS).cells.size]!)) (by simp)
  simp only [Instr.buildSlice, Sem.run_bind, Result.andThen_ok, run_underlying Try.underlying26]
  simp only [sizeOf, typeInfo, Sem.run_bind, hi, Sem.run_pure, Result.andThen_ok, run_program, hs]
  rw [if_neg (by omega), if_neg (by omega)]
  simp only [zeroValue, typeInfo, Sem.run_bind, run_program, hi, hz, Sem.run_pure, Result.andThen_ok]
  rw [hf]
  simp [newRow]

theorem exec_bsl (x : Operand) (s : Sct) (hx : ρ x = sv s) :
    (execOp ρ ⟨dst, .buildSlice 26 1 #[(0, x)], ty, pos, af, gd⟩).run Try.prog w = .ok (.value (.slice (some ⟨w.heap.size, 0, none⟩) 1 1)) (w.alloc (.cells (bytes s).toArray 44)) := by
  unfold execOp
  simp only [List.map_toArray, List.map_cons, List.map_nil, hx, Sem.run_bind, run_buildSliceS s w, Result.andThen_ok, Sem.run_pure]

set_option maxRecDepth 8000 in
/-- 'copy(x[1:], p)': a piece behind the mark. -/
theorem exec_copy (x y : Operand) (g dc : Nat) (A : Option Addr) (sc : Nat) (c : List Int) (m : Int) (hc : c.length ≤ 63) (hB : Byt c) (hm : 0 ≤ m ∧ m ≤ 255)
    (hx : ρ x = .slice (some ⟨g, 1, none⟩) 63 dc) (hy : ρ y = .slice A c.length sc) (hA : BysA w A c) (hs : SecsAt w 44 g [mkS [m]]) :
    ∃ w', (execOp ρ ⟨dst, .call { callee := .builtin .copy, args := #[x, y], argTypes := #[23, 23] }, ty, pos, af, gd⟩).run Try.prog w = .ok (.value (goInt c.length)) w' ∧ w' = w.setCells g 1 (c.map (Value.int .u8)) ∧ SecsAt w' 44 g [mkS (m :: c)] := by
  have hmin : Nat.min c.length 63 = c.length := Nat.min_eq_left hc
  have hth : ∀ j, j < 63 → (w.cell? ⟨g, 1 + j, none⟩).isSome = true ∧ w.frozen? ⟨g, 1 + j, none⟩ = false := fun j hj => hs.1.there 1 63 (by simp) j hj
  have hrun : (Builtin.copy_ #[23, 23] ty #[.slice (some ⟨g, 1, none⟩) 63 dc, .slice A c.length sc]).run Try.prog w = .ok (goInt c.length) (w.setCells g 1 (c.map (Value.int .u8))) := by
    by_cases h0 : c = []
    · subst h0
      exact run_copy_none w 23 23 ty 5 _ _ _ _ _ _ Try.underlying23 Try.size5 (by simp)
    · obtain ⟨b, off, rfl, hcell⟩ := hA h0
      have := run_copy_cells (P := Try.prog) w 23 23 ty 5 g 1 63 dc ⟨b, off, none⟩ c.length sc (c.map (Value.int .u8)) Try.underlying23 Try.size5 (by rw [List.length_map]; exact hmin.symm)
        (fun j v hj => by
          have hjl : j < c.length := by have := (List.getElem?_eq_some_iff.1 hj).1; simpa using this
          rw [map_get hjl] at hj
          cases hj
          rw [addr_add]; exact hcell j hjl)
        (fun j hj => (hth j (by rw [List.length_map] at hj; omega)).1) (fun j hj => (hth j (by rw [List.length_map] at hj; omega)).2) (one_u8 c)
      rw [List.length_map] at this
      exact this
  refine ⟨_, ?_, rfl, ?_⟩
  · unfold execOp
    simp only [resolve, invoke, builtin, Sem.run_bind, Sem.run_pure, Result.andThen_ok, List.map_toArray, List.map_cons, List.map_nil, hx, hy, hrun]
  · refine ⟨hs.1.sets _ _, fun i t ht => ?_⟩
    obtain ⟨rfl, rfl⟩ : i = 0 ∧ t = mkS (m :: c) := by
      cases i with
      | zero => simpa using ht.symm
      | succ i => simp at ht
    intro j v hv
    have hj : j < 64 := by have := (List.getElem?_eq_some_iff.1 hv).1; rwa [bytes_len] at this
    rw [bytes_mk _ _ hj] at hv
    cases hv
    rw [Nat.zero_mul, Nat.zero_add]
    have hold := secs_byte hs j hj
    rw [mkS_getD _ _ hj] at hold
    by_cases hin : 1 ≤ j ∧ j < 1 + c.length
    · obtain ⟨u, rfl⟩ : ∃ u, j = 1 + u := ⟨j - 1, by omega⟩
      have hth2 : w.there g 1 (c.map (Value.int .u8)).length := by rw [List.length_map]; exact fun k hk => hth k (by omega)
      have hr := World.rangeAt_setCells_same w g 1 (c.map (Value.int .u8)) hth2 u _ (map_get (by omega))
      rw [hr, Nat.add_comm 1 u, List.getD_cons_succ, byt_mod hB]
    · rw [cell_setCells_out]
      · rw [hold]
        congr 2
        cases j with
        | zero => rfl
        | succ u =>
          have hz : c.getD u 0 = 0 := by rw [List.getD_eq_getElem?_getD, List.getElem?_eq_none (by omega)]; rfl
          rw [List.getD_cons_succ, List.getD_cons_succ, hz]; rfl
      · rw [List.length_map]; omega
end

theorem grown_sets (w : World) (b o : Nat) (us : List Value) : w.grownBy (w.setCells b o us) (some b) := by
  obtain ⟨h1, h2, h3⟩ := os_setCells b us o w
  exact ⟨h1, h2, h3, by rw [size_setCells]; exact Nat.le_refl _, fun k _ hk => heap_setCells_other b us o w k (fun e => hk (by rw [e]))⟩
theorem SecsAt.kept {w w' : World} {e : TypeId} {g : Nat} {S : List Sct} {row : Option Nat} (h : SecsAt w e g S) (hg : w.grownBy w' row) (hne : row ≠ some g) : SecsAt w' e g S := h.of_block (hg.block g h.lt (fun e => hne e.symm))

section
variable {F : Fence} {n : Nat} {ops : Array Oper} {rest : List Oper} {a : Act} {w : World} {Q : Exit → Act → World → Prop} {dst : Option Tmp} {ty : TypeId} {pos : String} {af : Array Edge}
theorem wpListIn_allocS (h : ∀ w1, w.grownBy w1 none → Hid (w1.heap.size = w.heap.size + 1) → SecsAt w1 44 w.heap.size [zeroS] → wpListIn F n Try.prog ops Q rest (a.put dst (.pointer (some ⟨w.heap.size, 0, none⟩))) w1) :
    wpListIn F n Try.prog ops Q (⟨dst, .alloc 44, ty, pos, af, none⟩ :: rest) a w := by
  obtain ⟨i, hi, hz⟩ := Try.zero44
  exact wpListIn_val rfl (fun c h => by cases h) rfl (exec_allocT 44 i (sv zeroS) hi hz) (h _ (World.grownBy_alloc _ _ _) (by show _ = _; simp) (secs_new (heap_alloc_last _ _)))
theorem wpListIn_storeS (x y : Operand) (b : Nat) (s0 s : Sct) (hx : a.eval x = .pointer (some ⟨b, 0, none⟩)) (hy : a.eval y = sv s) (hs : SecsAt w 44 b [s0])
    (h : ∀ w1, w.grownBy w1 (some b) → SecsAt w1 44 b [s] → wpListIn F n Try.prog ops Q rest (a.put dst undef) w1) :
    wpListIn F n Try.prog ops Q (⟨dst, .store 44 x y, ty, pos, af, none⟩ :: rest) a w :=
  wpListIn_skp rfl (fun c h => by cases h) rfl (exec_storeS x y b 0 s hx hy (secs_there hs)) (h _ (grown_sets _ _ _ _) (secs_store hs s))
theorem wpListIn_loadS (x : Operand) (b o : Nat) (s : Sct) (hx : a.eval x = .pointer (some ⟨b, o, none⟩)) (hc : w.rangeAt b o (bytes s))
    (h : wpListIn F n Try.prog ops Q rest (a.put dst (sv s)) w) : wpListIn F n Try.prog ops Q (⟨dst, .load 44 x, ty, pos, af, none⟩ :: rest) a w :=
  wpListIn_val rfl (fun c h => by cases h) rfl (exec_loadS x b o s hx hc) h
theorem wpListIn_build1 (x : Operand) (m : Int) (hm : 0 ≤ m ∧ m ≤ 255) (hx : a.eval x = .int .u8 m)
    (h : wpListIn F n Try.prog ops Q rest (a.put dst (sv (mkS [m]))) w) : wpListIn F n Try.prog ops Q (⟨dst, .build 44 #[(0, x)], ty, pos, af, none⟩ :: rest) a w :=
  wpListIn_val rfl (fun c h => by cases h) rfl (exec_build1 x m hm hx) h
theorem wpListIn_copyS (x y : Operand) (g dc : Nat) (A : Option Addr) (sc : Nat) (c : List Int) (m : Int) (hc : c.length ≤ 63) (hB : Byt c) (hm : 0 ≤ m ∧ m ≤ 255)
    (hx : a.eval x = .slice (some ⟨g, 1, none⟩) 63 dc) (k : Nat) (hk : k = c.length) (hy : a.eval y = .slice A k sc) (hA : BysA w A c) (hs : SecsAt w 44 g [mkS [m]])
    (h : ∀ w1, w.grownBy w1 (some g) → SecsAt w1 44 g [mkS (m :: c)] → wpListIn F n Try.prog ops Q rest (a.put dst (goInt c.length)) w1) :
    wpListIn F n Try.prog ops Q (⟨dst, .call { callee := .builtin .copy, args := #[x, y], argTypes := #[23, 23] }, ty, pos, af, none⟩ :: rest) a w := by
  subst hk
  obtain ⟨w', hr, hw, hs'⟩ := exec_copy (dst := dst) (ty := ty) (pos := pos) (af := af) (gd := none) x y g dc A sc c m hc hB hm hx hy hA hs
  refine wpListIn_val rfl (fun c h => by cases h) ?_ hr (h _ (by rw [hw]; exact grown_sets _ _ _ _) hs')
  simp [Oper.about, resolve, Target.leads, Sem.run_pure]
theorem wpListIn_bslS (x : Operand) (s : Sct) (hx : a.eval x = sv s)
    (h : ∀ w1, w.grownBy w1 none → RowA w1 (some ⟨w.heap.size, 0, none⟩) (bytes s) → wpListIn F n Try.prog ops Q rest (a.put dst (.slice (some ⟨w.heap.size, 0, none⟩) 1 1)) w1) :
    wpListIn F n Try.prog ops Q (⟨dst, .buildSlice 26 1 #[(0, x)], ty, pos, af, none⟩ :: rest) a w :=
  wpListIn_val rfl (fun c h => by cases h) rfl (exec_bsl x s hx) (h _ (World.grownBy_alloc _ _ _) (fun _ => ⟨_, 0, rfl, fun j u hj => by
    rw [cell_of_row _ _ _ _ _ _ (heap_alloc_last w _)]
    simpa using hj⟩))
theorem wpListIn_appendS (s x : Operand) (base : Nat) (v : Value) (S : List Sct) (T : List Sct) (hs : a.eval s = v) (hown : w.ownsRow base 44 64 v S.length (flatS S)) (A : Option Addr) (m c : Nat) (hm : m = T.length) (hx : a.eval x = .slice A m c) (hT : ScsA w A T)
    (hlen : S.length + T.length ≤ 100000) (hbase : base ≤ w.heap.size)
    (h : ∀ v' w1, w1.ownsRow base 44 64 v' (S ++ T).length (flatS (S ++ T)) → w.grownBy w1 v.ownBlock → wpListIn F n Try.prog ops Q rest (a.put dst v') w1) :
    wpListIn F n Try.prog ops Q (⟨dst, .call { callee := .builtin .append, args := #[s, x], argTypes := #[26, 26] }, ty, pos, af, none⟩ :: rest) a w := by
  subst hm
  obtain ⟨i, hi, hz⟩ := Try.zero44
  obtain ⟨i', hi', hz0, hz1, hz2⟩ := info_parts Try.info44
  obtain rfl : i' = i := by rw [hi'] at hi; exact (Option.some.inj hi)
  obtain ⟨v', w', hr, h2, h3, h4⟩ := run_append_row (P := Try.prog) (w := w) base 26 ty 44 i' (sv zeroS) 64 64 Try.underlying26 hi hz hz1 hz2 (by rw [sv_cells, List.size_toArray, bytes_len]) (by omega) v S.length (flatS S) hown A T.length c (flatS T) (flatS_len T) hT (flatS_oneCell T) (by omega) (by omega) hbase
  refine wpListIn_val (v := v') (w' := w') rfl (fun c h => by cases h) (by simp [Oper.about, resolve, Target.leads, Sem.run_pure]) ?_ (h v' w' (by rw [List.length_append, flatS_app]; exact h2) h3)
  unfold execOp
  simp only [resolve, invoke, builtin, Sem.run_bind, Sem.run_pure, Result.andThen_ok, List.map_toArray, List.map_cons, List.map_nil, hs, hx, hr]
end
end Go.Proofs.Ytpaolllkpmkgkaa
