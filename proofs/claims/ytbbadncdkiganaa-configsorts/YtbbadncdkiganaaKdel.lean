/- slices.Insert of one VLAN, whole; slices.Delete of one. -/
import Derived.Test.YtbbadncdkiganaaKins
namespace Go.Proofs.Ytbbadncdkiganaa
open Go.RowKit
set_option linter.unusedVariables false
set_option maxRecDepth 4000

theorem take_full {cur xs : List Value} {n : Nat} (h : cur.take n = xs) (hl : n ≤ cur.length) : xs.length = n := by rw [← h, List.length_take]; omega
theorem insV_any (base : Nat) (vs : List VlanC) (v : Value) (i : Nat) (x : VlanC) (N : Nat) (w : World) (hl : vs.length ≤ 100) (hi : i ≤ vs.length) (ho : w.ownsRow base 46 3 v vs.length (fl encV vs)) (hb : base ≤ w.heap.size) (hN : w.heap[N]? = some (.cells (encV x).toArray 46 (0, 0))) (hv : v.ownBlock ≠ some N) :
    Calls Try.prog 66 #[v, .int .i64 i, .slice (some ⟨N, 0, none⟩) 1 1] w fun e w' => ∃ v', e = .returned v' ∧ w'.ownsRow base 46 3 v' (vs.length + 1) (fl encV (insL i x vs)) ∧ w.grownBy w' v.ownBlock := by
  have hx : RowA w (some ⟨N, 0, none⟩) (encV x) := fun _ => ⟨N, 0, rfl, fun j u hj => by rw [Nat.zero_add, (heap_cell hN j).1]; simpa using hj⟩
  rcases Nat.lt_or_ge i vs.length with h | h
  · obtain ⟨g, cap, cur, rfl, hbg, hnc, hcm, hC, htk⟩ := own_open ho (by omega)
    have hne : N ≠ g := by rintro rfl; exact hv rfl
    rcases Nat.lt_or_ge cap (vs.length + 1) with h2 | h2
    · refine (insV_grow g cap i cur vs x N w hl h h2 hnc hC htk hN).mono ?_
      rintro e w' ⟨g2, cap2, rfl, k1, k2, k3, ⟨cur', k4, k5⟩, k6⟩
      exact ⟨_, rfl, own_shut k4 (by omega) k2 k3 k5, ⟨k6.os, k6.tape, k6.output, k6.size, fun k hk _ => k6.block k hk (by simp)⟩⟩
    · refine (insV_shift g cap i cur vs x N w hl h h2 hcm hC htk hne hN).mono ?_
      rintro e w' ⟨rfl, ⟨cur', k4, k5⟩, k6⟩
      exact ⟨_, rfl, own_shut k4 hbg h2 hcm k5, k6⟩
  · obtain rfl : i = vs.length := by omega
    have hfl := fl_len encV_len vs
    rw [fl_ins encV_len, List.take_of_length_le (by omega), List.drop_eq_nil_of_le (by omega), List.append_nil]
    exact insV_end base vs v x N w hl ho hb hx

theorem splice_cons (cur : List Value) (o : Nat) (u : Value) (r : List Value) (h : o + (r.length + 1) ≤ cur.length) : splice (cur.set o u) (o + 1) r = splice cur o (u :: r) := by
  have := list_seg_step cur o u r h
  unfold splice
  rw [← List.append_assoc, this, List.append_assoc]
  rfl
theorem heap_setCells (g : Nat) (t : TypeId) : ∀ (vs : List Value) (o : Nat) (cur : List Value) (w : World), w.heap[g]? = some (.cells cur.toArray t (0, 0)) → o + vs.length ≤ cur.length → (w.setCells g o vs).heap[g]? = some (.cells (splice cur o vs).toArray t (0, 0))
  | [], o, cur, w, h, _ => by simpa [splice, World.setCells] using h
  | u :: r, o, cur, w, h, hl => by
    rw [World.setCells, ← splice_cons cur o u r (by simpa using hl)]
    refine heap_setCells g t r (o + 1) (cur.set o u) _ ?_ (by simp at hl ⊢; omega)
    have := heap_set h o u
    simpa using this
theorem grown_setCells (w : World) (g o : Nat) (vs : List Value) : w.grownBy (w.setCells g o vs) (some g) := by
  obtain ⟨h1, h2, h3⟩ := os_setCells g vs o w
  exact ⟨h1, h2, h3, by rw [size_setCells]; exact Nat.le_refl _, fun k hk hr => heap_setCells_other g vs o w k (by intro e; subst e; exact hr rfl)⟩

/-- append where there is room, out of the same row or another. -/
theorem step_append3 {P : Program} {ops : Array Oper} {o : Oper} {a : Act} {w : World} {K : Act → World → Prop} {Q : Exit → Act → World → Prop} {E : Prop}
    (hg : o.guard = none) (s x : Operand) (t : TypeId) (hop : o.op = Op.call { callee := Callee.builtin Builtin.append, args := #[s, x], argTypes := #[t, t] })
    (e : TypeId) (i : TypeInfo) (h1 : P.underlying t = some (.slice e)) (h2 : P.info? e = some i) (h4 : i.size = 3)
    (b n cap : Nat) (cur : List Value) (hs : a.eval s = .slice (some ⟨b, 0, none⟩) n cap) (hC : Cur w e b cap cur)
    (ad : Addr) (m c : Nat) (news : List Value) (hx : a.eval x = .slice (some ad) m c) (hn : news.length = m * 3) (hc : ∀ j u, news[j]? = some u → w.cell? (ad.add j) = some u) (h1c : ∀ u ∈ news, u.oneCell' = true)
    (hroom : n + m ≤ cap)
    (hK : ∀ w', Hid (Cur w' e b cap (splice cur (n * 3) news)) → Hid (w.grownBy w' (some b)) → K (a.put o.dst (.slice (some ⟨b, 0, none⟩) (n + m) cap)) w') :
    if Region.wanted o (yielded ops a.tmps) = true then Oper.wp P o a w K Q else E := by
  have hfit : n * 3 + news.length ≤ cur.length := by
    rw [hn, hC.len, ← Nat.add_mul]
    exact Nat.mul_le_mul_right _ hroom
  refine step_append_room hg s x t hop e i 3 h1 h2 h4 b 0 n cap hs ad m c news hx hn hc h1c hroom (fun j hj => ?_) ?_
  · rw [Nat.zero_add]
    exact ⟨by rw [hC.cell, List.getElem?_eq_getElem (by omega)]; rfl, hC.frozen _⟩
  · rw [Nat.zero_add]
    exact hK _ ⟨heap_setCells b e news (n * 3) cur w hC.heap hfit, (length_splice _ _ _ hfit).trans hC.len⟩ (grown_setCells _ _ _ _)
theorem run_clear3 {P : Program} (w : World) (t ty e : TypeId) (i : TypeInfo) (z : Value) (g o c cap : Nat) (cur zs : List Value) (hu : P.underlying t = some (.slice e)) (hi : P.info? e = some i) (hz : i.zero = some z) (hzs : (Builtin.zeroCells z.cells 1).toList = zs) (h1 : ∀ u ∈ zs, u.oneCell' = true)
    (hC : Cur w e g cap cur) (hfit : o + zs.length ≤ cur.length) :
    (Builtin.clear_ #[t] ty #[.slice (some ⟨g, o, none⟩) 1 c]).run P w = .ok (.tuple #[]) (w.setRow g (splice cur o zs).toArray) := by
  have hst := run_storeCells_at P g o e zs 0 cur.toArray w hC.heap (by simpa using hfit) h1
  simp [Builtin.clear_, run_underlying hu, zeroValue, typeInfo, hi, hz, hzs, hst, splice]
theorem wpList_clear3 {P : Program} {w : World} {ops : Array Oper} {rest : List Oper} {op : Oper} {a : Act} {Q : Exit → Act → World → Prop} (hgd : op.guard = none) (s : Operand) (t : TypeId)
    (ho : op.op = .call { callee := .builtin .clear, args := #[s], argTypes := #[t] }) (e : TypeId) (i : TypeInfo) (z : Value) (g o c cap : Nat) (cur zs : List Value) (hu : P.underlying t = some (.slice e)) (hi : P.info? e = some i) (hz : i.zero = some z) (hzs : (Builtin.zeroCells z.cells 1).toList = zs) (h1 : ∀ u ∈ zs, u.oneCell' = true)
    (hs : a.eval s = .slice (some ⟨g, o, none⟩) 1 c) (hC : Cur w e g cap cur) (hfit : o + zs.length ≤ cur.length)
    (h : ∀ w', Hid (Cur w' e g cap (splice cur o zs)) → Hid (w.grownBy w' (some g)) → wpList P ops Q rest (a.put op.dst (.tuple #[])) w') : wpList P ops Q (op :: rest) a w := by
  refine wpList_plain hgd fun K hK => ?_
  have hrun := run_clear3 (P := P) w t op.type e i z g o c cap cur zs hu hi hz hzs h1 hC hfit
  obtain ⟨k1, k2⟩ := copy_world hC.heap o zs
  unfold Oper.wp
  simp [execOp, ho, resolve, invoke, builtin, hs, hrun, Result.andThen]
  exact hK _ _ (h _ ⟨k1, (length_splice _ _ _ hfit).trans hC.len⟩ k2)
/-- What stands behind a deletion. -/
theorem shift_back {cur xs zs : List Value} {i n : Nat} (hc : n * 3 ≤ cur.length) (hi : i < n) (hx : cur.take (n * 3) = xs) (hz : zs.length = 3) :
    (splice (splice cur (i * 3) (xs.drop ((i + 1) * 3))) ((n - 1) * 3) zs).take ((n - 1) * 3) = xs.take (i * 3) ++ xs.drop ((i + 1) * 3) := by
  have hxl : xs.length = n * 3 := by rw [← hx, List.length_take]; omega
  have hd : (xs.drop ((i + 1) * 3)).length = (n - 1 - i) * 3 := by rw [List.length_drop, hxl]; omega
  have h1 : splice cur (i * 3) (xs.drop ((i + 1) * 3)) = (cur.take (i * 3) ++ xs.drop ((i + 1) * 3)) ++ cur.drop ((n - 1) * 3) := by
    unfold splice
    rw [hd, List.append_assoc, show i * 3 + (n - 1 - i) * 3 = (n - 1) * 3 from by omega]
  have h2 : (cur.take (i * 3) ++ xs.drop ((i + 1) * 3)).length = (n - 1) * 3 := by rw [List.length_append, hd, List.length_take]; omega
  rw [h1]
  unfold splice
  rw [List.take_left' h2, List.take_left' h2]
  congr 1
  rw [← hx, List.take_take]
  congr 1
  omega
end Go.Proofs.Ytbbadncdkiganaa
