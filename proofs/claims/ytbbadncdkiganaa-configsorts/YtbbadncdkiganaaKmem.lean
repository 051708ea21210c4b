/- Rows of elements of three cells; results that lie in a cell. -/
import Derived.Test.YtbbadncdkiganaaKleaf
namespace Go.Proofs.Ytbbadncdkiganaa
open Go.RowKit
set_option linter.unusedVariables false
set_option maxRecDepth 4000

def fl {α : Type} (enc : α → List Value) (l : List α) : List Value := l.flatMap enc
theorem fl_len {α : Type} {enc : α → List Value} (h : ∀ x, (enc x).length = 3) : ∀ l : List α, (fl enc l).length = l.length * 3
  | [] => rfl
  | x :: t => by
    have := fl_len h t
    unfold fl at this ⊢
    rw [List.flatMap_cons, List.length_append, h, this, List.length_cons]
    omega
theorem fl_get {α : Type} {enc : α → List Value} (h : ∀ x, (enc x).length = 3) : ∀ (l : List α) (i j : Nat) (x : α), l[i]? = some x → j < 3 → (fl enc l)[i * 3 + j]? = (enc x)[j]?
  | [], i, j, x, hx, _ => by simp at hx
  | y :: t, 0, j, x, hx, hj => by
    simp at hx
    subst hx
    unfold fl
    rw [List.flatMap_cons, Nat.zero_mul, Nat.zero_add, List.getElem?_append_left (by rw [h]; exact hj)]
  | y :: t, i + 1, j, x, hx, hj => by
    have := fl_get h t i j x (by simpa using hx) hj
    unfold fl at this ⊢
    rw [List.flatMap_cons, List.getElem?_append_right (by rw [h]; omega), h, show (i + 1) * 3 + j - 3 = i * 3 + j from by omega, this]
theorem fl_app {α : Type} {enc : α → List Value} (l m : List α) : fl enc (l ++ m) = fl enc l ++ fl enc m := by unfold fl; rw [List.flatMap_append]
theorem encV_len (x : VlanC) : (encV x).length = 3 := rfl
theorem encP_len (x : PortC) : (encP x).length = 3 := rfl
theorem encS_len (x : StatC) : (encS x).length = 3 := rfl
theorem fl_one {α : Type} {enc : α → List Value} (h : ∀ x, ∀ u ∈ enc x, u.oneCell' = true) (l : List α) : ∀ u ∈ fl enc l, u.oneCell' = true := by
  intro u hu
  unfold fl at hu
  obtain ⟨x, _, hx⟩ := List.mem_flatMap.1 hu
  exact h x u hx
theorem encV_one (x : VlanC) : ∀ u ∈ encV x, u.oneCell' = true := by simp [encV]; exact ⟨rfl, rfl, rfl⟩
theorem encP_one (x : PortC) : ∀ u ∈ encP x, u.oneCell' = true := by simp [encP]; exact ⟨rfl, rfl, rfl⟩
theorem encS_one (x : StatC) : ∀ u ∈ encS x, u.oneCell' = true := by simp [encS]; exact ⟨rfl, rfl, rfl⟩

/-- The i-th element of a row that lies at A. -/
theorem row_at {α : Type} {enc : α → List Value} (h : ∀ x, (enc x).length = 3) {w : World} {A : Option Addr} {l : List α} (hA : RowA w A (fl enc l)) (hl : 0 < l.length) :
    ∃ b off, A = some ⟨b, off, none⟩ ∧ ∀ (W : World), Below w.heap.size w W → ∀ i x, l[i]? = some x → ∀ j u, (enc x)[j]? = some u → W.cell? ⟨b, off + i * 3 + j, none⟩ = some u := by
  obtain ⟨b, off, ha, hc⟩ := hA (fun e => by have := fl_len h l; rw [e] at this; simp at this; omega)
  refine ⟨b, off, ha, fun W hW i x hi j u hu => ?_⟩
  have hj : j < 3 := by
    have := (List.getElem?_eq_some_iff.1 hu).1
    rw [h] at this; exact this
  have := hc (i * 3 + j) u (by rw [fl_get h l i j x hi hj]; exact hu)
  rw [Nat.add_assoc]
  exact keep_cell this hW
theorem rowV_at {w : World} {A : Option Addr} {l : List VlanC} (hA : RowA w A (fl encV l)) (hl : 0 < l.length) :
    ∃ b off, A = some ⟨b, off, none⟩ ∧ ∀ (W : World), Below w.heap.size w W → ∀ i x, l[i]? = some x → W.cell? ⟨b, off + i * 3, none⟩ = some (.int .i64 x.1) ∧ W.cell? ⟨b, off + i * 3 + 1, none⟩ = some (.int .u8 x.2.1) ∧ W.cell? ⟨b, off + i * 3 + 2, none⟩ = some (.int .u8 x.2.2) := by
  obtain ⟨b, off, ha, hc⟩ := row_at encV_len hA hl
  exact ⟨b, off, ha, fun W hW i x hi => ⟨hc W hW i x hi 0 _ rfl, hc W hW i x hi 1 _ rfl, hc W hW i x hi 2 _ rfl⟩⟩
theorem rowP_at {w : World} {A : Option Addr} {l : List PortC} (hA : RowA w A (fl encP l)) (hl : 0 < l.length) :
    ∃ b off, A = some ⟨b, off, none⟩ ∧ ∀ (W : World), Below w.heap.size w W → ∀ i x, l[i]? = some x → W.cell? ⟨b, off + i * 3, none⟩ = some (.bool x.1) ∧ W.cell? ⟨b, off + i * 3 + 1, none⟩ = some (.int .u32 x.2.1) ∧ W.cell? ⟨b, off + i * 3 + 2, none⟩ = some (.int .i64 x.2.2) := by
  obtain ⟨b, off, ha, hc⟩ := row_at encP_len hA hl
  exact ⟨b, off, ha, fun W hW i x hi => ⟨hc W hW i x hi 0 _ rfl, hc W hW i x hi 1 _ rfl, hc W hW i x hi 2 _ rfl⟩⟩
theorem rowS_at {w : World} {A : Option Addr} {l : List StatC} (hA : RowA w A (fl encS l)) (hl : 0 < l.length) :
    ∃ b off, A = some ⟨b, off, none⟩ ∧ ∀ (W : World), Below w.heap.size w W → ∀ i x, l[i]? = some x → W.cell? ⟨b, off + i * 3, none⟩ = some (.int .u64 x.1) ∧ W.cell? ⟨b, off + i * 3 + 1, none⟩ = some (.int .i64 x.2.1) ∧ W.cell? ⟨b, off + i * 3 + 2, none⟩ = some (.int .i64 x.2.2) := by
  obtain ⟨b, off, ha, hc⟩ := row_at encS_len hA hl
  exact ⟨b, off, ha, fun W hW i x hi => ⟨hc W hW i x hi 0 _ rfl, hc W hW i x hi 1 _ rfl, hc W hW i x hi 2 _ rfl⟩⟩

theorem below_sets {w0 w' : World} (h : Below w0.heap.size w0 w') (g o : Nat) (us : List Value) (hg : w0.heap.size ≤ g) : Below w0.heap.size w0 (w'.setCells g o us) := by
  obtain ⟨h1, h2, h3⟩ := os_setCells g us o w'
  exact ⟨h1.trans h.os, h2.trans h.tape, h3.trans h.output, by rw [size_setCells]; exact h.size, fun k hk => by rw [heap_setCells_other g us o w' k (by omega)]; exact h.block k hk⟩

theorem results_cell {fn : Func} {p : Tmp} {ty : TypeId} (h : fn.results = #[.cell p ty]) (tmps : Array Value) (P : Program) (w : World) :
    (results fn tmps).run P w = ((asAddr (tmps.getD p undef)).run P w).andThen fun a w₁ => (loadVar ty a).run P w₁ := by
  simp only [results, h]
  simp [Sem.run_bind, Result.andThen]

theorem heap_cell {w : World} {g : Nat} {c : Array Value} {t : TypeId} (h : w.heap[g]? = some (.cells c t (0, 0))) (i : Nat) : w.cell? ⟨g, i, none⟩ = c[i]? ∧ w.frozen? ⟨g, i, none⟩ = false := by
  refine ⟨by rw [cell_of_row w g i _ _ _ h], ?_⟩
  simp [World.frozen?, h]
theorem heap_set {w : World} {g : Nat} {c : Array Value} {t : TypeId} (h : w.heap[g]? = some (.cells c t (0, 0))) (i : Nat) (v : Value) : (w.setCell ⟨g, i, none⟩ v).heap[g]? = some (.cells (c.setIfInBounds i v) t (0, 0)) := by
  simp only [World.setCell, Array.getElem?_modify, if_true, h, Option.map_some]
  rfl
theorem heap_range {w : World} {g : Nat} {c : Array Value} {t : TypeId} (h : w.heap[g]? = some (.cells c t (0, 0))) : w.rangeAt g 0 c.toList := by
  intro j v hv
  rw [Nat.zero_add, cell_of_row w g j _ _ _ h]
  simpa using hv
theorem run_loadC {w : World} {g : Nat} {c : Array Value} {t ty : TypeId} {d : TypeDesc} (h : w.heap[g]? = some (.cells c t (0, 0))) (hu : Try.prog.underlying ty = some d) (hd : d.isRow = true) (hi : (Try.prog.info? ty).map (·.size) = some c.size) :
    (loadVar ty ⟨g, 0, none⟩).run Try.prog w = .ok (.agg c) w := by
  have := run_loadVar_mid (P := Try.prog) w g 0 ty c.toList d (heap_range h) hu hd (by rw [Array.length_toList]; exact hi)
  simpa using this
theorem ret_cell1 {fn : Func} {p : Tmp} {ty : TypeId} (hf : fn.results = #[.cell p ty]) {a : Act} {w : World} {g : Nat} {c : Array Value} {t : TypeId} {d : TypeDesc} {R : Ending → World → Prop} (hd : a.defers = []) (hp : a.tmps.getD p undef = .pointer (some ⟨g, 0, none⟩))
    (h : w.heap[g]? = some (.cells c t (0, 0))) (hu : Try.prog.underlying ty = some d) (hd' : d.isRow = true) (hi : (Try.prog.info? ty).map (·.size) = some c.size) (hR : R (.returned (.agg c)) w) : bodyPost Try.prog fn R .ret a w := by
  refine bodyPost_ret (v := .agg c) ?_ hd hR
  rw [results_cell hf, hp]
  simp only [asAddr, Sem.run_pure, Result.andThen_ok, run_loadC h hu hd' hi]
theorem ret_cell2 {fn : Func} {p u : Tmp} {ty : TypeId} (hf : fn.results = #[.cell p ty, .tmp u]) {a : Act} {w : World} {g : Nat} {c : Array Value} {t : TypeId} {d : TypeDesc} {x : Value} {R : Ending → World → Prop} (hd : a.defers = []) (hp : a.tmps.getD p undef = .pointer (some ⟨g, 0, none⟩)) (hx : a.tmps.getD u undef = x)
    (h : w.heap[g]? = some (.cells c t (0, 0))) (hu : Try.prog.underlying ty = some d) (hd' : d.isRow = true) (hi : (Try.prog.info? ty).map (·.size) = some c.size) (hR : R (.returned (.tuple #[.agg c, x])) w) : bodyPost Try.prog fn R .ret a w := by
  refine bodyPost_ret (v := .tuple #[.agg c, x]) ?_ hd hR
  rw [results_cell_tmp hf, hp, hx]
  simp only [asAddr, Sem.run_pure, Result.andThen_ok, run_loadC h hu hd' hi]
theorem results_cell3 {fn : Func} {p u u' : Tmp} {ty : TypeId} (h : fn.results = #[.cell p ty, .tmp u, .tmp u']) (tmps : Array Value) (P : Program) (w : World) :
    (results fn tmps).run P w = ((asAddr (tmps.getD p undef)).run P w).andThen fun a w₁ => ((loadVar ty a).run P w₁).andThen fun v w₂ => .ok (.tuple #[v, tmps.getD u undef, tmps.getD u' undef]) w₂ := by
  simp only [results, h]
  simp [Sem.run_bind, Result.andThen]
theorem ret_cell3 {fn : Func} {p u u' : Tmp} {ty : TypeId} (hf : fn.results = #[.cell p ty, .tmp u, .tmp u']) {a : Act} {w : World} {g : Nat} {c : Array Value} {t : TypeId} {d : TypeDesc} {x y : Value} {R : Ending → World → Prop} (hd : a.defers = []) (hp : a.tmps.getD p undef = .pointer (some ⟨g, 0, none⟩)) (hx : a.tmps.getD u undef = x) (hy : a.tmps.getD u' undef = y)
    (h : w.heap[g]? = some (.cells c t (0, 0))) (hu : Try.prog.underlying ty = some d) (hd' : d.isRow = true) (hi : (Try.prog.info? ty).map (·.size) = some c.size) (hR : R (.returned (.tuple #[.agg c, x, y])) w) : bodyPost Try.prog fn R .ret a w := by
  refine bodyPost_ret (v := .tuple #[.agg c, x, y]) ?_ hd hR
  rw [results_cell3 hf, hp, hx, hy]
  simp only [asAddr, Sem.run_pure, Result.andThen_ok, run_loadC h hu hd' hi]
/-- A configuration's three lists, where they lie. -/
def CfgA (w : World) (c : Cfg) (Ap Av As : Option Addr) : Prop := RowA w Ap (fl encP c.ports) ∧ RowA w Av (fl encV c.vlans) ∧ RowA w As (fl encS c.stats)
theorem CfgA.below {w W : World} {c : Cfg} {Ap Av As : Option Addr} (h : CfgA w c Ap Av As) (hb : Below w.heap.size w W) : CfgA W c Ap Av As := ⟨rowA_below h.1 hb, rowA_below h.2.1 hb, rowA_below h.2.2 hb⟩
/-- Numbers as their types have them; no list too long. -/
def Tyc (c : Cfg) : Prop := (∀ v ∈ c.vlans, 0 ≤ v.2.1 ∧ v.2.1 ≤ 255) ∧ c.ports.length ≤ 100 ∧ c.vlans.length ≤ 100 ∧ c.stats.length ≤ 100
end Go.Proofs.Ytbbadncdkiganaa
