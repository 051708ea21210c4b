/- Small ones: append inside a region that draws, rows, strings of rows. -/
import Derived.Test.YthonngnmdciheaaOf
import Derived.Deep.RegionLaw
namespace Go.Proofs.Ythonngnmdciheaa
open Go.RowKit
set_option linter.unusedVariables false
def str (xs : List Nat) : ByteArray := ⟨(xs.map UInt8.ofNat).toArray⟩
theorem step_append_row {P : Program} {ops : Array Oper} {w : World} {o : Oper} {a : Act} {K : Act → World → Prop} {Q : Exit → Act → World → Prop} {E : Prop} (hg : o.guard = none) (s x : Operand) (t : TypeId)
    (ho : o.op = .call { callee := .builtin .append, args := #[s, x], argTypes := #[t, t] })
    (base : Nat) (e : TypeId) (i : TypeInfo) (z : Value) (size bytes : Nat) (ht : P.underlying t = some (.slice e)) (hi : P.info? e = some i) (hz : i.zero = some z)
    (hsize : i.size = size) (hby : i.bytes = bytes) (hzs : z.cells.size = size) (hsz : 0 < size) (hb1 : 0 < bytes)
    (v : Value) (n : Nat) (xs : List Value) (hs : a.eval s = v) (hown : w.ownsRow base e size v n xs)
    (A : Option Addr) (m c : Nat) (vs : List Value) (hx : a.eval x = .slice A m c) (hl : vs.length = m * size) (hR : RowA w A vs) (h1 : ∀ u ∈ vs, u.oneCell' = true)
    (hbytes : (n + m) * bytes ≤ 140737488355328) (hbase : base ≤ w.heap.size)
    (h : ∀ v' w', w'.ownsRow base e size v' (n + m) (xs ++ vs) → w.grownBy w' v.ownBlock → (v'.ownBlock = v.ownBlock ∨ v'.ownBlock = some w.heap.size) → K (a.put o.dst v') w') :
    if Region.wanted o (yielded ops a.tmps) = true then o.wp P a w K Q else E := by
  have hw : Region.wanted o (yielded ops a.tmps) = true := by simp [Region.wanted, hg]
  rw [if_pos hw]
  exact wp_append_row s x t ho base e i z size bytes ht hi hz hsize hby hzs hsz hb1 v n xs hs hown A m c vs hx hl hR h1 hbytes hbase h
theorem i5 : ∃ i, Try.prog.info? 5 = some i ∧ i.zero = some (.int .u8 0) ∧ i.size = 1 ∧ i.bytes = 1 := by
  have h : (Try.prog.info? 5).map (fun i => (i.zero, i.size, i.bytes)) = some (some (.int .u8 0), 1, 1) := by kernel_rfl
  obtain ⟨i, hi, h2⟩ := Option.map_eq_some_iff.1 h
  simp only [Prod.mk.injEq] at h2
  exact ⟨i, hi, h2.1, h2.2.1, h2.2.2⟩
theorem own_mono {w : World} {base base' : Nat} {e : TypeId} {size : Nat} {v : Value} {n : Nat} {xs : List Value} (h : w.ownsRow base e size v n xs) (hb : base' ≤ base) : w.ownsRow base' e size v n xs := by
  obtain ⟨hl, h2⟩ := h
  refine ⟨hl, ?_⟩
  rcases h2 with h0 | ⟨g, cap, cur, hv, hbg, r⟩
  · exact .inl h0
  · exact .inr ⟨g, cap, cur, hv, by omega, r⟩
theorem own_below {w W : World} {base : Nat} {e : TypeId} {size : Nat} {v : Value} {n : Nat} {xs : List Value} (h : w.ownsRow base e size v n xs) (hb : Below w.heap.size w W) : W.ownsRow base e size v n xs := by
  obtain ⟨hl, h2⟩ := h
  refine ⟨hl, ?_⟩
  rcases h2 with h0 | ⟨g, cap, cur, hv, hbg, hg, r⟩
  · exact .inl h0
  · have hlt : g < w.heap.size := by
      rcases Nat.lt_or_ge g w.heap.size with h | h
      · exact h
      · rw [Array.getElem?_eq_none h] at hg; cases hg
    exact .inr ⟨g, cap, cur, hv, hbg, by rw [hb.block g hlt]; exact hg, r⟩
theorem below_base {w w0 w' : World} {r : Option Nat} (hb : Below w0.heap.size w0 w) (h : w.grownBy w' r) (hr : ∀ k, r = some k → w0.heap.size ≤ k) : Below w0.heap.size w0 w' :=
  hb.grown h hb.size hr
theorem rowA_drew {w : World} {A : Option Addr} {vs : List Value} (h : RowA w A vs) : RowA w.drew A vs := h
theorem two_row (w : World) (o : Obj) {u v : Value} (h : o = .cells #[u, v] 5) : RowA (w.alloc o) (some ⟨w.heap.size, 0, none⟩) [u, v] := by
  intro _
  refine ⟨_, _, rfl, fun j x hj => ?_⟩
  subst h
  have : j = 0 ∨ j = 1 := by
    have := List.getElem?_eq_some_iff.1 hj
    obtain ⟨h1, _⟩ := this
    simp at h1; omega
  rcases this with rfl | rfl <;> simp at hj <;> subst hj <;> simp [World.cell?_alloc_at]
theorem one_row (w : World) (o : Obj) {u : Value} (h : o = .cells #[u] 5) : RowA (w.alloc o) (some ⟨w.heap.size, 0, none⟩) [u] := by
  intro _
  refine ⟨_, _, rfl, fun j v hj => ?_⟩
  have : j = 0 := by rcases j with _ | j; rfl; simp at hj
  subst this
  subst h
  simp at hj
  subst hj
  simp [World.cell?_alloc_at]
theorem own_to {w : World} {base : Nat} {e : TypeId} {size : Nat} {v : Value} {n m : Nat} {xs ys : List Value} (h : w.ownsRow base e size v n xs) (hn : n = m) (hx : xs = ys) : w.ownsRow base e size v m ys := by subst hn; subst hx; exact h
theorem u8s_app (xs ys : List Nat) : u8s (xs ++ ys) = u8s xs ++ u8s ys := List.map_append
theorem str_nums (xs : List Nat) : strOfNums (xs.map fun (x : Nat) => (x : Int)) = str xs := by unfold strOfNums str; rw [List.map_map]; rfl
/-- A row of bytes, as a string. -/
theorem conv_row {w : World} {A : Option Addr} {xs : List Nat} (h : RowA w A (u8s xs)) (c : Nat) : (convert 23 9 (.slice A xs.length c)).run Try.prog w = .ok (.string (str xs)) w := by
  by_cases hx : xs = []
  · subst hx
    cases A with
    | none => exact run_convert_bytes_nil w 23 5 Try.underlying23 Try.underlying5 0 c 9 Try.underlying9
    | some a =>
      rw [run_convert_bytes_string w 23 9 5 _ _ c Try.underlying23 Try.underlying5 Try.underlying9, run_bytesToString w a _ c [] (by simpa using run_loadCells_list (P := Try.prog) w a [] (by simp))]
      rfl
  · obtain ⟨b, off, rfl, hc⟩ := h (by intro e; exact hx (List.map_eq_nil_iff.1 e))
    have := run_convert_bytes_arg (P := Try.prog) w 23 5 Try.underlying23 Try.underlying5 b off xs.length c (xs.map fun (x : Nat) => (x : Int)) (by simp) (fun i hi => by
      rw [hc i _ (u8s_get xs i hi)]; simp [List.getD, List.getElem?_eq_getElem hi]) 9 Try.underlying9
    rw [this, str_nums]
theorem own_row1 {w : World} {base : Nat} {v : Value} {n : Nat} {xs : List Value} (h : w.ownsRow base 5 1 v n xs) : ∃ A cap, v = .slice A n cap ∧ RowA w A xs := by
  rcases h.2 with ⟨rfl, rfl⟩ | ⟨g, cap, cur, rfl, hb, hg, hnc, hcm, hcs, htk⟩
  · refine ⟨none, 0, rfl, ?_⟩
    have := h.1
    rw [Nat.zero_mul] at this
    rw [List.length_eq_zero_iff.1 this]
    exact rowA_nil _ _
  · exact ⟨_, cap, rfl, Blk.row (e := 5) (cap := cap) ⟨cur, hg, by omega, by rw [h.1]; exact htk⟩⟩
theorem heap_alloc_new (w : World) (o : Obj) : (w.alloc o).heap[w.heap.size]? = some o := by show (w.heap.push o)[w.heap.size]? = some o; simp
theorem heap_cell {w : World} {g : Nat} {c : Array Value} {t : TypeId} (h : w.heap[g]? = some (.cells c t (0, 0))) (i : Nat) : w.cell? ⟨g, i, none⟩ = c[i]? ∧ w.frozen? ⟨g, i, none⟩ = false := by
  refine ⟨by rw [cell_of_row w g i _ _ _ h], ?_⟩
  simp [World.frozen?, h]
theorem lt_of_get {w : World} {g : Nat} {o : Obj} (h : w.heap[g]? = some o) : g < w.heap.size := by
  rcases Nat.lt_or_ge g w.heap.size with h1 | h1
  · exact h1
  · rw [Array.getElem?_eq_none h1] at h; cases h
theorem heap_keep {w W : World} {g : Nat} {o : Obj} (h : w.heap[g]? = some o) (hb : Below w.heap.size w W) : W.heap[g]? = some o := (hb.block g (lt_of_get h)).trans h
theorem heap_old (w : World) (o o' : Obj) (g : Nat) (h : w.heap[g]? = some o) : (w.alloc o').heap[g]? = some o := heap_keep h (below_alloc (Below.refl _ _) _)
def sixL (n : Nat) : List Nat := [byN n 0, byN n 1, byN n 2, byN n 3, byN n 4, byN n 5]
theorem row6 {n : Nat} {W : World} {g : Nat} {t : TypeId} (h : W.heap[g]? = some (.cells (lay n 6) t (0, 0))) : RowA W (some ⟨g, 0, none⟩) (u8s (sixL n)) := by
  intro _
  refine ⟨_, _, rfl, fun j u hj => ?_⟩
  rw [Nat.zero_add, (heap_cell h j).1, ← hj]
  exact Array.getElem?_toList.symm
theorem own_lit0 (w : World) : (w.alloc (.cells #[] 5)).ownsRow w.heap.size 5 1 (.slice (some ⟨w.heap.size, 0, none⟩) 0 0) 0 [] :=
  ⟨rfl, .inr ⟨_, 0, #[], rfl, Nat.le_refl _, heap_alloc_new _ _, Nat.le_refl _, Nat.zero_le _, rfl, rfl⟩⟩
end Go.Proofs.Ythonngnmdciheaa