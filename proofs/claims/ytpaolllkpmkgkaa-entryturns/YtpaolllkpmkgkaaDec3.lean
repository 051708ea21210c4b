/- Contracts: a record out of its bytes. -/
import Derived.Test.YtpaolllkpmkgkaaDec2
namespace Go.Proofs.Ytpaolllkpmkgkaa
open Go.RowKit
set_option linter.unusedVariables false
set_option maxRecDepth 4000

def num4 (l : List Int) : Int := l.getD 0 0 * 16777216 + l.getD 1 0 * 65536 + l.getD 2 0 * 256 + l.getD 3 0
theorem num4_lim {l : List Int} (h : Byt l) : 0 ≤ num4 l ∧ num4 l ≤ 4294967295 := by
  have h0 := h 0
  have h1 := h 1
  have h2 := h 2
  have h3 := h 3
  unfold num4; omega
theorem bys_drop {W : World} {b off : Nat} {bs : List Int} (h : BysA W (some ⟨b, off, none⟩) bs) (k : Nat) : BysA W (some ⟨b, off + k, none⟩) (bs.drop k) := by
  intro hne
  obtain ⟨b', off', e, hc⟩ := h (by rintro rfl; simp at hne)
  cases e
  refine ⟨b, off + k, rfl, fun i hi => ?_⟩
  rw [List.length_drop] at hi
  rw [List.getD_eq_getElem?_getD, List.getElem?_drop, ← List.getD_eq_getElem?_getD, Nat.add_assoc]
  exact hc (k + i) (by omega)
theorem number_drop {W : World} {b off : Nat} {bs : List Int} (h : BysA W (some ⟨b, off, none⟩) bs) (hB : Byt bs) (hl : bs.length ≤ 100000) (k : Nat) (hk : k + 4 ≤ bs.length) (n cap : Nat) (hn : n = bs.length - k) :
    Calls Try.prog 67 #[.slice (some ⟨b, off + k, none⟩) n cap] W fun e w' => e = .returned (.int .u32 (num4 (bs.drop k))) ∧ ∃ n, w' = W.drewN n :=
  number_at b (off + k) n cap (bs.drop k) W (by rw [List.length_drop]; exact hn) (bys_drop h k) (byt_drop hB k) (by omega) (by omega)

theorem heap_cell {w : World} {g : Nat} {c : Array Value} {t : TypeId} (h : w.heap[g]? = some (.cells c t (0, 0))) (i : Nat) : w.cell? ⟨g, i, none⟩ = c[i]? ∧ w.frozen? ⟨g, i, none⟩ = false := by
  refine ⟨by rw [cell_of_row w g i _ _ _ h], ?_⟩
  simp [World.frozen?, h]
theorem heap_set {w : World} {g : Nat} {c : Array Value} {t : TypeId} (h : w.heap[g]? = some (.cells c t (0, 0))) (i : Nat) (v : Value) : (w.setCell ⟨g, i, none⟩ v).heap[g]? = some (.cells (c.setIfInBounds i v) t (0, 0)) := by
  simp only [World.setCell, Array.getElem?_modify, if_true, h, Option.map_some]
  rfl
theorem heap_range {w : World} {g : Nat} {c : Array Value} {t : TypeId} (h : w.heap[g]? = some (.cells c t (0, 0))) : w.rangeAt g 0 c.toList := by
  intro j v hv
  rw [Nat.zero_add, cell_of_row w g j _ _ _ h]
  simpa using hv
theorem run_loadC {w : World} {g : Nat} {c : Array Value} {t ty : TypeId} {d : TypeDesc} (h : w.heap[g]? = some (.cells c t (0, 0))) (hu : Try.prog.underlying ty = some d) (hd : d.isRow = true) (hi : (Try.prog.info? ty).map (·.size) = some c.size) :
    (loadVar ty ⟨g, 0, none⟩).run Try.prog w = .ok (.agg c) w := by
  have := run_loadVar_mid (P := Try.prog) w g 0 ty c.toList d (heap_range h) hu hd (by rw [Array.length_toList]; exact hi)
  simpa using this
theorem ret_cell1 {fn : Func} {p : Tmp} {ty : TypeId} (hf : fn.results = #[.cell p ty]) {a : Act} {w : World} {g : Nat} {c : Array Value} {t : TypeId} {d : TypeDesc} {R : Ending → World → Prop} (hd : a.defers = []) (hp : a.tmps.getD p undef = .pointer (some ⟨g, 0, none⟩))
    (h : w.heap[g]? = some (.cells c t (0, 0))) (hu : Try.prog.underlying ty = some d) (hd' : d.isRow = true) (hi : (Try.prog.info? ty).map (·.size) = some c.size) (hR : R (.returned (.agg c)) w) : bodyPost Try.prog fn R .ret a w := by
  refine bodyPost_ret (v := .agg c) ?_ hd hR
  rw [results_cell hf, hp]
  simp only [asAddr, Sem.run_pure, Result.andThen_ok, run_loadC h hu hd' hi]
theorem ret_cell2 {fn : Func} {p u : Tmp} {ty : TypeId} (hf : fn.results = #[.cell p ty, .tmp u]) {a : Act} {w : World} {g : Nat} {c : Array Value} {t : TypeId} {d : TypeDesc} {x : Value} {R : Ending → World → Prop} (hd : a.defers = []) (hp : a.tmps.getD p undef = .pointer (some ⟨g, 0, none⟩)) (hx : a.tmps.getD u undef = x)
    (h : w.heap[g]? = some (.cells c t (0, 0))) (hu : Try.prog.underlying ty = some d) (hd' : d.isRow = true) (hi : (Try.prog.info? ty).map (·.size) = some c.size) (hR : R (.returned (.tuple #[.agg c, x])) w) : bodyPost Try.prog fn R .ret a w := by
  refine bodyPost_ret (v := .tuple #[.agg c, x]) ?_ hd hR
  rw [results_cell_tmp hf, hp, hx]
  simp only [asAddr, Sem.run_pure, Result.andThen_ok, run_loadC h hu hd' hi]
theorem results_cell3 {fn : Func} {p u u' : Tmp} {ty : TypeId} (h : fn.results = #[.cell p ty, .tmp u, .tmp u']) (tmps : Array Value) (P : Program) (w : World) :
    (results fn tmps).run P w = ((asAddr (tmps.getD p undef)).run P w).andThen fun a w₁ => ((loadVar ty a).run P w₁).andThen fun v w₂ => .ok (.tuple #[v, tmps.getD u undef, tmps.getD u' undef]) w₂ := by
  simp only [results, h]
  simp [Sem.run_bind, Result.andThen]
theorem ret_cell3 {fn : Func} {p u u' : Tmp} {ty : TypeId} (hf : fn.results = #[.cell p ty, .tmp u, .tmp u']) {a : Act} {w : World} {g : Nat} {c : Array Value} {t : TypeId} {d : TypeDesc} {x y : Value} {R : Ending → World → Prop} (hd : a.defers = []) (hp : a.tmps.getD p undef = .pointer (some ⟨g, 0, none⟩)) (hx : a.tmps.getD u undef = x) (hy : a.tmps.getD u' undef = y)
    (h : w.heap[g]? = some (.cells c t (0, 0))) (hu : Try.prog.underlying ty = some d) (hd' : d.isRow = true) (hi : (Try.prog.info? ty).map (·.size) = some c.size) (hR : R (.returned (.tuple #[.agg c, x, y])) w) : bodyPost Try.prog fn R .ret a w := by
  refine bodyPost_ret (v := .tuple #[.agg c, x, y]) ?_ hd hR
  rw [results_cell3 hf, hp, hx, hy]
  simp only [asAddr, Sem.run_pure, Result.andThen_ok, run_loadC h hu hd' hi]
theorem Try.size91 : (Try.prog.info? 91).map (·.size) = some 3 := by kernel_rfl
theorem Try.size93 : (Try.prog.info? 93).map (·.size) = some 4 := by kernel_rfl
theorem Try.size25 : (Try.prog.info? 25).map (·.size) = some 4 := by kernel_rfl

set_option maxHeartbeats 1000000 in
theorem readHead_any (b off cap : Nat) (bs : List Int) (w : World) (hb : BysA w (some ⟨b, off, none⟩) bs) (hB : Byt bs) (hl : bs.length ≤ 10000) (h9 : 9 ≤ bs.length) (hcap : bs.length ≤ cap) :
    Calls Try.prog 69 #[.slice (some ⟨b, off, none⟩) bs.length cap] w fun x w' => x = .returned (.agg #[.int .u8 (bs.getD 0 0), .int .u32 (num4 (bs.drop 1)), .int .u32 (num4 (bs.drop 5))]) ∧ Below w.heap.size w w' := by
  obtain ⟨b', off', e, hc⟩ := hb (by rintro rfl; simp at h9)
  cases e
  have hc0 := hc 0 (by omega)
  rw [Nat.add_zero] at hc0
  have hblt : b < w.heap.size := World.block_lt_of_cell? _ _ hc0
  obtain ⟨P, HP⟩ : ∃ P : Nat → Int, Hid (P = fun k => num4 (bs.drop k)) := ⟨_, rfl⟩
  have HN : Hid (∀ (W : World) (hW : Below w.heap.size w W) (k : Nat) (hk : k + 4 ≤ bs.length) (n c : Nat) (hn : n = bs.length - k), Calls Try.prog 67 #[.slice (some ⟨b, off + k, none⟩) n c] W fun e w' => e = .returned (.int .u32 (P k)) ∧ ∃ n, w' = W.drewN n) := fun W hW k hk n c hn => by
    rw [unhide HP]; exact number_drop (bysA_below hb hW) hB (by omega) k hk n c hn
  have HP1 : Hid (num4 (bs.drop 1) = P 1) := by show _ = _; rw [unhide HP]
  have HP5 : Hid (num4 (bs.drop 5) = P 5) := by show _ = _; rw [unhide HP]
  obtain ⟨x1, x2⟩ := hB 0
  generalize bs.getD 0 0 = x0 at *
  clear hc hb hB HP
  generalize bs.length = N at *
  obtain ⟨M, rfl⟩ : ∃ M, N = M + 9 := ⟨N - 9, by omega⟩
  have i0 : (0 : Int) < (M : Int) + 9 := by omega
  have i1 : (1 : Int) ≤ (M : Int) + 9 := by omega
  have i5 : (5 : Int) ≤ (M : Int) + 9 := by omega
  have ic : (M : Int) + 9 ≤ (cap : Int) := by omega
  have q1 : ¬ cap = 1 := by omega
  have q5 : ¬ cap = 5 := by omega
  clear h9 hcap hl
  go_enter Try.func69, Try.ntmps69
  go_wp2
  have hbel : Below w.heap.size w (w.alloc (.cells #[.int .u8 0, .int .u32 0, .int .u32 0] 91)) := below_alloc (Below.refl _ _) _
  have hnew : (w.alloc (.cells #[.int .u8 0, .int .u32 0, .int .u32 0] 91)).heap[w.heap.size]? = some (.cells #[.int .u8 0, .int .u32 0, .int .u32 0] 91 (0, 0)) := heap_alloc_last _ _
  generalize w.alloc (.cells #[.int .u8 0, .int .u32 0, .int .u32 0] 91) = w1 at *
  obtain ⟨bx, hbx⟩ : ∃ bx, w.heap.size = bx := ⟨_, rfl⟩
  have HBX := hide (Nat.le_of_eq hbx)
  rw [hbx] at hnew ⊢
  have n0 := (heap_cell hnew 0).1
  have n1 := (heap_cell hnew 1).1
  have n2 := (heap_cell hnew 2).1
  have f0 := (heap_cell hnew 0).2
  have f1 := (heap_cell hnew 1).2
  have f2 := (heap_cell hnew 2).2
  have hw1 : Below w.heap.size w w1 := hbel
  have hc1 : w1.cell? ⟨b, off, none⟩ = some (.int .u8 x0) := (hbel.cell (p := ⟨b, off, none⟩) hblt).trans hc0
  have HKEEP := hide (fun (W : World) (h : Below w.heap.size w W) => (⟨h, (h.cell (p := ⟨b, off, none⟩) hblt).trans hc0⟩ : Below w.heap.size w W ∧ W.cell? ⟨b, off, none⟩ = some (.int .u8 x0)))
  have HNEW := hide hnew
  clear hbx hnew hbel hc0
  go_region_held3 (fun W => Below w.heap.size w W ∧ W.cell? ⟨b, off, none⟩ = some (.int .u8 x0)) ((go_split_ands; refine unhide HKEEP _ ?_; repeat (first | assumption | (with_reducible refine Below.drew ?_) | (with_reducible refine below_drewN ?_ _) | (with_reducible refine below_set ?_ _ _ _ (unhide HBX)))))
    (first
      | (go_at_call 67; go_split_ands; refine (unhide HN _ ?_ _ ?_ _ _ ?_).mono ?_; (focus (repeat (first | assumption | (with_reducible refine Below.drew ?_) | (with_reducible refine below_drewN ?_ _)))); (focus (clear i0 i1 i5 ic q1 q5; omega)); (focus (clear i0 i1 i5 ic q1 q5; omega)); rintro x w2 ⟨rfl, n, rfl⟩))
  all_goals
    have hfin : ∀ k, (((((w1.drewN k).setCell ⟨bx, 0, none⟩ (.int .u8 x0)).setCell ⟨bx, 1, none⟩ (.int .u32 (P 1))).setCell ⟨bx, 2, none⟩ (.int .u32 (P 5))).heap[bx]? = some (.cells #[.int .u8 x0, .int .u32 (P 1), .int .u32 (P 5)] 91 (0, 0))) := fun k => heap_set (heap_set (heap_set (show (w1.drewN k).heap[bx]? = _ from unhide HNEW) 0 _) 1 _) 2 _
    have hbf : ∀ k, Below w.heap.size w ((((w1.drewN k).setCell ⟨bx, 0, none⟩ (.int .u8 x0)).setCell ⟨bx, 1, none⟩ (.int .u32 (P 1))).setCell ⟨bx, 2, none⟩ (.int .u32 (P 5))) := fun k => below_set (below_set (below_set (below_drewN hw1 k) _ _ _ (unhide HBX)) _ _ _ (unhide HBX)) _ _ _ (unhide HBX)
    clear n0 n1 n2 f0 f1 f2 hc1
    go_wp2
    exact ret_cell1 rfl rfl rfl (hfin _) Try.underlying91 rfl Try.size91 ⟨by rw [unhide HP1, unhide HP5], hbf _⟩
end Go.Proofs.Ytpaolllkpmkgkaa
