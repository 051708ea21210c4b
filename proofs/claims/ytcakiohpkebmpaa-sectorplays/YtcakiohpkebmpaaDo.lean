/- Contract: one pending write is done. -/
import Derived.Test.YtcakiohpkebmpaaNew
import Derived.Deep.RegionHeld3
namespace Go.Proofs.Ytcakiohpkebmpaa
open Go.RowKit
set_option linter.unusedVariables false

theorem Try.size65 : (Try.prog.info? 65).map (·.size) = some 65 := by kernel_rfl
theorem Try.zero65 : ∃ i, Try.prog.info? 65 = some i ∧ i.zero = some (wv (0, zeroS)) := by
  have h : (Try.prog.info? 65).map (fun i => (i.zero, i.size, i.bytes)) = some (some (.agg (.int .i64 0 :: List.replicate 64 (.int .u8 0)).toArray), 65, 72) := by kernel_rfl
  obtain ⟨i, hi, hz, _⟩ := info_parts h
  refine ⟨i, hi, hz.trans ?_⟩
  unfold wv wcells zeroS; rw [bytes_full]; rfl

theorem wv_cells (p : Nat × Sct) : (wv p).cells = (wcells p).toArray := rfl

section
variable {P : Program} {ops : Array Oper} {rest : List Oper} {a : Act} {w : World} {Q : Exit → Act → World → Prop} {dst : Option Tmp} {ty : TypeId} {pos : String} {af : Array Edge}

theorem wpList_loadW (t : TypeId) (d : TypeDesc) (hu : P.underlying t = some d) (hd : d.isRow = true) (hi : (P.info? t).map (·.size) = some 65) (x : Operand) (b o : Nat) (p : Nat × Sct) (hx : a.eval x = .pointer (some ⟨b, o, none⟩)) (hc : w.rangeAt b o (wcells p))
    (h : wpList P ops Q rest (a.put dst (wv p)) w) : wpList P ops Q (⟨dst, .load t x, ty, pos, af, none⟩ :: rest) a w :=
  wpList_load_mid rfl t x rfl b o hx (wcells p) _ hc hu hd (by rw [wcells_len]; exact hi) h

theorem wpList_storeW (t : TypeId) (hi : (P.info? t).map (·.size) = some 65) (x y : Operand) (b o : Nat) (p : Nat × Sct) (hx : a.eval x = .pointer (some ⟨b, o, none⟩)) (hy : a.eval y = wv p) (ht : w.there b o 65)
    (h : ∀ w1, Hid (w1 = w.setCells b o (wcells p)) → wpList P ops Q rest (a.put dst undef) w1) : wpList P ops Q (⟨dst, .store t x y, ty, pos, af, none⟩ :: rest) a w := by
  have hz : (wcells p).toArray.size = 65 := by rw [List.size_toArray, wcells_len]
  exact wpList_store_mid rfl t x y rfl b o (wcells p).toArray hx hy (by rw [hz]; exact ht) (by rw [hz]; exact hi) (all_oneCell_toArray (wcells_one p)) (h _ rfl)
end

theorem row_new {w1 : World} {t : TypeId} {g : Nat} {p : Nat × Sct} (h : w1.heap[g]? = some (.cells (wv p).cells t (0, 0))) : Row w1 t g 65 := ⟨_, h, by rw [wv_cells, List.size_toArray, wcells_len]⟩

/-- A new variable of a write, with its first store. -/
theorem wvar_put {w2 w3 w4 : World} {p q : Nat × Sct} {e : TypeId} (hb3 : Below w2.heap.size w2 w3) (hs3 : w3.heap.size = w2.heap.size + 1) (hg3 : w3.heap[w2.heap.size]? = some (Obj.cells (wv p).cells e)) (H4 : Hid (w4 = w3.setCells w2.heap.size 0 (wcells q))) :
    Below w2.heap.size w2 w4 ∧ w4.heap.size = w2.heap.size + 1 ∧ w4.rangeAt w2.heap.size 0 (wcells q) := by
  rw [unhide H4]
  exact ⟨below_sets hb3 _ _ _ (Nat.le_refl _), by rw [size_setCells, hs3], World.rangeAt_setCells_same _ _ _ _ ((row_new hg3).there _ _ (by rw [wcells_len]; omega))⟩

theorem results_none {fn : Func} (h : fn.results = #[]) (tmps : Array Value) (P : Program) (w : World) : (results fn tmps).run P w = .ok (.tuple #[]) w := by
  simp [results, h]

set_option maxHeartbeats 400000 in
theorem do_any {base g gs : Nat} {S : List Sct} {P : List (Nat × Sct)} (w : World) (h : Dsk 62 65 w base g gs S P) (k : Nat) (p : Nat × Sct) (hk : P[k]? = some p) :
    Calls Try.prog 27 #[.pointer (some ⟨g, 0, none⟩), .int .i64 k] w fun e w' => e = .returned (.tuple #[]) ∧ Dsk 62 65 w' base g gs (S.set p.1 p.2) P ∧ Turned 65 base g gs w w' := by
  obtain ⟨i65, hi65, hz65⟩ := Try.zero65
  obtain ⟨pv, A, cap, rfl, h0, h1, hP⟩ := dsk_cells h
  obtain ⟨gp, cap', hpv, hgp, hcap, hcur, hr⟩ := own_at hP hk
  obtain ⟨rfl, rfl⟩ : A = some ⟨gp, 0, none⟩ ∧ cap = cap' := by simpa using hpv
  have hkl : k < P.length := (List.getElem?_eq_some_iff.1 hk).1
  have hkl' : (k : Int) < (P.length : Int) := by omega
  have HD := hide h
  have HK := hide hk
  have HP := hide hP
  clear hpv hk h hP hcur
  go_enter Try.func27, Try.ntmps27
  go_wp2_with (first
    | ((with_reducible refine wpList_loadW 65 _ Try.underlying65 rfl Try.size65 _ gp (k * 65) p ?_ hr ?_); (focus rfl))
    | (with_reducible refine wpList_allocT 65 i65 (wv (0, zeroS)) hi65 hz65 ?_; intro w3 hb3 hs3 hg3)
    | ((with_reducible refine wpList_storeW 65 Try.size65 _ _ w.heap.size 0 p ?_ ?_ ((row_new hg3).there _ _ (by omega)) ?_); (focus rfl); (focus rfl); intro w4 H4))
  obtain ⟨hb4, hs4, hr4⟩ := wvar_put hb3 hs3 hg3 H4
  clear hb3 hs3 hg3 H4
  have hD4 := (unhide HD).below hb4
  have hglt : g < w.heap.size := (unhide HD).lt.1
  have hgslt : gs < w.heap.size := (unhide HD).lt.2.1
  have c0 : w4.cell? ⟨g, 0, none⟩ = some (.slice (some ⟨gs, 0, none⟩) S.length S.length) := (hb4.cell (p := ⟨g, 0, none⟩) hglt).trans h0
  have ci := range_head hr4
  have rs := range_tail hr4
  have hpi : p.1 < S.length := by
    obtain ⟨_, _, _, _, _, _, hin, _⟩ := unhide HD
    exact hin p (List.mem_of_getElem? (unhide HK))
  have hpi' : (p.1 : Int) < (S.length : Int) := by omega
  have th : w4.there gs (p.1 * 64) 64 := by
    obtain ⟨_, _, _, _, hS, _⟩ := hD4
    exact hS.there hpi
  have HD4 := hide hD4
  have HR4 := hide hr4
  have hu36 := Try.underlying36
  have hz36 : (Try.prog.info? 36).map (·.size) = some (bytes p.2).length := by rw [bytes_len]; exact Try.size36
  have hl36 := bytes_len p.2
  have ho36 := bytes_one p.2
  clear hD4 hr4 hr h0 h1
  rw [Nat.zero_add] at rs
  have hgne : g ≠ gs := (unhide HD).ne (by decide)
  have hwne : w.heap.size ≠ gs := by omega
  go_region_held3 (fun W => W.cell? ⟨g, 0, none⟩ = some (.slice (some ⟨gs, 0, none⟩) S.length S.length) ∧ W.cell? ⟨w.heap.size, 0, none⟩ = some (.int .i64 p.1) ∧ W.rangeAt w.heap.size 1 (bytes p.2) ∧ W.there gs (p.1 * 64) 64)
    ((go_split_ands; (refine ⟨?_, ?_, ?_, ?_⟩) <;> first | assumption | (rw [cell_sets_other _ _ _ _ _ _ hgne]; assumption) | (rw [cell_sets_other _ _ _ _ _ _ hwne]; assumption) | (refine World.there_setCells ?_ _ _ _; assumption) | (refine World.rangeAt_setCells_apart ?_ _ _ _ (.inl hwne); assumption))) (fail)
  all_goals
    go_wp2
    obtain ⟨d1, d2⟩ := Dsk.did (unhide HD4).drew (by decide) (by decide) hpi p.2
    exact bodyPost_end (results_none rfl _ _ _) rfl ⟨rfl, d1, (Turned.of_below hb4).drew.trans d2⟩
end Go.Proofs.Ytcakiohpkebmpaa
