/- JournalTorn: its last region's laws. -/
import Derived.Test.YtfceileohkngnaaJown
namespace Go.Proofs.Ytfceileohkngnaa
open Go.RowKit Go.Deep Go.WideShapes
set_option linter.unusedVariables false
set_option maxRecDepth 4000

theorem headsA_mk {w : World} : ∀ {hs : List Value} {ps : List (List Int)}, hs.length = ps.length → (∀ i, i < ps.length → ∃ a cap, hs[i]? = some (.slice a (ps.getD i []).length cap) ∧ BysA w a (ps.getD i [])) → HeadsA w hs ps
  | [], [], _, _ => trivial
  | [], _ :: _, h, _ => by simp at h
  | _ :: _, [], h, _ => by simp at h
  | h :: hs, p :: ps, hl, hk => by
    obtain ⟨a, cap, e, hb⟩ := hk 0 (by simp)
    simp only [List.getElem?_cons_zero, Option.some.injEq, List.getD_cons_zero] at e hb
    refine ⟨⟨a, cap, e, hb⟩, headsA_mk (by simpa using hl) (fun i hi => ?_)⟩
    have := hk (i + 1) (by simpa using hi)
    simpa using this
/-- The headers of rows of bytes. -/
theorem parts_hs {w : World} {A : Option Addr} {ps : List (List Int)} (h : PartsA w A ps) : ∃ hs, hs.length = ps.length ∧ RowA w A hs ∧ HeadsA w hs ps ∧ ∀ u ∈ hs, u.oneCell' = true := by
  by_cases hne : ps = []
  · subst hne
    exact ⟨[], rfl, fun h => absurd rfl h, trivial, fun u hu => by cases hu⟩
  · obtain ⟨b, off, rfl, hc⟩ := h hne
    have inh : Inhabited Value := ⟨.bool false⟩
    obtain ⟨V, hV⟩ := choose_lt (α := Value) (n := ps.length) (p := fun i v => ∃ a' cap', v = .slice a' (ps.getD i []).length cap' ∧ w.cell? ⟨b, off + i, none⟩ = some v ∧ BysA w a' (ps.getD i [])) (fun i hi => by
      obtain ⟨a', cap', h1, h2⟩ := hc i hi
      exact ⟨_, a', cap', rfl, h1, h2⟩)
    refine ⟨(List.range ps.length).map V, by simp, fun _ => ⟨b, off, rfl, fun i u hu => ?_⟩, headsA_mk (by simp) (fun i hi => ?_), fun u hu => ?_⟩
    · rw [List.getElem?_map] at hu
      obtain ⟨k, hk, rfl⟩ := Option.map_eq_some_iff.1 hu
      obtain ⟨hi, rfl⟩ := List.getElem?_eq_some_iff.1 hk
      rw [List.getElem_range]
      obtain ⟨_, _, _, h1, _⟩ := hV i (by simpa using hi)
      exact h1
    · obtain ⟨a', cap', h1, h2, h3⟩ := hV i hi
      exact ⟨a', cap', by rw [List.getElem?_map, List.getElem?_range hi]; exact congrArg some h1, h3⟩
    · obtain ⟨i, hi, rfl⟩ := List.mem_map.1 hu
      obtain ⟨a', cap', h1, _⟩ := hV i (List.mem_range.1 hi)
      rw [h1]; rfl
/-- New rows, from lo on and below hi. -/
def LsG (lo hi : Nat) (w : World) (A : Option Addr) (L : List (List Int)) : Prop := ∃ hs, (hs = [] ∨ ∃ gA cA, A = some ⟨gA, 0, none⟩ ∧ (lo ≤ gA ∧ gA < hi) ∧ Blk w 23 gA cA hs) ∧ HeadsB w hs L
theorem LsF.g {lo : Nat} {w : World} {A : Option Addr} {L : List (List Int)} (h : LsF lo w A L) : LsG lo w.heap.size w A L := by
  obtain ⟨hs, k, r⟩ := h
  exact ⟨hs, k.imp id (fun ⟨g, c, e, l, hb⟩ => ⟨g, c, e, ⟨l, hb.lt⟩, hb⟩), r⟩
theorem LsG.parts {lo hi : Nat} {w : World} {A : Option Addr} {L : List (List Int)} (h : LsG lo hi w A L) : PartsA w A L := by
  obtain ⟨hs, k, r⟩ := h
  exact LsA.parts ⟨hs, k.imp id (fun ⟨g, c, e, _, hb⟩ => ⟨g, c, e, hb⟩), r⟩
theorem LsG.below {lo hi : Nat} {w w' : World} {A : Option Addr} {L : List (List Int)} (h : LsG lo hi w A L) (hb : Below w.heap.size w w') : LsG lo hi w' A L := by
  obtain ⟨hs, k, r⟩ := h
  exact ⟨hs, k.imp id (fun ⟨g, c, e, l, hk⟩ => ⟨g, c, e, l, hk.below hb⟩), headsB_mono (fun g c vs k => k.below hb) r⟩
/-- A row that grows leaves what is new beside it. -/
theorem LsG.grown {lo hi : Nat} {w w' : World} {A : Option Addr} {L : List (List Int)} (h : LsG lo hi w A L) {base n : Nat} {v : Value} {xs : List Value} (ho : w.ownsRow base 23 1 v n xs) (hg : w.grownBy w' v.ownBlock) (hk : ∀ k, v.ownBlock = some k → k < lo ∨ hi ≤ k) : LsG lo hi w' A L := by
  obtain ⟨hs, k, r⟩ := h
  refine ⟨hs, ?_, headsB_mono (blk_grown ho hg) r⟩
  rcases k with k | ⟨g, c, e, l, hb⟩
  · exact .inl k
  · refine .inr ⟨g, c, e, l, ?_⟩
    have hlt := hb.lt
    obtain ⟨cur, hc, r⟩ := hb
    refine ⟨cur, ?_, r⟩
    rw [hg.block g hlt, hc]
    intro e2
    have h2 := hk g e2.symm
    omega
theorem own_litH (X : World) {base : Nat} (hb : base ≤ X.heap.size) : (X.alloc (.cells #[] 23)).ownsRow base 23 1 (.slice (some ⟨X.heap.size, 0, none⟩) 0 0) 0 [] :=
  ⟨rfl, .inr ⟨_, 0, #[], rfl, hb, heap_alloc_last _ _, Nat.le_refl _, by decide, rfl, rfl⟩⟩
theorem step_call2 {P : Program} {ops : Array Oper} {w : World} {o : Oper} {a : Act} {K : Act → World → Prop} {Q : Exit → Act → World → Prop} {E : Prop} (hg : o.guard = none) (f : FuncId) (x y : Operand) (t u : TypeId)
    (ho : o.op = .call { callee := .value (.func f), args := #[x, y], argTypes := #[t, u] }) (hf : ∀ W : World, (execOp a.eval o).run P W = .ok (.enter f #[a.eval x, a.eval y]) W) (R : Value → World → Prop) (hc : Calls P f #[a.eval x, a.eval y] w fun e w' => ∃ v, e = .returned v ∧ R v w')
    (h : ∀ v w', R v w' → K (a.put o.dst v) w') : if Region.wanted o (yielded ops a.tmps) = true then o.wp P a w K Q else E := by
  rw [if_pos (by simp [Region.wanted, hg])]
  unfold Oper.wp
  rw [hf]
  refine hc.mono ?_
  rintro e w' ⟨v, rfl, hR⟩
  exact h v w' hR
theorem step_call0 {P : Program} {ops : Array Oper} {w : World} {o : Oper} {a : Act} {K : Act → World → Prop} {Q : Exit → Act → World → Prop} {E : Prop} (hw : Region.wanted o (yielded ops a.tmps) = true) (f : FuncId)
    (ho : o.op = .call { callee := .value (.func f), args := #[], argTypes := #[] }) (hf : ∀ W : World, (execOp a.eval o).run P W = .ok (.enter f #[]) W) (R : Value → World → Prop) (hc : Calls P f #[] w fun e w' => ∃ v, e = .returned v ∧ R v w')
    (h : ∀ v w', R v w' → K (a.put o.dst v) w') : if Region.wanted o (yielded ops a.tmps) = true then o.wp P a w K Q else E := by
  rw [if_pos hw]
  unfold Oper.wp
  rw [hf]
  refine hc.mono ?_
  rintro e w' ⟨v, rfl, hR⟩
  exact h v w' hR
theorem op_last {W : World} {B g gs : Nat} {S : List Sct} (h : Dsk 102 120 W B g gs S []) (hS : S.length = 140) {L : List (List Int)} {R : List Sct} (hr : S.drop 0 = entsS 2 0 L ++ R) (hO : Old 2 R) (hL : L.length ≤ 19) (hB : ∀ b ∈ L, Byt b ∧ b.length ≤ 400) :
    Calls Try.prog 19 #[.pointer (some ⟨g, 0, none⟩), .int .i64 0, .int .i64 140, .int .u32 2] W fun e w' => ∃ j, e = .returned (.tuple #[.pointer (some ⟨j, 0, none⟩), .int .i64 0]) ∧ Hold w' B g gs S j 0 140 2 L R ∧ Below W.heap.size W w' := by
  have hfew := ents_few 2 L 0 (fun b hb => (hB b hb).2)
  refine (open_hold W h 0 140 2 (by omega) (by omega) (by omega) (by omega) L R hr (fun b hb => ⟨(hB b hb).1, by have := (hB b hb).2; omega⟩) (by omega) hO (by omega)).mono ?_
  rintro e w' ⟨j, rfl, hh, hz, hbb⟩
  exact ⟨j, rfl, hh, hbb⟩
end Go.Proofs.Ytfceileohkngnaa
