/- Own texts in one: SWakes, SFair, SOpen, SEq, SVars, SRefA, SRefB. -/
import Derived.Test.YtfceileohkngnaaMG
import Derived.ProofKit
import Derived.OpenShut
import Derived.Deep.Slices
import Derived.Deep.Grids
/- Contract: wakes. -/
namespace Go.Proofs.Ytfceileohkngnaa
open Go.RowKit
set_option linter.unusedVariables false
set_option maxRecDepth 4000

/-- A disk that was made behind w0, and nothing of w0 has turned. -/
def St (w0 w : World) (g gs : Nat) (S : List Sct) (P : List (Nat × Sct)) : Prop := Dsk 102 120 w w0.heap.size g gs S P ∧ Below w0.heap.size w0 w
theorem St.below {w0 w w' : World} {g gs : Nat} {S : List Sct} {P : List (Nat × Sct)} (h : St w0 w g gs S P) (k : Below w.heap.size w w') : St w0 w' g gs S P := ⟨h.1.below k, below_then h.2 k⟩
theorem St.turned {w0 w w' : World} {g gs : Nat} {S S' : List Sct} {P P' : List (Nat × Sct)} (h : St w0 w g gs S P) (d : Dsk 102 120 w' w0.heap.size g gs S' P') (k : Turned 120 w0.heap.size g gs w w') : St w0 w' g gs S' P' :=
  ⟨d, h.2.trans (k.below h.2.size h.1.lt.2.2.1 h.1.lt.2.2.2)⟩
/-- A variable of sectors beside the disk stands through a call on it. -/
theorem secs_turned {tW : TypeId} {w w' : World} {base g gs : Nat} {e : TypeId} {b : Nat} {S : List Sct} (h : SecsAt w e b S) (k : Turned tW base g gs w w') (h1 : b ≠ g) (h2 : b ≠ gs) (h3 : e ≠ tW) : SecsAt w' e b S := by
  refine h.of_block (k.block b h.lt h1 h2 (.inr ?_))
  intro cur fr hc
  obtain ⟨⟨cur', hs, _⟩, _⟩ := h
  rw [hs] at hc
  cases hc
  exact h3 rfl

theorem bools_new (w : World) (K : List Bool) : BoolsA (w.alloc (.cells (K.map Value.bool).toArray 4)) (some ⟨w.heap.size, 0, none⟩) K := by
  refine fun _ => ⟨w.heap.size, 0, rfl, fun j u hj => ?_⟩
  rw [cell_of_row _ _ _ _ _ _ (heap_alloc_last w _)]
  simpa using hj
theorem safe_new {w0 w w' : World} {g gs : Nat} {S : List Sct} {P : List (Nat × Sct)} (h : St w0 w g gs S P) (hb : Below w.heap.size w w') {b : Nat} {cur : Array Value} (hw : w.heap.size ≤ b) (hg : w'.heap[b]? = some (.cells cur 4 (0, 0))) : Safe 120 w' w0.heap.size g gs b := by
  obtain ⟨h1, h2, _⟩ := h.1.lt
  refine ⟨lt_of_get hg, by omega, by omega, .inr ?_⟩
  intro cur' fr hc
  rw [hg] at hc
  cases hc

theorem full_get0 : zeroS.1.getD 0 0 = 0 := full_get 0 (by omega) 0 (by omega)

end Go.Proofs.Ytfceileohkngnaa

/- Steps as they lie in memory; fair. -/
namespace Go.Proofs.Ytfceileohkngnaa
open Go.RowKit
set_option linter.unusedVariables false
set_option maxRecDepth 4000

/-- A step as it reads. -/
structure Stp where
  kd : Int
  i : Int
  at_ : Int
  v : Int
  keep : List Bool
def Stp.ok (x : Stp) : Prop := (-9223372036854775808 ≤ x.kd ∧ x.kd ≤ 9223372036854775807) ∧ (-9223372036854775808 ≤ x.i ∧ x.i ≤ 9223372036854775807) ∧ (-9223372036854775808 ≤ x.at_ ∧ x.at_ ≤ 9223372036854775807) ∧ (0 ≤ x.v ∧ x.v ≤ 255) ∧ x.keep.length ≤ maxLen
def Stp.sec (x : Stp) : Sct := stepS x.v x.at_
def scells (x : Stp) (ka : Option Addr) (kc : Nat) : List Value := [.int .i64 x.kd, .int .i64 x.i, .int .i64 x.at_, .int .u8 x.v, .slice ka x.keep.length kc]
/-- At block b, offset o, lies the step x. -/
def StpAt (w : World) (b o : Nat) (x : Stp) : Prop := ∃ ka kc, w.rangeAt b o (scells x ka kc) ∧ BoolsA w ka x.keep ∧ (x.keep ≠ [] → ∀ kb off, ka = some ⟨kb, off, none⟩ → kb < w.heap.size)
def StepsA (w : World) (A : Option Addr) (l : List Stp) : Prop := l ≠ [] → ∃ b off, A = some ⟨b, off, none⟩ ∧ ∀ k x, l[k]? = some x → StpAt w b (off + k * 5) x

theorem stp_below {w w' : World} {b o : Nat} {x : Stp} (h : StpAt w b o x) (hb : Below w.heap.size w w') : StpAt w' b o x := by
  obtain ⟨ka, kc, h1, h2, h3⟩ := h
  refine ⟨ka, kc, ?_, rowA_below h2 hb, fun hk kb off e => Nat.lt_of_lt_of_le (h3 hk kb off e) hb.size⟩
  refine range_of_block h1 (hb.block b ?_)
  exact World.block_lt_of_cell? _ _ (h1 0 _ rfl)
theorem steps_below {w w' : World} {A : Option Addr} {l : List Stp} (h : StepsA w A l) (hb : Below w.heap.size w w') : StepsA w' A l := by
  intro hne
  obtain ⟨b, off, ha, hc⟩ := h hne
  exact ⟨b, off, ha, fun k x hx => stp_below (hc k x hx) hb⟩
theorem stp_cells {w : World} {b o : Nat} {x : Stp} {ka : Option Addr} {kc : Nat} (h : w.rangeAt b o (scells x ka kc)) :
    w.cell? ⟨b, o, none⟩ = some (.int .i64 x.kd) ∧ w.cell? ⟨b, o + 1, none⟩ = some (.int .i64 x.i) ∧ w.cell? ⟨b, o + 2, none⟩ = some (.int .i64 x.at_) ∧ w.cell? ⟨b, o + 3, none⟩ = some (.int .u8 x.v) ∧ w.cell? ⟨b, o + 4, none⟩ = some (.slice ka x.keep.length kc) :=
  ⟨by simpa using h 0 _ rfl, h 1 _ rfl, h 2 _ rfl, h 3 _ rfl, h 4 _ rfl⟩

def fairL (l : List Stp) : Bool := l.all (fun x => decide (x.keep.length ≤ 500)) && decide (l.length ≤ 200)
theorem fairL_len {l : List Stp} (h : fairL l = true) : l.length ≤ 200 ∧ ∀ x ∈ l, x.keep.length ≤ 500 := by
  unfold fairL at h
  rw [Bool.and_eq_true, decide_eq_true_eq, List.all_eq_true] at h
  exact ⟨h.2, fun x hx => by simpa using h.1 x hx⟩

end Go.Proofs.Ytfceileohkngnaa

/- Arguments opened: from what is read to what the walks are told. -/
namespace Go.Proofs.Ytfceileohkngnaa
open Go.RowKit Go.ChangeShapes Go.WideShapes Go.Deep
set_option linter.unusedVariables false
set_option maxRecDepth 4000
variable {H : Type} {enc : TypeId × Value → H} {P : Program} {W : World} {base : Nat}

/-- Bools, by cells: where a slice's header stands as a value of its own or in a cell. -/
theorem bools_cells {t e : TypeId} {fuel : Nat} {v : Value} {x : DataW H × List MemPlace} (ht : P.underlying t = some (.slice e)) (he : P.underlying e = some .bool) (hce : P.cellsOf e = 1)
    (hf : DataW.trod enc P W 0 (fun _ => true) true fuel t [v] = some x) :
    ∃ a K cap, v = .slice a K.length cap ∧ K.length ≤ cap ∧ cap ≤ maxLen ∧ BoolsA W a K ∧ (K ≠ [] → ∀ kb off, a = some ⟨kb, off, none⟩ → kb < W.heap.size) := by
  rcases open_bools ht he hce hf with ⟨hcs, _⟩ | ⟨x, l, c, B, hcs, _, hl, hm, _, hcell⟩
  · simp at hcs
    exact ⟨none, [], 0, by simpa using hcs, by simp, by simp, rowA_nil _ _, fun _ _ _ e => by cases e⟩
  · simp at hcs
    subst hcs
    have hlen : ((List.range l).map B).length = l := by simp
    have key : 0 < l → ∃ b off, x = ⟨b, off, none⟩ ∧ b < W.heap.size := by
      intro h0
      obtain ⟨b, off, spot⟩ := x
      have hc0 := hcell 0 (by omega)
      have hspot : spot = none := by simpa [Addr.add] using World.cell?_spot hc0
      subst hspot
      rw [addr_add] at hc0
      exact ⟨b, off, rfl, World.block_lt_of_cell? _ _ hc0⟩
    refine ⟨some x, (List.range l).map B, c, by rw [hlen], by omega, hm, ?_, ?_⟩
    · intro hne
      have h0 : 0 < l := by
        rcases Nat.eq_zero_or_pos l with h | h
        · subst h; simp at hne
        · exact h
      obtain ⟨b, off, rfl, _⟩ := key h0
      refine ⟨b, off, rfl, fun j u hj => ?_⟩
      rw [List.getElem?_map, List.getElem?_map] at hj
      have hjl : j < l := by
        rcases Nat.lt_or_ge j l with h | h
        · exact h
        · rw [List.getElem?_eq_none (by simpa using h)] at hj; cases hj
      rw [List.getElem?_range hjl] at hj
      rw [← addr_add, hcell j (by omega)]
      exact hj
    · intro hne kb off e
      have h0 : 0 < l := by
        rcases Nat.eq_zero_or_pos l with h | h
        · subst h; simp at hne
        · exact h
      obtain ⟨b, off', rfl, hb⟩ := key h0
      cases e
      exact hb

theorem open_keep {t e : TypeId} {v : Value} {d : DataW H} {p : List MemPlace} (ht : P.underlying t = some (.slice e)) (he : P.underlying e = some .bool) (hce : P.cellsOf e = 1)
    (o : Value.okWide P W .any base t v) (r : DataW.Trod enc P W 0 (fun _ => true) true t v d p) :
    ∃ a K cap, v = .slice a K.length cap ∧ K.length ≤ cap ∧ cap ≤ maxLen ∧ BoolsA W a K := by
  obtain ⟨a0, len0, cap0, rfl⟩ := okWide_slice ht o
  obtain ⟨fuel, hf⟩ := r
  obtain ⟨a, K, cap, h1, h2, h3, h4, _⟩ := bools_cells ht he hce (by simpa [Value.cells] using hf)
  exact ⟨a, K, cap, h1, h2, h3, h4⟩

end Go.Proofs.Ytfceileohkngnaa

/- Two sectors are held against each other. -/
namespace Go.Proofs.Ytfceileohkngnaa
open Go.RowKit
set_option linter.unusedVariables false
set_option maxRecDepth 4000

end Go.Proofs.Ytfceileohkngnaa

/- A disk, and variables of sectors beside it. -/
namespace Go.Proofs.Ytfceileohkngnaa
open Go.RowKit
set_option linter.unusedVariables false
set_option maxRecDepth 4000

theorem Dsk.keep {tD tW : TypeId} {w w' : World} {base g gs : Nat} {S : List Sct} {P : List (Nat × Sct)} (h : Dsk tD tW w base g gs S P) (hg : w'.heap[g]? = w.heap[g]?) (hs : w'.heap[gs]? = w.heap[gs]?)
    (hp : ∀ (k : Nat) cur, w.heap[k]? = some (.cells cur tW (0, 0)) → w'.heap[k]? = w.heap[k]?) : Dsk tD tW w' base g gs S P := by
  obtain ⟨pv, h0, h1, h2, hS, hP, r⟩ := h
  refine ⟨pv, by rw [hg]; exact h0, h1, h2, hS.of_block hs, own_of_block hP (fun k hk => ?_), r⟩
  obtain ⟨_, cur, hc⟩ := own_block hP hk
  exact hp k cur hc

/-- A variable of sectors, beside the disk, made behind w0. -/
def Var (w0 w : World) (g gs : Nat) (e : TypeId) (b : Nat) (L : List Sct) : Prop := SecsAt w e b L ∧ b ≠ g ∧ b ≠ gs ∧ w0.heap.size ≤ b ∧ e ≠ 120
theorem Var.below {w0 w w' : World} {g gs : Nat} {e : TypeId} {b : Nat} {L : List Sct} (h : Var w0 w g gs e b L) (k : Below w.heap.size w w') : Var w0 w' g gs e b L := ⟨h.1.below k, h.2⟩
theorem Var.turned {w0 w w' : World} {base g gs : Nat} {e : TypeId} {b : Nat} {L : List Sct} (h : Var w0 w g gs e b L) (k : Turned 120 base g gs w w') : Var w0 w' g gs e b L := ⟨secs_turned h.1 k h.2.1 h.2.2.1 h.2.2.2.2, h.2⟩
theorem Var.ne {w0 w : World} {g gs : Nat} {e e' : TypeId} {b b' : Nat} {L L' : List Sct} (h : Var w0 w g gs e b L) (h' : Var w0 w g gs e' b' L') (k : e ≠ e') : b ≠ b' := by
  rintro rfl
  obtain ⟨⟨⟨cur, h1, _⟩, _⟩, _⟩ := h
  obtain ⟨⟨⟨cur', h2, _⟩, _⟩, _⟩ := h'
  rw [h1] at h2
  cases h2
  exact k rfl
/-- A store into one of them. -/
theorem St.store {w0 w : World} {g gs : Nat} {S : List Sct} {P : List (Nat × Sct)} {e : TypeId} {b : Nat} {L : List Sct} (h : St w0 w g gs S P) (v : Var w0 w g gs e b L) (o : Nat) (us : List Value) : St w0 (w.setCells b o us) g gs S P := by
  refine ⟨h.1.keep (heap_setCells_other _ _ _ _ _ (fun e => v.2.1 e.symm)) (heap_setCells_other _ _ _ _ _ (fun e => v.2.2.1 e.symm)) (fun k cur hc => heap_setCells_other _ _ _ _ _ ?_), below_sets h.2 _ _ _ v.2.2.2.1⟩
  rintro rfl
  obtain ⟨⟨⟨cur', h1, _⟩, _⟩, _, _, _, ht⟩ := v
  rw [h1] at hc
  cases hc
  exact ht rfl
theorem Var.store {w0 w : World} {g gs : Nat} {e : TypeId} {b : Nat} {L : List Sct} (v : Var w0 w g gs e b L) {i : Nat} (hi : i < L.length) (s : Sct) : Var w0 (w.setCells b (i * 64) (bytes s)) g gs e b (L.set i s) := ⟨v.1.set hi s, v.2⟩
theorem Var.store1 {w0 w : World} {g gs : Nat} {e : TypeId} {b : Nat} {t : Sct} (v : Var w0 w g gs e b [t]) (s : Sct) : Var w0 (w.setCells b 0 (bytes s)) g gs e b [s] := ⟨secs_store v.1 s, v.2⟩
theorem Var.other {w0 w : World} {g gs : Nat} {e : TypeId} {b : Nat} {L : List Sct} (v : Var w0 w g gs e b L) {b' : Nat} (hb : b ≠ b') (o : Nat) (us : List Value) : Var w0 (w.setCells b' o us) g gs e b L := ⟨v.1.of_block (heap_setCells_other _ _ _ _ _ hb), v.2⟩
theorem Var.new {w0 w w' : World} {g gs : Nat} {S : List Sct} {P : List (Nat × Sct)} {e : TypeId} {L : List Sct} (h : St w0 w g gs S P) (k : SecsAt w' e w.heap.size L) (he : e ≠ 120) : Var w0 w' g gs e w.heap.size L := by
  obtain ⟨h1, h2, _⟩ := h.1.lt
  exact ⟨k, by omega, by omega, h.2.size, he⟩
theorem Var.there {w0 w : World} {g gs : Nat} {e : TypeId} {b : Nat} {t : Sct} (v : Var w0 w g gs e b [t]) : w.there b 0 64 := secs_there v.1
theorem Var.range {w0 w : World} {g gs : Nat} {e : TypeId} {b : Nat} {t : Sct} (v : Var w0 w g gs e b [t]) : w.rangeAt b 0 (bytes t) := secs_range v.1
theorem Var.theres {w0 w : World} {g gs : Nat} {e : TypeId} {b : Nat} {L : List Sct} (v : Var w0 w g gs e b L) {i : Nat} (hi : i < L.length) : w.there b (i * 64) 64 := v.1.there hi
theorem Var.ranges {w0 w : World} {g gs : Nat} {e : TypeId} {b : Nat} {L : List Sct} (v : Var w0 w g gs e b L) {i : Nat} {s : Sct} (hi : L[i]? = some s) : w.rangeAt b (i * 64) (bytes s) := v.1.2 i s hi
theorem Var.lt {w0 w : World} {g gs : Nat} {e : TypeId} {b : Nat} {L : List Sct} (v : Var w0 w g gs e b L) : b < w.heap.size := v.1.lt

/-- A copy of bools in a block of the call's own. -/
theorem wpList_copyB {W : World} {ops : Array Oper} {rest : List Oper} {o : Oper} {a : Act} {Q : Exit → Act → World → Prop} (hgd : o.guard = none) (s x : Operand)
    (ho : o.op = .call { callee := .builtin .append, args := #[s, x], argTypes := #[79, 79] }) (N : Nat) (hN : N = W.heap.size)
    (hs : a.eval s = .slice (some ⟨N, 0, none⟩) 0 0) (A : Option Addr) (c : Nat) (K : List Bool) (hx : a.eval x = .slice A K.length c) (hR : BoolsA W A K) (hlen : K.length ≤ 100000)
    (h : ∀ g cap cur W', W.heap.size ≤ g → Below W.heap.size W W' → W'.heap[g]? = some (.cells cur 4 (0, 0)) → BoolsA W' (some ⟨g, 0, none⟩) K → wpList Try.prog ops Q rest (a.put o.dst (.slice (some ⟨g, 0, none⟩) K.length cap)) W') :
    wpList Try.prog ops Q (o :: rest) a (W.alloc (.cells #[] 4)) := by
  subst hN
  have hi4 : (Try.prog.info? 4).map (fun i => (i.zero, i.size, i.bytes)) = some (some (.bool false), 1, 1) := by kernel_rfl
  obtain ⟨i0, hi, hz0, hz1, hz2⟩ := info_parts hi4
  have hown : (W.alloc (.cells #[] 4)).ownsRow W.heap.size 4 1 (.slice (some ⟨W.heap.size, 0, none⟩) 0 0) 0 [] :=
    World.ownsRow_lit W #[] 0 (Nat.le_refl _) (by simp) (by simp)
  refine wpList_append_row hgd s x 79 ho W.heap.size 4 i0 (.bool false) 1 1 Try.underlying79 hi hz0 hz1 hz2 rfl (by decide) (by decide) _ 0 [] hs hown A K.length c (K.map Value.bool) hx (by simp)
    (rowA_below hR (below_alloc (Below.refl _ _) _)) (fun u hu => by obtain ⟨b, _, rfl⟩ := List.mem_map.1 hu; rfl) (by omega) (by simp) ?_
  intro v' W' hown' hgrow hat
  have hbel : Below W.heap.size W W' := (below_alloc (Below.refl _ _) _).grown hgrow (by simp) (fun k hk => by simp [Value.ownBlock] at hk; omega)
  rw [Nat.zero_add, List.nil_append] at hown'
  rcases hown'.2 with ⟨rfl, h0⟩ | ⟨g, cap, cur, rfl, hb, hg, hnc, hcm, hcs, htk⟩
  · rcases hat with h | h <;> simp [Value.ownBlock] at h
  · refine h g cap cur W' hb hbel hg (Blk.row (e := 4) (cap := cap) ⟨cur, hg, by omega, ?_⟩)
    rw [List.length_map]
    simpa using htk

theorem kept_app : ∀ (P : List (Nat × Sct)) (K : List Bool) (p : Nat × Sct), keptP (P ++ [p]) K = keptP P K ++ (if K.getD P.length false = true then [p] else [])
  | [], [], p => by simp [keptP]
  | [], c :: K, p => by cases c <;> simp [keptP]
  | q :: P, [], p => by simp [keptP]
  | q :: P, c :: K, p => by
    have := kept_app P K p
    simp only [List.cons_append, keptP, List.length_cons, List.getD_cons_succ, this]
    cases c <;> simp
theorem kept_read_in (S : List Sct) (P : List (Nat × Sct)) (K : List Bool) (j k : Nat) (s : Sct) (hk : P.length = k) (h : K.getD k false = true) : readS S (keptP (P ++ [(j, s)]) K) j = s := by
  rw [kept_app, hk, if_pos h, readS_snoc, if_pos rfl]
theorem kept_read_out (S : List Sct) (P : List (Nat × Sct)) (K : List Bool) (j k q : Nat) (s : Sct) (hk : P.length = k) (h : K.getD k false = false ∨ j ≠ q) : readS S (keptP (P ++ [(j, s)]) K) q = readS S (keptP P K) q := by
  rw [kept_app, hk]
  by_cases hb : K.getD k false = true
  · rw [if_pos hb, readS_snoc, if_neg]
    rcases h with h | h
    · rw [h] at hb; cases hb
    · exact h
  · rw [if_neg hb, List.append_nil]
end Go.Proofs.Ytfceileohkngnaa

/- Contracts of the reference: Has, Write, Read. -/
namespace Go.Proofs.Ytfceileohkngnaa
open Go.RowKit
set_option linter.unusedVariables false
set_option maxRecDepth 4000

theorem Try.info117 : ∃ i, Try.prog.info? 117 = some i ∧ i.zero = some (wv (0, zeroS)) ∧ i.size = 65 ∧ i.bytes = 72 := by
  have h : (Try.prog.info? 117).map (fun i => (i.zero, i.size, i.bytes)) = some (some (.agg (.int .i64 0 :: List.replicate 64 (.int .u8 0)).toArray), 65, 72) := by kernel_rfl
  obtain ⟨i, hi, hz, hs⟩ := info_parts h
  refine ⟨i, hi, hz.trans ?_, hs⟩
  unfold wv wcells zeroS; rw [bytes_full]; rfl

theorem rbld_of (f : Nat × Operand → Nat × Value) (a b : Nat × Operand) : Instr.build 117 (Array.map f #[a, b]) = bld 117 (f a) (f b) := by
  unfold bld; simp only [List.map_toArray, List.map_cons, List.map_nil]
theorem rbld_of' (a b : Nat × Value) : Instr.build 117 #[a, b] = bld 117 a b := rfl
theorem rbsl_of (f : Nat × Operand → Nat × Value) (a : Nat × Operand) : Instr.buildSlice 72 1 (Array.map f #[a]) = bsl 72 (f a) := by
  unfold bsl; simp only [List.map_toArray, List.map_cons, List.map_nil]
theorem rbsl_of' (a : Nat × Value) : Instr.buildSlice 72 1 #[a] = bsl 72 a := rfl
theorem rbld_is (i : Nat) (s : Sct) (w : World) : (bld 117 (0, .int .i64 i) (1, .agg (bytes s).toArray)).run Try.prog w = .ok (wv (i, s)) w := by
  obtain ⟨j, hi, hz, _⟩ := Try.info117
  exact run_buildW hi hz Try.underlying117 rfl rfl Try.size3 Try.size75 (i, s) w
theorem rbsl_is (p : Nat × Sct) (w : World) : (bsl 72 (0, wv p)).run Try.prog w = .ok (.slice (some ⟨w.heap.size, 0, none⟩) 1 1) (w.alloc (.cells (wcells p).toArray 117)) := by
  obtain ⟨j, hi, hz, hs, _⟩ := Try.info117
  exact run_buildSliceW Try.underlying72 hi hz hs p w

theorem rhas_yes {base g gs : Nat} {S : List Sct} {P : List (Nat × Sct)} (w : World) (h : Dsk 74 117 w base g gs S P) (i : Nat) (hi : i < S.length) :
    Calls Try.prog 69 #[.pointer (some ⟨g, 0, none⟩), .int .i64 i] w fun e w' => e = .returned (.bool true) ∧ w' = w := by
  obtain ⟨pv, A, cap, rfl, h0, h1, _⟩ := dsk_cells h
  have hi' : (i : Int) < (S.length : Int) := by omega
  go_enter Try.func69, Try.ntmps69
  go_wp2
  go_ret
  exact ⟨rfl, rfl⟩

theorem rhas_no {base g gs : Nat} {S : List Sct} {P : List (Nat × Sct)} (w : World) (h : Dsk 74 117 w base g gs S P) (i : Int) (hi : i < 0 ∨ (S.length : Int) ≤ i) :
    Calls Try.prog 69 #[.pointer (some ⟨g, 0, none⟩), .int .i64 i] w fun e w' => e = .returned (.bool false) ∧ w' = w := by
  obtain ⟨pv, A, cap, rfl, h0, h1, _⟩ := dsk_cells h
  by_cases h0' : i < 0
  · have h1' : ¬ 0 ≤ i := by omega
    go_enter Try.func69, Try.ntmps69
    go_wp2
    go_ret
    exact ⟨rfl, rfl⟩
  · have h1' : 0 ≤ i := by omega
    have h2 := hide (show ¬ i < (S.length : Int) by omega)
    go_enter Try.func69, Try.ntmps69
    go_wp2
    go_ret
    exact ⟨ret_bool (decide_eq_false (by have := unhide h2; omega)), rfl⟩

section
attribute [local go_sem ↓] ldS_of rbld_of rbsl_of rbld_of' rbsl_of' box_sv
attribute [local go_sem] rbld_is rbsl_is

set_option maxHeartbeats 400000 in
theorem rwrite_yes {base g gs : Nat} {S : List Sct} {P : List (Nat × Sct)} (w : World) (h : Dsk 74 117 w base g gs S P) (i : Nat) (hi : i < S.length) (s : Sct) (hP : P.length ≤ 100000) :
    Calls Try.prog 51 #[.pointer (some ⟨g, 0, none⟩), .int .i64 i, sv s] w fun e w' => e = .returned (.int .i64 0) ∧ Dsk 74 117 w' base g gs S (P ++ [(i, s)]) ∧ Turned 117 base g gs w w' := by
  obtain ⟨i65, hi65, hz65, hs65, hy65⟩ := Try.info117
  have hglt := h.lt
  obtain ⟨hglt, hgslt, hbg, hbgs⟩ := hglt
  have HD := hide (h.below (below_alloc (Below.refl _ _) (.cells (bytes s).toArray 75)))
  obtain ⟨pv, A, cap, rfl, h0, h1, hPr⟩ := dsk_cells (unhide HD)
  have hi' : (i : Int) < (S.length : Int) := by omega
  have HH := hide (rhas_yes _ (unhide HD) i hi)
  have hrs := secs_range (secs_box w 75 s)
  have HP := hide hPr
  have HS := hide h
  clear h hPr h0
  go_enter Try.func51, Try.ntmps51
  go_wp2_with (go_at_call 69; refine (unhide HH).mono ?_; rintro e w' ⟨rfl, rfl⟩)
  have hbel : Below w.heap.size w (w.alloc (.cells (bytes s).toArray 75)) := below_alloc (Below.refl _ _) _
  generalize w.alloc (.cells (bytes s).toArray 75) = w1 at *
  clear HH
  have hld := ldS_is w.heap.size 0 s w1.drew (by simpa using hrs)
  have hg1 : g < w1.heap.size := (unhide HD).lt.1
  have HD2 := hide ((unhide HD).drew.below (below_alloc (Below.refl _ _) (.cells (wcells (i, s)).toArray 117)))
  have HC2 : Hid ((w1.drew.alloc (.cells (wcells (i, s)).toArray 117)).cell? ⟨g, 1, none⟩ = some (.slice A P.length cap)) := by
    show _ = _
    rw [World.cell?_alloc_lt _ _ _ hg1]; exact h1
  have HP2 := hide (own_of_block (unhide HP) (w' := w1.drew.alloc (.cells (wcells (i, s)).toArray 117)) (fun k hk => Below.heap_alloc _ _ _ (by obtain ⟨_, cur, hc⟩ := own_block (unhide HP) hk; exact lt_of_get hc)))
  have HR2 := hide (row_box w1.drew 117 (i, s))
  have hbase : base ≤ w1.heap.size := by omega
  have HZ : Hid (base ≤ (w1.drew.alloc (.cells (wcells (i, s)).toArray 117)).heap.size) := by
    show _ ≤ _
    have : (w1.drew.alloc (.cells (wcells (i, s)).toArray 117)).heap.size = w1.heap.size + 1 := by simp
    omega
  clear hrs
  go_region_law ((refine step_append_row rfl _ _ 72 rfl base 117 i65 (wv (0, zeroS)) 65 72 Try.underlying72 hi65 hz65 hs65 hy65 (by rw [wv_cells, List.size_toArray, wcells_len]) (by omega) (by omega) (.slice A P.length cap) P.length (flatP P) rfl (unhide HP2) _ 1 1 (wcells (i, s)) rfl (by rw [wcells_len]) (unhide HR2) (wcells_one _) (by omega) (unhide HZ) ?_; intro v3 w3 hown3 hgrow3 hat3; obtain ⟨A3, cap3, rfl⟩ := own_shape hown3; obtain ⟨HF, hc3, hf3⟩ := dsk_pushed (by decide) (by decide) (by decide) (unhide HD2) (unhide HC2) hown3 hgrow3 hi))
  all_goals
    go_wp2
    go_ret
    exact ⟨rfl, HF.1, (Turned.of_below hbel).trans ((Turned.of_below (below_alloc (Below.drew (Below.refl _ _)) _)).trans HF.2)⟩

theorem rwrite_no {base g gs : Nat} {S : List Sct} {P : List (Nat × Sct)} (w : World) (h : Dsk 74 117 w base g gs S P) (i : Int) (hi : i < 0 ∨ (S.length : Int) ≤ i) (s : Sct) :
    Calls Try.prog 51 #[.pointer (some ⟨g, 0, none⟩), .int .i64 i, sv s] w fun e w' => e = .returned (.int .i64 1) ∧ Below w.heap.size w w' := by
  have HD := hide (h.below (below_alloc (Below.refl _ _) (.cells (bytes s).toArray 75)))
  have HH := hide (rhas_no _ (unhide HD) i hi)
  clear hi
  go_enter Try.func51, Try.ntmps51
  go_wp2_with (go_at_call 69; refine (unhide HH).mono ?_; rintro e w' ⟨rfl, rfl⟩)
  go_ret
  exact ⟨rfl, below_alloc (Below.refl _ _) _⟩
end

theorem rread_no {base g gs : Nat} {S : List Sct} {P : List (Nat × Sct)} (w : World) (h : Dsk 74 117 w base g gs S P) (i : Int) (hi : i < 0 ∨ (S.length : Int) ≤ i) :
    Calls Try.prog 47 #[.pointer (some ⟨g, 0, none⟩), .int .i64 i] w fun e w' => e = .returned (.tuple #[sv zeroS, .int .i64 1]) ∧ Below w.heap.size w w' := by
  obtain ⟨i36, hi36, hz36⟩ := Try.zero75
  have HD0 := hide h
  have HI := hide hi
  clear h hi
  go_enter Try.func47, Try.ntmps47
  go_wp2_with (first
    | (with_reducible refine wpList_allocT 75 i36 (sv zeroS) hi36 hz36 ?_; intro w1 hb1 hs1 hg1; have HD1 := hide ((unhide HD0).below hb1))
    | (go_at_call 69; refine (rhas_no _ (unhide HD1) i (unhide HI)).mono ?_; rintro e w' ⟨rfl, rfl⟩)
    | (with_reducible refine wpList_buildZ ?_)
    | ((with_reducible refine wpList_storeS Try.size75 _ _ w.heap.size 0 zeroS ?_ ?_ (secs_there (secs_new hg1)) ?_); (focus rfl); (focus rfl); intro w3 H3))
  have hX3 := secs_store (secs_new hg1) zeroS
  rw [← unhide H3] at hX3
  refine ret_cellS2 rfl rfl rfl rfl (secs_range hX3) ⟨rfl, ?_⟩
  rw [unhide H3]
  exact below_sets hb1 _ _ _ (Nat.le_refl _)

set_option maxHeartbeats 400000 in
theorem rread_yes {base g gs : Nat} {S : List Sct} {P : List (Nat × Sct)} (w : World) (h : Dsk 74 117 w base g gs S P) (i : Nat) (hi : i < S.length) (hP : P.length ≤ 100001) :
    Calls Try.prog 47 #[.pointer (some ⟨g, 0, none⟩), .int .i64 i] w fun e w' => e = .returned (.tuple #[sv (readS S P i), .int .i64 0]) ∧ Below w.heap.size w w' := by
  obtain ⟨i36, hi36, hz36⟩ := Try.zero75
  have HD0 := hide h
  have hi' : (i : Int) < (S.length : Int) := by omega
  clear h
  obtain ⟨s0, hs0⟩ : ∃ s0, S[i]? = some s0 := ⟨S[i], List.getElem?_eq_getElem hi⟩
  have HE0 : Hid (S.getD i zeroS = s0) := by
    show _ = _
    rw [List.getD_eq_getElem?_getD, hs0]; rfl
  have HSI := hide hs0
  clear hs0
  go_enter Try.func47, Try.ntmps47
  go_wp2_with (((with_reducible refine wpList_allocT 75 i36 (sv zeroS) hi36 hz36 ?_); intro w1 hb1 hs1 hg1; have HD1 := hide ((unhide HD0).below hb1); obtain ⟨pv, A, cap, rfl, h0, h1, hPr⟩ := dsk_cells (unhide HD1); have hrS : w1.rangeAt gs (i * 64) (bytes s0) := (by obtain ⟨_, _, _, _, hS, _⟩ := unhide HD1; exact hS.2 i s0 (unhide HSI)); clear hPr))
  refine (rhas_yes _ (unhide HD1) i hi).mono ?_
  rintro e w' ⟨rfl, rfl⟩
  have HX := hide (secs_new hg1)
  clear hg1
  go_wp2_with (first
    | ((with_reducible refine wpList_loadS Try.underlying75 Try.size75 _ gs (i * 64) s0 ?_ hrS ?_); (focus rfl))
    | ((with_reducible refine wpList_allocT 75 i36 (sv zeroS) hi36 hz36 ?_); intro w2 hb2 hs2 hg2)
    | ((with_reducible refine wpList_storeS Try.size75 _ _ w'.heap.size 0 s0 ?_ ?_ (secs_there (secs_new hg2)) ?_); (focus rfl); (focus rfl); intro w3 H3))
  obtain ⟨hb3, hs3, hX3⟩ := var_put hb2 hs2 hg2 H3
  rw [hs1] at hX3 hs3
  have HD3 := hide ((unhide HD1).below hb3)
  have HB3 := hide (below_then hb1 hb3)
  have HX3 := hide ((unhide HX).below hb3)
  have HY3 := hide hX3
  clear hb2 hs2 hg2 H3 hb3 hX3 hb1 HX HD1 h0 h1 hrS
  go_loopw [7] (fun t wr => ∃ k : Nat, k ≤ P.length ∧ t = .int .i64 k ∧ Dsk 74 117 wr base g gs S P ∧ Below w.heap.size w wr ∧ SecsAt wr 75 w.heap.size [zeroS] ∧ SecsAt wr 75 (w.heap.size + 1) [readS S (P.take k) i]) (fun t _ => P.length - (intOf t).toNat)
  case atStart =>
    refine ⟨0, Nat.zero_le _, rfl, unhide HD3, unhide HB3, unhide HX3, ?_⟩
    have : readS S (P.take 0) i = s0 := unhide HE0
    rw [this]
    exact unhide HY3
  case round =>
    obtain ⟨k, hk, rfl, hd, hb, hX, hY⟩ := hrel
    have HD := hide hd
    have HB := hide hb
    have HX := hide hX
    have HY := hide hY
    obtain ⟨pv, A', cap', rfl, h0, h1, hPr⟩ := dsk_cells hd
    have HP := hide hPr
    obtain ⟨glt, gslt, _, _⟩ := (unhide HD0).lt
    clear hd hb hX hY hPr HD3 HB3 HX3 HY3
    by_cases hlt : k < P.length
    · have hlt' : (k : Int) < (P.length : Int) := by omega
      obtain ⟨p, hp⟩ : ∃ p, P[k]? = some p := ⟨P[k], List.getElem?_eq_getElem hlt⟩
      obtain ⟨gp, cap2, hpv, hgp, hcap, _, hr⟩ := own_at (unhide HP) hp
      obtain ⟨rfl, rfl⟩ : A' = some ⟨gp, 0, none⟩ ∧ cap' = cap2 := by simpa using hpv
      have hc := range_head hr
      have hrt := range_tail hr
      have HQ := hide (take_snocP hp)
      clear hpv hp hr
      by_cases hpi : p.1 = i
      · have HE : Hid (readS S (P.take (k + 1)) i = p.2) := by
          show _ = _
          rw [unhide HQ, readS_snoc, if_pos hpi]
        subst hpi
        go_wp2_with (first
          | ((with_reducible refine wpList_loadS Try.underlying75 Try.size75 _ gp (k * 65 + 1) p.2 ?_ hrt ?_); (focus rfl))
          | ((with_reducible refine wpList_storeS Try.size75 _ _ (w.heap.size + 1) 0 p.2 ?_ ?_ (secs_there (unhide HY)) ?_); (focus rfl); (focus rfl); intro w5 H5))
        go_roundw
        case rel =>
          refine ⟨k + 1, by omega, by go_num, ?_, ?_, ?_, ?_⟩
          · rw [unhide H5]
            refine (unhide HD).keep (heap_setCells_other _ _ _ _ _ (by omega)) (heap_setCells_other _ _ _ _ _ (by omega)) (fun k' cur hcur => heap_setCells_other _ _ _ _ _ ?_)
            rintro rfl
            obtain ⟨⟨cur', h', _⟩, _⟩ := unhide HY
            rw [h'] at hcur
            cases hcur
          · rw [unhide H5]; exact below_sets (unhide HB) _ _ _ (by omega)
          · rw [unhide H5]; exact (unhide HX).of_block (heap_setCells_other _ _ _ _ _ (by omega))
          · rw [unhide H5, unhide HE]; exact secs_store (unhide HY) p.2
        case measure => simp [intOf]; omega
      · have hpi' : ¬ (p.1 : Int) = (i : Int) := by omega
        have HE : Hid (readS S (P.take (k + 1)) i = readS S (P.take k) i) := by
          show _ = _
          rw [unhide HQ, readS_snoc, if_neg hpi]
        go_wp2
        go_roundw
        case rel => exact ⟨k + 1, by omega, by go_num, unhide HD, unhide HB, unhide HX, by rw [unhide HE]; exact unhide HY⟩
        case measure => simp [intOf]; omega
    · obtain rfl : k = P.length := by omega
      have HE : Hid (readS S (P.take P.length) i = readS S P i) := by show _ = _; rw [List.take_length]
      rw [unhide HE] at HY
      go_wp2_with (first
        | ((with_reducible refine wpList_loadS Try.underlying75 Try.size75 _ (w.heap.size + 1) 0 (readS S P i) ?_ (secs_range (unhide HY)) ?_); (focus rfl))
        | ((with_reducible refine wpList_storeS Try.size75 _ _ w.heap.size 0 (readS S P i) ?_ ?_ (secs_there (unhide HX)) ?_); (focus rfl); (focus rfl); intro w5 H5))
      have hX5 := secs_store (unhide HX) (readS S P i)
      rw [← unhide H5] at hX5
      refine ret_cellS2 rfl rfl rfl rfl (secs_range hX5) ⟨rfl, ?_⟩
      rw [unhide H5]
      exact below_sets (unhide HB) _ _ _ (Nat.le_refl _)
end Go.Proofs.Ytfceileohkngnaa

/- Contracts of the reference: Flush, Crash. -/
namespace Go.Proofs.Ytfceileohkngnaa
open Go.RowKit
set_option linter.unusedVariables false
set_option maxRecDepth 4000

/-- What a round reads of the disk: the headers, the k-th pending write, the place that it goes to. -/
theorem dsk_at {tD tW : TypeId} (t1 : tD ≠ 75) (t2 : tW ≠ 75) {w : World} {base g gs : Nat} {S : List Sct} {P : List (Nat × Sct)} (h : Dsk tD tW w base g gs S P) {k : Nat} {p : Nat × Sct} (hk : P[k]? = some p) :
    ∃ gp cap, w.cell? ⟨g, 0, none⟩ = some (.slice (some ⟨gs, 0, none⟩) S.length S.length) ∧ w.cell? ⟨g, 1, none⟩ = some (.slice (some ⟨gp, 0, none⟩) P.length cap) ∧ w.cell? ⟨gp, k * 65, none⟩ = some (.int .i64 p.1) ∧ w.rangeAt gp (k * 65 + 1) (bytes p.2) ∧ w.there gs (p.1 * 64) 64 ∧ p.1 < S.length ∧ g ≠ gs ∧ gp ≠ gs := by
  obtain ⟨pv, A, cap, rfl, h0, h1, hP⟩ := dsk_cells h
  obtain ⟨gp, cap', hpv, hgp, hcap, ⟨cur, hcur⟩, hr⟩ := own_at hP hk
  obtain ⟨rfl, rfl⟩ : A = some ⟨gp, 0, none⟩ ∧ cap = cap' := by simpa using hpv
  have hne := h.ne t1
  obtain ⟨_, _, _, _, hS, _, hin, _⟩ := h
  have hp := hin p (List.mem_of_getElem? hk)
  refine ⟨gp, cap, h0, h1, range_head hr, range_tail hr, hS.there hp, hp, hne, ?_⟩
  rintro rfl
  obtain ⟨⟨cur', h', _⟩, _⟩ := hS
  rw [hcur] at h'
  cases h'
  exact t2 rfl

set_option maxRecDepth 10000 in
set_option maxHeartbeats 1000000 in
theorem rflush_any {base g gs : Nat} {S : List Sct} {P : List (Nat × Sct)} (w : World) (h : Dsk 74 117 w base g gs S P) (hP : P.length ≤ 100001) :
    Calls Try.prog 52 #[.pointer (some ⟨g, 0, none⟩)] w fun e w' => e = .returned (.tuple #[]) ∧ Dsk 74 117 w' base g gs (flushS S P) [] ∧ Turned 117 base g gs w w' := by
  have HD := hide h
  clear h
  go_enter Try.func52, Try.ntmps52
  go_wp2
  go_loopw [2] (fun t wr => ∃ m : Nat, m ≤ P.length ∧ t = .int .i64 m ∧ Dsk 74 117 wr base g gs (flushS S (P.take m)) P ∧ Turned 117 base g gs w wr) (fun t _ => P.length - (intOf t).toNat)
  case atStart => exact ⟨0, Nat.zero_le _, rfl, unhide HD, Turned.refl _ _ _ _ _⟩
  case round =>
    obtain ⟨m, hm, rfl, hd, ht⟩ := hrel
    by_cases hlt : m < P.length
    · obtain ⟨p, hp⟩ : ∃ p, P[m]? = some p := ⟨P[m], List.getElem?_eq_getElem hlt⟩
      have HE : Hid (flushS S (P.take (m + 1)) = (flushS S (P.take m)).set p.1 p.2) := by
        show _ = _
        rw [take_snocP hp, flushS_snoc]
      obtain ⟨gp, cap, c0, c1, cp, rp, th, hpS, hne1, hne2⟩ := dsk_at (by decide) (by decide) hd hp
      have HT := hide ht
      have HM := hide hd
      have hm' : (m : Int) < (P.length : Int) := by omega
      have hpS' : (p.1 : Int) < ((flushS S (P.take m)).length : Int) := by omega
      have hu36 := Try.underlying75
      have hz36 : (Try.prog.info? 75).map (·.size) = some (bytes p.2).length := by rw [bytes_len]; exact Try.size75
      have hl36 := bytes_len p.2
      have ho36 := bytes_one p.2
      clear hp hd ht
      generalize flushS S (P.take m) = L at *
      go_wp2_with fail
      go_region_held3 (fun W => W.cell? ⟨g, 0, none⟩ = some (.slice (some ⟨gs, 0, none⟩) L.length L.length) ∧ W.cell? ⟨g, 1, none⟩ = some (.slice (some ⟨gp, 0, none⟩) P.length cap) ∧ W.cell? ⟨gp, m * 65, none⟩ = some (.int .i64 p.1) ∧ W.rangeAt gp (m * 65 + 1) (bytes p.2) ∧ W.there gs (p.1 * 64) 64)
        ((go_split_ands; (refine ⟨?_, ?_, ?_, ?_, ?_⟩) <;> first | assumption | (rw [cell_sets_other _ _ _ _ _ _ hne1]; assumption) | (rw [cell_sets_other _ _ _ _ _ _ hne2]; assumption) | (refine World.there_setCells ?_ _ _ _; assumption) | (refine World.rangeAt_setCells_apart ?_ _ _ _ (.inl hne2); assumption))) (fail)
      all_goals
        obtain ⟨e1, e2⟩ := Dsk.did (unhide HM).drew (by decide) (by decide) hpS p.2
        have HE1 := hide e1
        have HE2 := hide (((unhide HT).drew).trans e2)
        clear e1 e2
        go_wp2
        exact ⟨⟨m + 1, by omega, by go_num, by rw [unhide HE]; exact unhide HE1, unhide HE2⟩, by simp [intOf]; omega⟩
    · obtain rfl : m = P.length := by omega
      rw [List.take_length] at hd
      obtain ⟨d1, d2, d3⟩ := dsk_clear (by decide) hd
      obtain ⟨_, _, _, rfl, _, hc1, _⟩ := dsk_cells hd
      have H1 := hide d1
      have H2 := hide d2
      have HT := hide ht
      clear d1 d2 hd ht
      go_wp2
      exact bodyPost_end (results_none rfl _ _ _) rfl ⟨rfl, unhide H1, (unhide HT).trans (unhide H2)⟩

set_option maxRecDepth 10000 in
set_option maxHeartbeats 1000000 in
theorem rcrash_any {base g gs : Nat} {S : List Sct} {P : List (Nat × Sct)} (w : World) (h : Dsk 74 117 w base g gs S P) (hP : P.length ≤ 100001) (ka : Option Addr) (K : List Bool) (kc : Nat) (hK : BoolsA w ka K) (hs : K ≠ [] → ∀ b off, ka = some ⟨b, off, none⟩ → Safe 117 w base g gs b) (hl : K.length ≤ 100001) :
    Calls Try.prog 27 #[.pointer (some ⟨g, 0, none⟩), .slice ka K.length kc] w fun e w' => e = .returned (.tuple #[]) ∧ Dsk 74 117 w' base g gs (flushS S (keptP P K)) [] ∧ Turned 117 base g gs w w' := by
  have HD := hide h
  have HK := hide hK
  have HS := hide hs
  clear h hK hs
  go_enter Try.func27, Try.ntmps27
  go_wp2
  go_loopw [4] (fun t wr => ∃ m : Nat, m ≤ min K.length P.length ∧ t = .int .i64 m ∧ Dsk 74 117 wr base g gs (flushS S (keptP (P.take m) (K.take m))) P ∧ Turned 117 base g gs w wr) (fun t _ => min K.length P.length - (intOf t).toNat)
  case atStart => exact ⟨0, Nat.zero_le _, rfl, by simp only [List.take_zero]; exact unhide HD, Turned.refl _ _ _ _ _⟩
  case round =>
    obtain ⟨m, hm, rfl, hd, ht⟩ := hrel
    by_cases hlt : m < min K.length P.length
    · have hmP : m < P.length := by omega
      have hmK : m < K.length := by omega
      have hmP' : (m : Int) < (P.length : Int) := by omega
      have hmK' : (m : Int) < (K.length : Int) := by omega
      obtain ⟨p, hp⟩ : ∃ p, P[m]? = some p := ⟨P[m], List.getElem?_eq_getElem hmP⟩
      obtain ⟨b, hb⟩ : ∃ b, K[m]? = some b := ⟨K[m], List.getElem?_eq_getElem hmK⟩
      obtain ⟨kb, koff, rfl, hc0⟩ := (unhide HK) (by intro e; rw [List.map_eq_nil_iff] at e; subst e; simp at hmK)
      obtain ⟨s1, s2, s3, s4⟩ := (unhide HS) (by rintro rfl; simp at hmK) kb koff rfl
      have hcm : wr.cell? ⟨kb, koff + m, none⟩ = some (.bool b) := by
        rw [World.cell?_of_block (w := w) (a := ⟨kb, koff + m, none⟩) (ht.block kb s1 s2 s3 s4)]
        exact hc0 m (.bool b) (by rw [List.getElem?_map, hb]; rfl)
      have HE := hide (fun hbt : b = true => (kept_snoc P K m p b hp hb).trans (by rw [hbt, if_pos rfl]))
      have HE2 := hide (fun hbf : b = false => (kept_snoc P K m p b hp hb).trans (by rw [hbf, if_neg (by simp), List.append_nil]))
      obtain ⟨gp, cap, c0, c1, cp, rp, th, hpS, hne1, hne2⟩ := dsk_at (by decide) (by decide) hd hp
      have HT := hide ht
      have HM := hide hd
      have hu36 := Try.underlying75
      have hz36 : (Try.prog.info? 75).map (·.size) = some (bytes p.2).length := by rw [bytes_len]; exact Try.size75
      have hl36 := bytes_len p.2
      have ho36 := bytes_one p.2
      have hpS' : (p.1 : Int) < ((flushS S (keptP (P.take m) (K.take m))).length : Int) := by omega
      clear hp hb hd ht hc0 s4 hlt
      cases b with
      | true =>
        have HF : Hid (flushS S (keptP (P.take (m + 1)) (K.take (m + 1))) = (flushS S (keptP (P.take m) (K.take m))).set p.1 p.2) := by
          show _ = _
          rw [unhide HE rfl, flushS_snoc]
        clear HE HE2
        generalize flushS S (keptP (P.take m) (K.take m)) = L at *
        go_wp2_with fail
        go_region_held3 (fun W => W.cell? ⟨g, 0, none⟩ = some (.slice (some ⟨gs, 0, none⟩) L.length L.length) ∧ W.cell? ⟨g, 1, none⟩ = some (.slice (some ⟨gp, 0, none⟩) P.length cap) ∧ W.cell? ⟨gp, m * 65, none⟩ = some (.int .i64 p.1) ∧ W.rangeAt gp (m * 65 + 1) (bytes p.2) ∧ W.there gs (p.1 * 64) 64)
          ((go_split_ands; (refine ⟨?_, ?_, ?_, ?_, ?_⟩) <;> first | assumption | (rw [cell_sets_other _ _ _ _ _ _ hne1]; assumption) | (rw [cell_sets_other _ _ _ _ _ _ hne2]; assumption) | (refine World.there_setCells ?_ _ _ _; assumption) | (refine World.rangeAt_setCells_apart ?_ _ _ _ (.inl hne2); assumption))) (fail)
        all_goals
          obtain ⟨e1, e2⟩ := Dsk.did (unhide HM).drew (by decide) (by decide) hpS p.2
          have HE1 := hide e1
          have HE2 := hide (((unhide HT).drew).trans e2)
          clear e1 e2
          go_wp2
          exact ⟨⟨m + 1, by omega, by go_num, by rw [unhide HF]; exact unhide HE1, unhide HE2⟩, by simp [intOf]; omega⟩
      | false =>
        have HF : Hid (keptP (P.take (m + 1)) (K.take (m + 1)) = keptP (P.take m) (K.take m)) := unhide HE2 rfl
        clear HE HE2
        go_wp2
        go_roundw
        case rel => exact ⟨m + 1, by omega, by go_num, by rw [unhide HF]; exact unhide HM, unhide HT⟩
        case measure => simp [intOf]; omega
    · have hx : m = min K.length P.length := by omega
      rw [kept_short P K m hx] at hd
      obtain ⟨d1, d2, d3⟩ := dsk_clear (by decide) hd
      obtain ⟨_, _, _, rfl, _, hc1, _⟩ := dsk_cells hd
      have H1 := hide d1
      have H2 := hide d2
      have HT := hide ht
      clear d1 d2 hd ht
      by_cases hy : m < P.length
      · have hy' : (m : Int) < (P.length : Int) := by omega
        have hy2 : ¬ (m : Int) < (K.length : Int) := by omega
        clear hx hlt
        go_wp2
        exact bodyPost_end (results_none rfl _ _ _) rfl ⟨rfl, unhide H1, (unhide HT).trans (unhide H2)⟩
      · have hy' : ¬ (m : Int) < (P.length : Int) := by omega
        clear hx hlt
        go_wp2
        exact bodyPost_end (results_none rfl _ _ _) rfl ⟨rfl, unhide H1, (unhide HT).trans (unhide H2)⟩
end Go.Proofs.Ytfceileohkngnaa
