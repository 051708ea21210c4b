/- Own texts in one: Mem, Leaf, Build, Eq. -/
import Derived.Test.YtfceileohkngnaaMA
import Derived.Deep.MidRow
import Derived.Deep.WholeRow
import Derived.Laws.ResultCell
import Derived.Test.YtfceileohkngnaaProg
import Derived.WalkKit
import Derived.WalkSpells
import Derived.LoopTactic
import Derived.Deep.RegionLaw
/- Sectors as values, rows of sectors in one block, pending writes in one row, and what a call may turn of memory. -/
namespace Go.Proofs.Ytfceileohkngnaa
open Go.RowKit
set_option linter.unusedVariables false

/-- A sector: 64 bytes. -/
abbrev Sct : Type := { l : List Int // l.length = 64 ∧ ∀ x ∈ l, 0 ≤ x ∧ x ≤ 255 }
def bytes (s : Sct) : List Value := s.1.map (Value.int .u8)
/-- A sector as one value. -/
def sv (s : Sct) : Value := .agg (bytes s).toArray
theorem bytes_len (s : Sct) : (bytes s).length = 64 := by unfold bytes; rw [List.length_map]; exact s.2.1
theorem bytes_one (s : Sct) : ∀ u ∈ bytes s, u.oneCell' = true := by
  intro u hu
  obtain ⟨x, _, rfl⟩ := List.mem_map.1 hu
  rfl
theorem sv_cells (s : Sct) : (sv s).cells = (bytes s).toArray := rfl
def fullS (v : Int) (h : 0 ≤ v ∧ v ≤ 255) : Sct := ⟨List.replicate 64 v, by simp, fun x hx => by rw [List.eq_of_mem_replicate hx]; exact h⟩
def zeroS : Sct := fullS 0 (by omega)
theorem bytes_full (v : Int) (h : 0 ≤ v ∧ v ≤ 255) : bytes (fullS v h) = List.replicate 64 (.int .u8 v) := by unfold bytes fullS; simp
theorem bytes_get (s : Sct) (j : Nat) (h : j < 64) : (bytes s)[j]? = some (.int .u8 (s.1.getD j 0)) := by
  have := s.2.1
  unfold bytes
  rw [List.getElem?_map, List.getD_eq_getElem?_getD, List.getElem?_eq_getElem (by omega)]; rfl
theorem sct_byte (s : Sct) (j : Nat) (h : j < 64) : 0 ≤ s.1.getD j 0 ∧ s.1.getD j 0 ≤ 255 := by
  have := s.2.1
  rw [List.getD_eq_getElem?_getD, List.getElem?_eq_getElem (by omega)]
  exact s.2.2 _ (List.getElem_mem _)
def setS (s : Sct) (j : Nat) (v : Int) (h : 0 ≤ v ∧ v ≤ 255) : Sct := ⟨s.1.set j v, by rw [List.length_set]; exact s.2.1, fun x hx => by
  rcases List.mem_or_eq_of_mem_set hx with h' | h'
  · exact s.2.2 x h'
  · rw [h']; exact h⟩
theorem bytes_set (s : Sct) (j : Nat) (v : Int) (h : 0 ≤ v ∧ v ≤ 255) : bytes (setS s j v h) = (bytes s).set j (.int .u8 v) := by unfold bytes setS; simp [List.map_set]

/-! ### stores of many cells -/
theorem heap_setCells_other (b : Nat) : ∀ (us : List Value) (o : Nat) (w : World) (k : Nat), k ≠ b → (w.setCells b o us).heap[k]? = w.heap[k]?
  | [], _, _, _, _ => rfl
  | u :: r, o, w, k, h => by
    rw [World.setCells, heap_setCells_other b r (o + 1) _ k h]
    exact Below.heap_setCell _ _ _ _ h
theorem size_setCells (b : Nat) : ∀ (us : List Value) (o : Nat) (w : World), (w.setCells b o us).heap.size = w.heap.size
  | [], _, _ => rfl
  | u :: r, o, w => by rw [World.setCells, size_setCells b r (o + 1)]; simp [World.setCell]
theorem os_setCells (b : Nat) : ∀ (us : List Value) (o : Nat) (w : World), (w.setCells b o us).os = w.os ∧ (w.setCells b o us).tape = w.tape ∧ (w.setCells b o us).output = w.output
  | [], _, _ => ⟨rfl, rfl, rfl⟩
  | u :: r, o, w => by rw [World.setCells]; exact os_setCells b r (o + 1) _

/-- Block g is a row of n cells, none frozen. -/
def Row (w : World) (e : TypeId) (g n : Nat) : Prop := ∃ cur, w.heap[g]? = some (.cells cur e (0, 0)) ∧ cur.size = n

theorem Row.lt {w : World} {e : TypeId} {g n : Nat} (h : Row w e g n) : g < w.heap.size := by
  obtain ⟨cur, hg, _⟩ := h
  rcases Nat.lt_or_ge g w.heap.size with h | h
  · exact h
  · rw [Array.getElem?_eq_none h] at hg; cases hg
theorem Row.of_block {w w' : World} {e : TypeId} {g n : Nat} (h : Row w e g n) (k : w'.heap[g]? = w.heap[g]?) : Row w' e g n := by
  obtain ⟨cur, hg, r⟩ := h
  exact ⟨cur, by rw [k]; exact hg, r⟩
theorem Row.set {w : World} {e : TypeId} {g n : Nat} (h : Row w e g n) (j : Nat) (u : Value) : Row (w.setCell ⟨g, j, none⟩ u) e g n := by
  obtain ⟨cur, hg, r⟩ := h
  refine ⟨cur.setIfInBounds j u, ?_, by simpa using r⟩
  simp only [World.setCell, Array.getElem?_modify, if_true, hg, Option.map_some]
  rfl
theorem Row.sets {e : TypeId} {g n : Nat} : ∀ (us : List Value) (o : Nat) {w : World}, Row w e g n → Row (w.setCells g o us) e g n
  | [], _, _, h => h
  | u :: r, o, w, h => by rw [World.setCells]; exact Row.sets r (o + 1) (h.set o u)
theorem Row.there {w : World} {e : TypeId} {g n : Nat} (h : Row w e g n) (o m : Nat) (hm : o + m ≤ n) : w.there g o m := by
  obtain ⟨cur, hg, r⟩ := h
  intro j hj
  refine ⟨?_, by simp [World.frozen?, hg]⟩
  rw [cell_of_row w g (o + j) cur e (0, 0) hg, Array.getElem?_eq_getElem (by omega)]; rfl
theorem Row.frozen {w : World} {e : TypeId} {g n : Nat} (h : Row w e g n) (j : Nat) : w.frozen? ⟨g, j, none⟩ = false := by
  obtain ⟨cur, hg, r⟩ := h
  simp [World.frozen?, hg]

/-- The sectors S lie one behind the other in block g. -/
def SecsAt (w : World) (e : TypeId) (g : Nat) (S : List Sct) : Prop := Row w e g (S.length * 64) ∧ ∀ i s, S[i]? = some s → w.rangeAt g (i * 64) (bytes s)

theorem SecsAt.lt {w : World} {e : TypeId} {g : Nat} {S : List Sct} (h : SecsAt w e g S) : g < w.heap.size := h.1.lt
theorem range_of_block {w w' : World} {g o : Nat} {cs : List Value} (h : w.rangeAt g o cs) (k : w'.heap[g]? = w.heap[g]?) : w'.rangeAt g o cs := by
  intro j v hv
  rw [World.cell?_of_block (w := w) (a := ⟨g, o + j, none⟩) k]
  exact h j v hv
theorem SecsAt.of_block {w w' : World} {e : TypeId} {g : Nat} {S : List Sct} (h : SecsAt w e g S) (k : w'.heap[g]? = w.heap[g]?) : SecsAt w' e g S :=
  ⟨h.1.of_block k, fun i s hs => range_of_block (h.2 i s hs) k⟩
theorem SecsAt.there {w : World} {e : TypeId} {g : Nat} {S : List Sct} (h : SecsAt w e g S) {i : Nat} (hi : i < S.length) : w.there g (i * 64) 64 :=
  h.1.there _ _ (by omega)
theorem SecsAt.set {w : World} {e : TypeId} {g : Nat} {S : List Sct} (h : SecsAt w e g S) {i : Nat} (hi : i < S.length) (s : Sct) : SecsAt (w.setCells g (i * 64) (bytes s)) e g (S.set i s) := by
  refine ⟨by rw [List.length_set]; exact h.1.sets _ _, fun k t hk => ?_⟩
  rw [List.getElem?_set] at hk
  by_cases hik : i = k
  · subst hik
    rw [if_pos rfl, if_pos hi] at hk
    cases hk
    exact World.rangeAt_setCells_same _ _ _ _ (by rw [bytes_len]; exact h.there hi)
  · rw [if_neg hik] at hk
    refine World.rangeAt_setCells_apart (h.2 k t hk) _ _ _ (.inr ?_)
    rw [bytes_len, bytes_len]
    omega
theorem SecsAt.below {w w' : World} {e : TypeId} {g : Nat} {S : List Sct} (h : SecsAt w e g S) (hb : Below w.heap.size w w') : SecsAt w' e g S := h.of_block (hb.block g h.lt)

/-! ### pending writes -/
def wcells (p : Nat × Sct) : List Value := .int .i64 p.1 :: bytes p.2
/-- A pending write as one value. -/
def wv (p : Nat × Sct) : Value := .agg (wcells p).toArray
theorem wcells_len (p : Nat × Sct) : (wcells p).length = 65 := by unfold wcells; rw [List.length_cons, bytes_len]
theorem wcells_one (p : Nat × Sct) : ∀ u ∈ wcells p, u.oneCell' = true := by
  intro u hu
  rcases List.mem_cons.1 hu with rfl | hu
  · rfl
  · exact bytes_one _ u hu
def flatP (P : List (Nat × Sct)) : List Value := P.flatMap wcells
theorem flatP_len (P : List (Nat × Sct)) : (flatP P).length = P.length * 65 := by
  induction P with
  | nil => rfl
  | cons p r ih =>
    show (wcells p ++ flatP r).length = _
    rw [List.length_append, wcells_len, ih, List.length_cons]; omega
theorem flatP_get (P : List (Nat × Sct)) : ∀ (k : Nat) (p : Nat × Sct) (j : Nat), P[k]? = some p → j < 65 → (flatP P)[k * 65 + j]? = (wcells p)[j]? := by
  induction P with
  | nil => intro k p j h; simp at h
  | cons q r ih =>
    intro k p j h hj
    show (wcells q ++ flatP r)[k * 65 + j]? = _
    cases k with
    | zero =>
      simp only [List.getElem?_cons_zero, Option.some.injEq] at h
      subst h
      rw [Nat.zero_mul, Nat.zero_add, List.getElem?_append_left (by rw [wcells_len]; exact hj)]
    | succ k =>
      rw [List.getElem?_cons_succ] at h
      rw [List.getElem?_append_right (by rw [wcells_len]; omega), wcells_len, show (k + 1) * 65 + j - 65 = k * 65 + j by omega]
      exact ih k p j h hj
theorem flatP_app (P Q : List (Nat × Sct)) : flatP (P ++ Q) = flatP P ++ flatP Q := by unfold flatP; rw [List.flatMap_append]

/-- What the k-th pending write looks like in memory. -/
theorem own_at {w : World} {base : Nat} {e : TypeId} {v : Value} {P : List (Nat × Sct)} (h : w.ownsRow base e 65 v P.length (flatP P)) {k : Nat} {p : Nat × Sct} (hk : P[k]? = some p) :
    ∃ gp cap, v = .slice (some ⟨gp, 0, none⟩) P.length cap ∧ base ≤ gp ∧ P.length ≤ cap ∧ (∃ cur, w.heap[gp]? = some (.cells cur e (0, 0))) ∧ w.rangeAt gp (k * 65) (wcells p) := by
  have hkl : k < P.length := (List.getElem?_eq_some_iff.1 hk).1
  rcases h.2 with ⟨_, h0⟩ | ⟨g, cap, cur, hv, hb, hg, hnc, hcm, hcs, htk⟩
  · omega
  · refine ⟨g, cap, hv, hb, hnc, ⟨cur, hg⟩, fun j u hj => ?_⟩
    have hj65 : j < 65 := by have := (List.getElem?_eq_some_iff.1 hj).1; rwa [wcells_len] at this
    rw [cell_of_row w g (k * 65 + j) cur e (0, 0) hg]
    have := flatP_get P k p j hk hj65
    rw [hj, ← htk, List.getElem?_take] at this
    split at this
    · simpa using this
    · cases this
theorem range_head {w : World} {g o : Nat} {p : Nat × Sct} (h : w.rangeAt g o (wcells p)) : w.cell? ⟨g, o, none⟩ = some (.int .i64 p.1) := by
  have := h 0 (.int .i64 p.1) rfl
  simpa using this
theorem range_tail {w : World} {g o : Nat} {p : Nat × Sct} (h : w.rangeAt g o (wcells p)) : w.rangeAt g (o + 1) (bytes p.2) := by
  intro j v hv
  have := h (j + 1) v (by unfold wcells; rw [List.getElem?_cons_succ]; exact hv)
  rw [show o + 1 + j = o + (j + 1) by omega]; exact this

/-- A row that the call owns stays, where its block stays. -/
theorem own_of_block {w w' : World} {base : Nat} {e : TypeId} {size : Nat} {v : Value} {n : Nat} {xs : List Value} (h : w.ownsRow base e size v n xs) (k : ∀ g, v.ownBlock = some g → w'.heap[g]? = w.heap[g]?) : w'.ownsRow base e size v n xs := by
  obtain ⟨hl, h2⟩ := h
  refine ⟨hl, ?_⟩
  rcases h2 with h2 | ⟨g, cap, cur, hv, hb, hg, r⟩
  · exact .inl h2
  · exact .inr ⟨g, cap, cur, hv, hb, by rw [k g (by rw [hv]; rfl)]; exact hg, r⟩
theorem own_block {w : World} {base : Nat} {e : TypeId} {size : Nat} {v : Value} {n : Nat} {xs : List Value} (h : w.ownsRow base e size v n xs) {g : Nat} (hg : v.ownBlock = some g) : base ≤ g ∧ ∃ cur, w.heap[g]? = some (.cells cur e (0, 0)) := by
  rcases h.2 with ⟨rfl, _⟩ | ⟨g', cap, cur, rfl, hb, hh, _⟩
  · simp [Value.ownBlock] at hg
  · simp [Value.ownBlock] at hg
    subst hg
    exact ⟨hb, cur, hh⟩

theorem lt_of_get {w : World} {g : Nat} {o : Obj} (h : w.heap[g]? = some o) : g < w.heap.size := by
  rcases Nat.lt_or_ge g w.heap.size with h' | h'
  · exact h'
  · rw [Array.getElem?_eq_none h'] at h; cases h

/-! ### a disk in memory; what a call on it turns -/
/-- At g a disk: its sectors S in block gs, its pending writes P. -/
def Dsk (tD tW : TypeId) (w : World) (base g gs : Nat) (S : List Sct) (P : List (Nat × Sct)) : Prop :=
  ∃ pv, w.heap[g]? = some (.cells #[.slice (some ⟨gs, 0, none⟩) S.length S.length, pv] tD (0, 0)) ∧ base ≤ g ∧ base ≤ gs ∧ SecsAt w 75 gs S ∧ w.ownsRow base tW 65 pv P.length (flatP P) ∧ (∀ p ∈ P, p.1 < S.length) ∧ S.length ≤ 4096

/-- Nothing has turned but block g, block gs and, from base on, rows of type tW. -/
structure Turned (tW : TypeId) (base g gs : Nat) (w w' : World) : Prop where
  os : w'.os = w.os
  tape : w'.tape = w.tape
  output : w'.output = w.output
  size : w.heap.size ≤ w'.heap.size
  block : ∀ b, b < w.heap.size → b ≠ g → b ≠ gs → (b < base ∨ ∀ cur fr, w.heap[b]? ≠ some (.cells cur tW fr)) → w'.heap[b]? = w.heap[b]?

theorem Turned.refl (tW : TypeId) (base g gs : Nat) (w : World) : Turned tW base g gs w w := ⟨rfl, rfl, rfl, Nat.le_refl _, fun _ _ _ _ _ => rfl⟩
theorem Turned.trans {tW : TypeId} {base g gs : Nat} {a b c : World} (h : Turned tW base g gs a b) (k : Turned tW base g gs b c) : Turned tW base g gs a c := by
  refine ⟨k.os.trans h.os, k.tape.trans h.tape, k.output.trans h.output, Nat.le_trans h.size k.size, fun i hi h1 h2 h3 => ?_⟩
  have e := h.block i hi h1 h2 h3
  rw [k.block i (Nat.lt_of_lt_of_le hi h.size) h1 h2 (by rw [e]; exact h3), e]
theorem Turned.of_below {tW : TypeId} {base g gs : Nat} {w w' : World} (h : Below w.heap.size w w') : Turned tW base g gs w w' :=
  ⟨h.os, h.tape, h.output, h.size, fun b hb _ _ _ => h.block b hb⟩
theorem Turned.below {tW : TypeId} {base g gs : Nat} {w w' : World} (h : Turned tW base g gs w w') (hb : base ≤ w.heap.size) (h1 : base ≤ g) (h2 : base ≤ gs) : Below base w w' :=
  ⟨h.os, h.tape, h.output, h.size, fun k hk => h.block k (by omega) (by omega) (by omega) (.inl hk)⟩
theorem Turned.drew {tW : TypeId} {base g gs : Nat} {w w' : World} (h : Turned tW base g gs w w') : Turned tW base g gs w w'.drew := ⟨h.os, h.tape, h.output, h.size, h.block⟩

/-- A disk stands where nothing of its own has turned. -/
theorem Dsk.below {tD tW : TypeId} {w w' : World} {base g gs : Nat} {S : List Sct} {P : List (Nat × Sct)} (h : Dsk tD tW w base g gs S P) (hb : Below w.heap.size w w') : Dsk tD tW w' base g gs S P := by
  obtain ⟨pv, hg, h1, h2, hS, hP, r⟩ := h
  refine ⟨pv, by rw [hb.block g (lt_of_get hg)]; exact hg, h1, h2, hS.below hb, own_of_block hP (fun k hk => ?_), r⟩
  obtain ⟨_, cur, hc⟩ := own_block hP hk
  exact hb.block k (lt_of_get hc)
theorem Dsk.lt {tD tW : TypeId} {w : World} {base g gs : Nat} {S : List Sct} {P : List (Nat × Sct)} (h : Dsk tD tW w base g gs S P) : g < w.heap.size ∧ gs < w.heap.size ∧ base ≤ g ∧ base ≤ gs := by
  obtain ⟨pv, hg, h1, h2, hS, r⟩ := h
  exact ⟨lt_of_get hg, hS.lt, h1, h2⟩

theorem cell_sets_other (w : World) (b o : Nat) (us : List Value) (b' j : Nat) (h : b' ≠ b) : (w.setCells b o us).cell? ⟨b', j, none⟩ = w.cell? ⟨b', j, none⟩ :=
  World.cell?_of_block (w := w) (a := ⟨b', j, none⟩) (heap_setCells_other b us o w b' h)
theorem Dsk.ne {tD tW : TypeId} {w : World} {base g gs : Nat} {S : List Sct} {P : List (Nat × Sct)} (h : Dsk tD tW w base g gs S P) (ht : tD ≠ 75) : g ≠ gs := by
  obtain ⟨pv, hg, _, _, ⟨⟨cur, hs, _⟩, _⟩, _⟩ := h
  rintro rfl
  rw [hg] at hs
  cases hs
  exact ht rfl
/-- A pending write is done. -/
theorem Dsk.did {tD tW : TypeId} {w : World} {base g gs : Nat} {S : List Sct} {P : List (Nat × Sct)} (h : Dsk tD tW w base g gs S P) (ht : tD ≠ 75) (hw : tW ≠ 75) {i : Nat} (hi : i < S.length) (s : Sct) : Dsk tD tW (w.setCells gs (i * 64) (bytes s)) base g gs (S.set i s) P ∧ Turned tW base g gs w (w.setCells gs (i * 64) (bytes s)) := by
  have hne := h.ne ht
  obtain ⟨pv, hg, h1, h2, hS, hP, h3, h4⟩ := h
  obtain ⟨o1, o2, o3⟩ := os_setCells gs (bytes s) (i * 64) w
  refine ⟨⟨pv, ?_, h1, h2, hS.set hi s, own_of_block hP (fun k hk => ?_), by simpa using h3, by simpa using h4⟩, ⟨o1, o2, o3, by rw [size_setCells]; exact Nat.le_refl _, fun b hb e1 e2 e3 => heap_setCells_other _ _ _ _ _ e2⟩⟩
  · rw [heap_setCells_other _ _ _ _ _ hne, hg, List.length_set]
  · obtain ⟨_, cur, hc⟩ := own_block hP hk
    refine heap_setCells_other _ _ _ _ _ ?_
    rintro rfl
    obtain ⟨⟨cur', hs, _⟩, _⟩ := hS
    rw [hc] at hs
    cases hs
    exact hw rfl
theorem Dsk.drew {tD tW : TypeId} {w : World} {base g gs : Nat} {S : List Sct} {P : List (Nat × Sct)} (h : Dsk tD tW w base g gs S P) : Dsk tD tW w.drew base g gs S P := h.below (Below.drew (Below.refl _ _))

/-! ### the walk's laws for sectors -/
section
variable {P : Program} {ops : Array Oper} {rest : List Oper} {a : Act} {w : World} {Q : Exit → Act → World → Prop} {dst : Option Tmp} {ty : TypeId} {pos : String} {af : Array Edge}

theorem wpList_loadS (hu : P.underlying 75 = some (.array 64 5)) (hi : (P.info? 75).map (·.size) = some 64) (x : Operand) (b o : Nat) (s : Sct) (hx : a.eval x = .pointer (some ⟨b, o, none⟩)) (hc : w.rangeAt b o (bytes s))
    (h : wpList P ops Q rest (a.put dst (sv s)) w) : wpList P ops Q (⟨dst, .load 75 x, ty, pos, af, none⟩ :: rest) a w :=
  wpList_load_mid rfl 75 x rfl b o hx (bytes s) _ hc hu rfl (by rw [bytes_len]; exact hi) h

theorem wpList_storeS (hi : (P.info? 75).map (·.size) = some 64) (x y : Operand) (b o : Nat) (s : Sct) (hx : a.eval x = .pointer (some ⟨b, o, none⟩)) (hy : a.eval y = sv s) (ht : w.there b o 64)
    (h : ∀ w1, Hid (w1 = w.setCells b o (bytes s)) → wpList P ops Q rest (a.put dst undef) w1) : wpList P ops Q (⟨dst, .store 75 x y, ty, pos, af, none⟩ :: rest) a w := by
  have hz : (bytes s).toArray.size = 64 := by rw [List.size_toArray, bytes_len]
  exact wpList_store_mid rfl 75 x y rfl b o (bytes s).toArray hx hy (by rw [hz]; exact ht) (by rw [hz]; exact hi) (all_oneCell_toArray (bytes_one s)) (h _ rfl)

theorem wpList_allocT (t : TypeId) (i : TypeInfo) (z : Value) (hi : P.info? t = some i) (hz : i.zero = some z)
    (h : ∀ w1, Below w.heap.size w w1 → w1.heap.size = w.heap.size + 1 → w1.heap[w.heap.size]? = some (.cells z.cells t (0, 0)) → wpList P ops Q rest (a.put dst (.pointer (some ⟨w.heap.size, 0, none⟩))) w1) :
    wpList P ops Q (⟨dst, .alloc t, ty, pos, af, none⟩ :: rest) a w := by
  refine wpList_plain rfl fun K hK => ?_
  have hr : (Instr.alloc t true (.tuple #[])).run P w = .ok (.pointer (some ⟨w.heap.size, 0, none⟩)) (w.alloc (.cells z.cells t)) := by
    simp [Instr.alloc, zeroValue, typeInfo, hi, hz, newVar, newRow]
  unfold Oper.wp execOp
  simp only [Sem.run_bind, hr, Result.andThen_ok, Sem.run_pure]
  exact hK _ _ (h _ (below_alloc (Below.refl _ _) _) (by simp) (heap_alloc_last _ _))
end

end Go.Proofs.Ytfceileohkngnaa

/- Contracts of the leaves: full, Mod, Len, Pending, has. -/
namespace Go.Proofs.Ytfceileohkngnaa
open Go.RowKit
set_option linter.unusedVariables false

theorem Try.info75 : (Try.prog.info? 75).map (fun i => (i.zero, i.size, i.bytes)) = some (some (.agg (Array.replicate 64 (.int .u8 0))), 64, 64) := by kernel_rfl
theorem Try.size75 : (Try.prog.info? 75).map (·.size) = some 64 := by kernel_rfl
theorem Try.zero75 : ∃ i, Try.prog.info? 75 = some i ∧ i.zero = some (sv zeroS) := by
  obtain ⟨i, hi, hz, _⟩ := info_parts Try.info75
  refine ⟨i, hi, hz.trans ?_⟩
  unfold sv zeroS; rw [bytes_full, List.toArray_replicate]

theorem ret_bool {a b : Bool} (h : a = b) : Ending.returned (.bool a) = .returned (.bool b) := by rw [h]
/-- A sector's variable, just made. -/
theorem secs_new {w1 : World} {e : TypeId} {g : Nat} {s : Sct} (h : w1.heap[g]? = some (.cells (sv s).cells e (0, 0))) : SecsAt w1 e g [s] := by
  rw [sv_cells] at h
  refine ⟨⟨_, h, by rw [List.size_toArray, bytes_len]; rfl⟩, fun i t ht => ?_⟩
  obtain ⟨rfl, rfl⟩ : i = 0 ∧ t = s := by
    cases i with
    | zero => simpa using ht.symm
    | succ i => simp at ht
  intro j v hv
  rw [cell_of_row w1 g (0 * 64 + j) _ e (0, 0) h]
  simpa using hv

theorem secs_range {w : World} {e : TypeId} {g : Nat} {s : Sct} (h : SecsAt w e g [s]) : w.rangeAt g 0 (bytes s) := by simpa using h.2 0 s rfl
theorem secs_there {w : World} {e : TypeId} {g : Nat} {s : Sct} (h : SecsAt w e g [s]) : w.there g 0 64 := by simpa using h.there (i := 0) (by simp)
theorem secs_store {w : World} {e : TypeId} {g : Nat} {s : Sct} (h : SecsAt w e g [s]) (t : Sct) : SecsAt (w.setCells g 0 (bytes t)) e g [t] := by simpa using h.set (i := 0) (by simp) t
theorem secs_byte {w : World} {e : TypeId} {g : Nat} {s : Sct} (h : SecsAt w e g [s]) (j : Nat) (hj : j < 64) : w.cell? ⟨g, j, none⟩ = some (.int .u8 (s.1.getD j 0)) := by
  have := secs_range h j _ (bytes_get s j hj)
  simpa using this
theorem secs_poke {w : World} {e : TypeId} {g : Nat} {s : Sct} (h : SecsAt w e g [s]) (j : Nat) (hj : j < 64) (v : Int) (hv : 0 ≤ v ∧ v ≤ 255) : SecsAt (w.setCell ⟨g, j, none⟩ (.int .u8 v)) e g [setS s j v hv] := by
  refine ⟨h.1.set j _, fun i t ht => ?_⟩
  obtain ⟨rfl, rfl⟩ : i = 0 ∧ t = setS s j v hv := by
    cases i with
    | zero => simpa using ht.symm
    | succ i => simp at ht
  intro k u hu
  rw [bytes_set, List.getElem?_set] at hu
  rw [Nat.zero_mul, Nat.zero_add]
  by_cases hjk : j = k
  · subst hjk
    rw [if_pos rfl, if_pos (by rw [bytes_len]; exact hj)] at hu
    cases hu
    exact World.cell?_setCell_same _ _ _ (secs_byte h j hj)
  · rw [if_neg hjk] at hu
    rw [World.cell?_setCell_other _ _ _ _ (by intro e; cases e; exact hjk rfl)]
    have := secs_range h k u hu
    simpa using this

theorem below_sets {w0 w' : World} (h : Below w0.heap.size w0 w') (g o : Nat) (us : List Value) (hg : w0.heap.size ≤ g) : Below w0.heap.size w0 (w'.setCells g o us) := by
  obtain ⟨h1, h2, h3⟩ := os_setCells g us o w'
  exact ⟨h1.trans h.os, h2.trans h.tape, h3.trans h.output, by rw [size_setCells]; exact h.size, fun k hk => by rw [heap_setCells_other g us o w' k (by omega)]; exact h.block k hk⟩

theorem results_cell {fn : Func} {p : Tmp} {ty : TypeId} (h : fn.results = #[.cell p ty]) (tmps : Array Value) (P : Program) (w : World) :
    (results fn tmps).run P w = ((asAddr (tmps.getD p undef)).run P w).andThen fun a w₁ => (loadVar ty a).run P w₁ := by
  simp only [results, h]
  simp [Sem.run_bind, Result.andThen]

theorem run_loadS (w : World) (b o : Nat) (s : Sct) (hc : w.rangeAt b o (bytes s)) : (loadVar 75 ⟨b, o, none⟩).run Try.prog w = .ok (sv s) w :=
  run_loadVar_mid w b o 75 (bytes s) _ hc Try.underlying75 rfl (by rw [bytes_len]; exact Try.size75)

theorem ret_cellS {fn : Func} {p : Tmp} (hf : fn.results = #[.cell p 75]) {a : Act} {w : World} {b o : Nat} {s : Sct} {R : Ending → World → Prop} (hd : a.defers = []) (hp : a.tmps.getD p undef = .pointer (some ⟨b, o, none⟩)) (hr : w.rangeAt b o (bytes s))
    (hR : R (.returned (sv s)) w) : bodyPost Try.prog fn R .ret a w := by
  refine bodyPost_ret (v := sv s) ?_ hd hR
  rw [results_cell hf, hp]
  simp only [asAddr, Sem.run_pure, Result.andThen_ok, run_loadS w b o s hr]
theorem ret_cellS2 {fn : Func} {p u : Tmp} (hf : fn.results = #[.cell p 75, .tmp u]) {a : Act} {w : World} {b o : Nat} {s : Sct} {x : Value} {R : Ending → World → Prop} (hd : a.defers = []) (hp : a.tmps.getD p undef = .pointer (some ⟨b, o, none⟩)) (hu : a.tmps.getD u undef = x) (hr : w.rangeAt b o (bytes s))
    (hR : R (.returned (.tuple #[sv s, x])) w) : bodyPost Try.prog fn R .ret a w := by
  refine bodyPost_ret (v := .tuple #[sv s, x]) ?_ hd hR
  rw [results_cell_tmp hf, hp, hu]
  simp only [asAddr, Sem.run_pure, Result.andThen_ok, run_loadS w b o s hr]

def putAll (s : Sct) (v : Int) (hv : 0 ≤ v ∧ v ≤ 255) : Nat → Sct
  | 0 => s
  | k + 1 => setS (putAll s v hv k) k v hv
theorem putAll_get (s : Sct) (v : Int) (hv : 0 ≤ v ∧ v ≤ 255) : ∀ k j, j < 64 → (putAll s v hv k).1[j]? = if j < k then some v else s.1[j]?
  | 0, j, h => by simp [putAll]
  | k + 1, j, h => by
    show ((putAll s v hv k).1.set k v)[j]? = _
    rw [List.getElem?_set, putAll_get s v hv k j h]
    have hl := (putAll s v hv k).2.1
    by_cases hkj : k = j
    · subst hkj; simp; omega
    · rw [if_neg hkj]
      by_cases h1 : j < k
      · rw [if_pos h1, if_pos (by omega)]
      · rw [if_neg h1, if_neg (by omega)]
theorem putAll_full (s : Sct) (v : Int) (hv : 0 ≤ v ∧ v ≤ 255) : putAll s v hv 64 = fullS v hv := by
  apply Subtype.ext
  apply List.ext_getElem?
  intro j
  have h1 := (putAll s v hv 64).2.1
  have h2 := (fullS v hv).2.1
  by_cases hj : j < 64
  · rw [putAll_get s v hv 64 j hj, if_pos hj]
    unfold fullS
    rw [List.getElem?_replicate, if_pos hj]
  · rw [List.getElem?_eq_none (by omega), List.getElem?_eq_none (by omega)]

end Go.Proofs.Ytfceileohkngnaa

/- A pending write is built, as a value and as a row of one. -/
namespace Go.Proofs.Ytfceileohkngnaa
open Go.RowKit
set_option linter.unusedVariables false

theorem wv_cells (p : Nat × Sct) : (wv p).cells = (wcells p).toArray := rfl

theorem put_fold_get (off : Nat) : ∀ (l : List Value) (k : Nat) (cs : Array Value) (t : Nat), ((l.zipIdx k).foldl (fun cs x => cs.setIfInBounds (off + x.2) x.1) cs)[t]? = if off + k ≤ t ∧ t < off + k + l.length ∧ t < cs.size then l[t - off - k]? else cs[t]?
  | [], k, cs, t => by
    rw [if_neg (by simp; omega)]; rfl
  | c :: r, k, cs, t => by
    rw [List.zipIdx_cons, List.foldl_cons, put_fold_get off r (k + 1) _ t]
    simp only [Array.size_setIfInBounds, List.length_cons]
    by_cases h1 : off + (k + 1) ≤ t ∧ t < off + (k + 1) + r.length ∧ t < cs.size
    · rw [if_pos h1, if_pos (by omega), show t - off - k = (t - off - (k + 1)) + 1 by omega, List.getElem?_cons_succ]
    · rw [if_neg h1]
      by_cases h2 : t = off + k
      · subst h2
        by_cases h3 : off + k < cs.size
        · rw [if_pos (by omega), show off + k - off - k = 0 by omega]
          simp [h3]
        · rw [if_neg (by omega), Array.getElem?_eq_none (by simpa using h3), Array.getElem?_eq_none (by simpa using h3)]
      · rw [if_neg (by omega), Array.getElem?_setIfInBounds, if_neg (fun e => h2 e.symm)]

theorem fill_put (place : Nat → Option (Nat × Nat)) (cs : Array Value) (i off n : Nat) (v : Value) (rest : List (Nat × Value)) (hp : place i = some (off, n)) (hv : v.cells.size = n) (ho : off + n ≤ cs.size) :
    ∃ cs', Instr.fill place cs ((i, v) :: rest) = Instr.fill place cs' rest ∧ cs'.size = cs.size ∧ ∀ t, cs'[t]? = if off ≤ t ∧ t < off + n then v.cells[t - off]? else cs[t]? := by
  refine ⟨v.cells.zipIdx.foldl (fun cs x => cs.setIfInBounds (off + x.2) x.1) cs, ?_, ?_, ?_⟩
  · rw [Instr.fill, hp]
    simp only
    rw [if_neg (by simp [hv]; omega)]
  · rw [← Array.foldl_toList, Array.toList_zipIdx]
    generalize v.cells.toList.zipIdx 0 = l
    clear hv hp ho
    induction l generalizing cs with
    | nil => rfl
    | cons x r ih => rw [List.foldl_cons, ih]; simp
  · intro t
    rw [← Array.foldl_toList, Array.toList_zipIdx, put_fold_get off v.cells.toList 0 cs t]
    rw [Nat.add_zero, Nat.sub_zero, Array.length_toList, hv, Array.getElem?_toList]
    by_cases h : off ≤ t ∧ t < off + n
    · rw [if_pos ⟨h.1, h.2, by omega⟩, if_pos h]
    · rw [if_neg (fun e => h ⟨e.1, e.2.1⟩), if_neg h]

theorem wcells_toArray_get (p : Nat × Sct) (t : Nat) : (wcells p).toArray[t]? = (wcells p)[t]? := by simp

/-- The two fields of a write are laid. -/
theorem fill_two (place : Nat → Option (Nat × Nat)) (h0 : place 0 = some (0, 1)) (h1 : place 1 = some (1, 64)) (p : Nat × Sct) (cs : Array Value) (hc : cs.size = 65) :
    Instr.fill place cs [(0, .int .i64 p.1), (1, .agg (bytes p.2).toArray)] = some (wcells p).toArray := by
  obtain ⟨c1, e1, s1, g1⟩ := fill_put place cs 0 0 1 (.int .i64 p.1) [(1, .agg (bytes p.2).toArray)] h0 rfl (by omega)
  obtain ⟨c2, e2, s2, g2⟩ := fill_put place c1 1 1 64 (.agg (bytes p.2).toArray) [] h1 (by simp [Value.cells, bytes_len]) (by omega)
  rw [e1, e2]
  show some c2 = _
  congr 1
  apply Array.ext_getElem?
  intro t
  rw [g2 t, wcells_toArray_get]
  by_cases ht : 1 ≤ t ∧ t < 1 + 64
  · rw [if_pos ht]
    obtain ⟨u, rfl⟩ : ∃ u, t = u + 1 := ⟨t - 1, by omega⟩
    unfold wcells
    simp [Value.cells]
  · rw [if_neg ht, g1 t]
    by_cases ht0 : 0 ≤ t ∧ t < 0 + 1
    · rw [if_pos ht0]
      obtain rfl : t = 0 := by omega
      rfl
    · rw [if_neg ht0, Array.getElem?_eq_none (by omega), List.getElem?_eq_none (by rw [wcells_len]; omega)]

theorem fill_one (p : Nat × Sct) (cs : Array Value) (hc : cs.size = 65) : Instr.fill (fun i => some (i * 65, 65)) cs [(0, wv p)] = some (wcells p).toArray := by
  obtain ⟨c1, e1, s1, g1⟩ := fill_put (fun i => some (i * 65, 65)) cs 0 0 65 (wv p) [] rfl (by rw [wv_cells, List.size_toArray, wcells_len]) (by omega)
  rw [e1]
  show some c1 = _
  congr 1
  apply Array.ext_getElem?
  intro t
  rw [g1 t, wcells_toArray_get]
  by_cases ht : 0 ≤ t ∧ t < 0 + 65
  · rw [if_pos ht, wv_cells, Nat.sub_zero]; simp
  · rw [if_neg ht, Array.getElem?_eq_none (by omega), List.getElem?_eq_none (by rw [wcells_len]; omega)]

/-- 'write{place: i, bytes: s}'. -/
theorem run_buildW {P : Program} {t : TypeId} {i : TypeInfo} (hi : P.info? t = some i) (hz : i.zero = some (wv (0, zeroS))) {f0 f1 : Field} (hu : P.underlying t = some (.struct #[f0, f1])) (h0 : f0.offset = 0) (h1 : f1.offset = 1)
    (s0 : (P.info? f0.type).map (·.size) = some 1) (s1 : (P.info? f1.type).map (·.size) = some 64) (p : Nat × Sct) (w : World) :
    (Instr.build t #[(0, .int .i64 p.1), (1, .agg (bytes p.2).toArray)]).run P w = .ok (wv p) w := by
  obtain ⟨j0, hj0, hs0⟩ := Option.map_eq_some_iff.1 s0
  obtain ⟨j1, hj1, hs1⟩ := Option.map_eq_some_iff.1 s1
  have hf := fill_two (fun x => ([(f0.offset, j0.size), (f1.offset, j1.size)] : List (Nat × Nat))[x]?) (by rw [h0, hs0]; rfl) (by rw [h1, hs1]; rfl) p (wv (0, zeroS)).cells (by rw [wv_cells, List.size_toArray, wcells_len])
  simp only [Instr.build, zeroValue, typeInfo, Sem.run_bind, run_program, hi, hz, Sem.run_pure, Result.andThen_ok, run_underlying hu, sizeOf]
  simp [hj0, hj1, wv]
  have hf' : Instr.fill (fun x => ([(f0.offset, j0.size), (f1.offset, j1.size)] : List (Nat × Nat))[x]?) (Value.agg (wcells (0, zeroS)).toArray).cells [(0, .int .i64 p.1), (1, .agg (bytes p.2).toArray)] = some (wcells p).toArray := hf
  rw [hf']
  rfl

theorem run_buildSliceW {P : Program} {tS t : TypeId} {i : TypeInfo} (hu : P.underlying tS = some (.slice t)) (hi : P.info? t = some i) (hz : i.zero = some (wv (0, zeroS))) (hs : i.size = 65) (p : Nat × Sct) (w : World) :
    (Instr.buildSlice tS 1 #[(0, wv p)]).run P w = .ok (.slice (some ⟨w.heap.size, 0, none⟩) 1 1) (w.alloc (.cells (wcells p).toArray t)) := by
  have hf := fill_one p ((Array.range (1 * 65)).map ((wv (0, zeroS)).cells[· % (wv (0, zeroS)).cells.size]!)) (by simp)
  simp only [Instr.buildSlice, Sem.run_bind, Result.andThen_ok, run_underlying hu]
  simp only [sizeOf, typeInfo, Sem.run_bind, hi, Sem.run_pure, Result.andThen_ok, run_program, hs]
  rw [if_neg (by omega), if_neg (by omega)]
  simp only [zeroValue, typeInfo, Sem.run_bind, run_program, hi, hz, Sem.run_pure, Result.andThen_ok]
  rw [hf]
  simp [newRow]

/-- append onto a row of the call's own, as one step of a region that draws. -/
theorem step_append_row {P : Program} {ops : Array Oper} {w : World} {o : Oper} {a : Act} {K : Act → World → Prop} {Q : Exit → Act → World → Prop} {E : Prop} (hg : o.guard = none) (s x : Operand) (t : TypeId)
    (ho : o.op = .call { callee := .builtin .append, args := #[s, x], argTypes := #[t, t] })
    (base : Nat) (e : TypeId) (i : TypeInfo) (z : Value) (size bytes : Nat) (ht : P.underlying t = some (.slice e)) (hi : P.info? e = some i) (hz : i.zero = some z)
    (hsize : i.size = size) (hby : i.bytes = bytes) (hzs : z.cells.size = size) (hsz : 0 < size) (hb1 : 0 < bytes)
    (v : Value) (n : Nat) (xs : List Value) (hs : a.eval s = v) (hown : w.ownsRow base e size v n xs)
    (A : Option Addr) (m c : Nat) (vs : List Value) (hx : a.eval x = .slice A m c) (hl : vs.length = m * size) (hR : RowA w A vs) (h1 : ∀ u ∈ vs, u.oneCell' = true)
    (hbytes : (n + m) * bytes ≤ 140737488355328) (hbase : base ≤ w.heap.size)
    (h : ∀ v' w', w'.ownsRow base e size v' (n + m) (xs ++ vs) → w.grownBy w' v.ownBlock → (v'.ownBlock = v.ownBlock ∨ v'.ownBlock = some w.heap.size) → K (a.put o.dst v') w') :
    if Region.wanted o (yielded ops a.tmps) = true then o.wp P a w K Q else E := by
  rw [if_pos (by simp [Region.wanted, hg])]
  exact wp_append_row s x t ho base e i z size bytes ht hi hz hsize hby hzs hsz hb1 v n xs hs hown A m c vs hx hl hR h1 hbytes hbase h

/-- Behind the append: the new row's header is stored into the disk. -/
def ldS (x : Value) : Sem Value := Instr.loadAt 75 x
theorem ldS_of (x : Value) : Instr.loadAt 75 x = ldS x := rfl
theorem ldS_is (b o : Nat) (s : Sct) (W : World) (h : W.rangeAt b o (bytes s)) : (ldS (.pointer (some ⟨b, o, none⟩))).run Try.prog W = .ok (.agg (bytes s).toArray) W :=
  run_loadAt_mid W b o 75 (bytes s) _ h Try.underlying75 rfl (by rw [bytes_len]; exact Try.size75)

def bld (t : TypeId) (x y : Nat × Value) : Sem Value := Instr.build t #[x, y]
def bsl (t : TypeId) (x : Nat × Value) : Sem Value := Instr.buildSlice t 1 #[x]

theorem box_sv (P : Program) (t : TypeId) (s : Sct) (w : World) : (Instr.box t (sv s)).run P w = .ok (.pointer (some ⟨w.heap.size, 0, none⟩)) (w.alloc (.cells (bytes s).toArray t)) := by
  simp [Instr.box, newVar, newRow, sv_cells]
theorem secs_box (w : World) (t : TypeId) (s : Sct) : SecsAt (w.alloc (.cells (bytes s).toArray t)) t w.heap.size [s] := secs_new (by rw [heap_alloc_last, sv_cells])
theorem row_box (w : World) (t : TypeId) (p : Nat × Sct) : RowA (w.alloc (.cells (wcells p).toArray t)) (some ⟨w.heap.size, 0, none⟩) (wcells p) := by
  refine fun _ => ⟨w.heap.size, 0, rfl, fun j u hj => ?_⟩
  rw [cell_of_row _ _ _ _ _ _ (heap_alloc_last w _)]
  simpa using hj

end Go.Proofs.Ytfceileohkngnaa

/- Two sectors are held against each other. -/
namespace Go.Proofs.Ytfceileohkngnaa
open Go.RowKit
set_option linter.unusedVariables false

theorem Try.size5 : (Try.prog.info? 5).map (·.size) = some 1 := by kernel_rfl

theorem part5 (xs : List Value) (k : Nat) (x : Value) (h : xs[k]? = some x) (w : World) : (part 5 xs.toArray k).run Try.prog w = .ok x w := by
  simp [part, isAgg, run_underlying Try.underlying5, h]

theorem drop_cons (l : List Int) (k : Nat) (h : k < l.length) : l.drop k = l.getD k 0 :: l.drop (k + 1) := by
  rw [List.drop_eq_getElem_cons h, List.getD_eq_getElem?_getD, List.getElem?_eq_getElem h]; rfl

theorem eq_loop (d : Nat) (s t : Sct) (w : World) : ∀ n k, k + n = 64 → Sem.run Try.prog (forIn (List.range' k n 1) ((none : Option Bool), ()) fun i __s => do
            let __do_lift ← part 5 (bytes s).toArray (i * 1)
            let __do_lift_1 ← part 5 (bytes t).toArray (i * 1)
            let __do_lift ← Op.equalIn (d + 1) 5 __do_lift __do_lift_1
            if (!__do_lift) = true then pure (ForInStep.done (some false, ())) else pure (ForInStep.yield (none, ()))) w = .ok (if s.1.drop k = t.1.drop k then (none, ()) else (some false, ())) w
  | 0, k, h => by
    have h1 := s.2.1
    have h2 := t.2.1
    rw [List.range'_zero, List.forIn_nil, Sem.run_pure, if_pos (by rw [List.drop_of_length_le (by omega), List.drop_of_length_le (by omega)])]
  | n + 1, k, h => by
    have h1 := s.2.1
    have h2 := t.2.1
    rw [List.range'_succ, List.forIn_cons]
    simp only [Sem.run_bind, Nat.mul_one, part5 _ _ _ (bytes_get s k (by omega)), part5 _ _ _ (bytes_get t k (by omega)), Result.andThen_ok, run_equalIn_int w d 5 .u8 .u8 _ _ Try.underlying5]
    by_cases hx : s.1.getD k 0 = t.1.getD k 0
    · have := eq_loop d s t w n (k + 1) (by omega)
      simp only [Nat.mul_one] at this
      rw [hx]
      simp only [BEq.rfl, Bool.not_true, Bool.false_eq_true, if_false, Sem.run_pure, Result.andThen_ok]
      rw [this]
      congr 1
      rw [drop_cons s.1 k (by omega), drop_cons t.1 k (by omega), hx]
      simp only [List.cons.injEq, true_and]
    · have hb : (s.1.getD k 0 == t.1.getD k 0) = false := by simpa using hx
      rw [hb]
      simp only [Bool.not_false, if_true, Sem.run_pure, Result.andThen_ok]
      rw [if_neg]
      rw [drop_cons s.1 k (by omega), drop_cons t.1 k (by omega)]
      intro e
      exact hx (List.cons.inj e).1

theorem run_equal_sct (d : Nat) (s t : Sct) (w : World) : (Op.equalIn (d + 1 + 1) 75 (.agg (bytes s).toArray) (.agg (bytes t).toArray)).run Try.prog w = .ok (decide (s = t)) w := by
  obtain ⟨j5, hj5, hs5⟩ := Option.map_eq_some_iff.1 Try.size5
  rw [Op.equalIn]
  simp only [Sem.run_bind, run_underlying Try.underlying75, Result.andThen_ok, sizeOf, typeInfo, run_program, hj5, Sem.run_pure, hs5]
  rw [Std.Legacy.Range.forIn_eq_forIn_range']
  have := eq_loop d s t w 64 0 (by omega)
  have e : List.range' [:64].start [:64].size [:64].step = List.range' 0 64 1 := rfl
  rw [e, this, List.drop_zero, List.drop_zero]
  by_cases h : s = t
  · subst h
    simp
  · have h' : ¬ s.1 = t.1 := fun e => h (Subtype.ext e)
    rw [if_neg h']
    simp [h]
theorem eql36 (s t : Sct) (w : World) : (Op.equalIn 10000 75 (.agg (bytes s).toArray) (.agg (bytes t).toArray)).run Try.prog w = .ok (decide (s = t)) w := run_equal_sct 9998 s t w
theorem eqGuard36 : Try.prog.eqGuardType Try.prog.depth 75 = false := by kernel_rfl
def bldZ : Sem Value := Instr.build 75 #[]
theorem bldZ_of (f : Nat × Operand → Nat × Value) : Instr.build 75 (Array.map f #[]) = bldZ := by
  unfold bldZ; simp only [List.map_toArray, List.map_nil]
theorem bldZ_of' : Instr.build 75 #[] = bldZ := rfl
theorem bldZ_is (w : World) : bldZ.run Try.prog w = .ok (.agg (bytes zeroS).toArray) w := by
  obtain ⟨i36, hi36, hz36⟩ := Try.zero75
  obtain ⟨j5, hj5, hs5⟩ := Option.map_eq_some_iff.1 Try.size5
  simp only [bldZ, Instr.build, zeroValue, typeInfo, Sem.run_bind, run_program, hi36, hz36, Sem.run_pure, Result.andThen_ok, run_underlying Try.underlying75, sizeOf, hj5, Instr.fill]
  rfl
theorem sv_is (s : Sct) : sv s = .agg (bytes s).toArray := rfl
end Go.Proofs.Ytfceileohkngnaa
