/- Sectors as values, rows of sectors in one block, pending writes in one row, and what a call may turn of memory. -/
import Derived.Test.YtpaolllkpmkgkaaBase
import Derived.Deep.MidRow
import Derived.Deep.WholeRow
import Derived.Laws.ResultCell
namespace Go.Proofs.Ytpaolllkpmkgkaa
open Go.RowKit
set_option linter.unusedVariables false

/-- A sector: 64 bytes. -/
abbrev Sct : Type := { l : List Int // l.length = 64 ∧ ∀ x ∈ l, 0 ≤ x ∧ x ≤ 255 }
def bytes (s : Sct) : List Value := s.1.map (Value.int .u8)
/-- A sector as one value. -/
def sv (s : Sct) : Value := .agg (bytes s).toArray
theorem bytes_len (s : Sct) : (bytes s).length = 64 := by unfold bytes; rw [List.length_map]; exact s.2.1
theorem bytes_one (s : Sct) : ∀ u ∈ bytes s, u.oneCell' = true := by
  intro u hu
  obtain ⟨x, _, rfl⟩ := List.mem_map.1 hu
  rfl
theorem sv_cells (s : Sct) : (sv s).cells = (bytes s).toArray := rfl
def fullS (v : Int) (h : 0 ≤ v ∧ v ≤ 255) : Sct := ⟨List.replicate 64 v, by simp, fun x hx => by rw [List.eq_of_mem_replicate hx]; exact h⟩
def zeroS : Sct := fullS 0 (by omega)
theorem bytes_full (v : Int) (h : 0 ≤ v ∧ v ≤ 255) : bytes (fullS v h) = List.replicate 64 (.int .u8 v) := by unfold bytes fullS; simp
theorem bytes_get (s : Sct) (j : Nat) (h : j < 64) : (bytes s)[j]? = some (.int .u8 (s.1.getD j 0)) := by
  have := s.2.1
  unfold bytes
  rw [List.getElem?_map, List.getD_eq_getElem?_getD, List.getElem?_eq_getElem (by omega)]; rfl
theorem sct_byte (s : Sct) (j : Nat) (h : j < 64) : 0 ≤ s.1.getD j 0 ∧ s.1.getD j 0 ≤ 255 := by
  have := s.2.1
  rw [List.getD_eq_getElem?_getD, List.getElem?_eq_getElem (by omega)]
  exact s.2.2 _ (List.getElem_mem _)
def setS (s : Sct) (j : Nat) (v : Int) (h : 0 ≤ v ∧ v ≤ 255) : Sct := ⟨s.1.set j v, by rw [List.length_set]; exact s.2.1, fun x hx => by
  rcases List.mem_or_eq_of_mem_set hx with h' | h'
  · exact s.2.2 x h'
  · rw [h']; exact h⟩
theorem bytes_set (s : Sct) (j : Nat) (v : Int) (h : 0 ≤ v ∧ v ≤ 255) : bytes (setS s j v h) = (bytes s).set j (.int .u8 v) := by unfold bytes setS; simp [List.map_set]

/-! ### stores of many cells -/
theorem heap_setCells_other (b : Nat) : ∀ (us : List Value) (o : Nat) (w : World) (k : Nat), k ≠ b → (w.setCells b o us).heap[k]? = w.heap[k]?
  | [], _, _, _, _ => rfl
  | u :: r, o, w, k, h => by
    rw [World.setCells, heap_setCells_other b r (o + 1) _ k h]
    exact Below.heap_setCell _ _ _ _ h
theorem size_setCells (b : Nat) : ∀ (us : List Value) (o : Nat) (w : World), (w.setCells b o us).heap.size = w.heap.size
  | [], _, _ => rfl
  | u :: r, o, w => by rw [World.setCells, size_setCells b r (o + 1)]; simp [World.setCell]
theorem os_setCells (b : Nat) : ∀ (us : List Value) (o : Nat) (w : World), (w.setCells b o us).os = w.os ∧ (w.setCells b o us).tape = w.tape ∧ (w.setCells b o us).output = w.output
  | [], _, _ => ⟨rfl, rfl, rfl⟩
  | u :: r, o, w => by rw [World.setCells]; exact os_setCells b r (o + 1) _

/-- Block g is a row of n cells, none frozen. -/
def Row (w : World) (e : TypeId) (g n : Nat) : Prop := ∃ cur, w.heap[g]? = some (.cells cur e (0, 0)) ∧ cur.size = n

theorem Row.lt {w : World} {e : TypeId} {g n : Nat} (h : Row w e g n) : g < w.heap.size := by
  obtain ⟨cur, hg, _⟩ := h
  rcases Nat.lt_or_ge g w.heap.size with h | h
  · exact h
  · rw [Array.getElem?_eq_none h] at hg; cases hg
theorem Row.of_block {w w' : World} {e : TypeId} {g n : Nat} (h : Row w e g n) (k : w'.heap[g]? = w.heap[g]?) : Row w' e g n := by
  obtain ⟨cur, hg, r⟩ := h
  exact ⟨cur, by rw [k]; exact hg, r⟩
theorem Row.set {w : World} {e : TypeId} {g n : Nat} (h : Row w e g n) (j : Nat) (u : Value) : Row (w.setCell ⟨g, j, none⟩ u) e g n := by
  obtain ⟨cur, hg, r⟩ := h
  refine ⟨cur.setIfInBounds j u, ?_, by simpa using r⟩
  simp only [World.setCell, Array.getElem?_modify, if_true, hg, Option.map_some]
  rfl
theorem Row.sets {e : TypeId} {g n : Nat} : ∀ (us : List Value) (o : Nat) {w : World}, Row w e g n → Row (w.setCells g o us) e g n
  | [], _, _, h => h
  | u :: r, o, w, h => by rw [World.setCells]; exact Row.sets r (o + 1) (h.set o u)
theorem Row.there {w : World} {e : TypeId} {g n : Nat} (h : Row w e g n) (o m : Nat) (hm : o + m ≤ n) : w.there g o m := by
  obtain ⟨cur, hg, r⟩ := h
  intro j hj
  refine ⟨?_, by simp [World.frozen?, hg]⟩
  rw [cell_of_row w g (o + j) cur e (0, 0) hg, Array.getElem?_eq_getElem (by omega)]; rfl
theorem Row.frozen {w : World} {e : TypeId} {g n : Nat} (h : Row w e g n) (j : Nat) : w.frozen? ⟨g, j, none⟩ = false := by
  obtain ⟨cur, hg, r⟩ := h
  simp [World.frozen?, hg]

/-- The sectors S lie one behind the other in block g. -/
def SecsAt (w : World) (e : TypeId) (g : Nat) (S : List Sct) : Prop := Row w e g (S.length * 64) ∧ ∀ i s, S[i]? = some s → w.rangeAt g (i * 64) (bytes s)

theorem SecsAt.lt {w : World} {e : TypeId} {g : Nat} {S : List Sct} (h : SecsAt w e g S) : g < w.heap.size := h.1.lt
theorem range_of_block {w w' : World} {g o : Nat} {cs : List Value} (h : w.rangeAt g o cs) (k : w'.heap[g]? = w.heap[g]?) : w'.rangeAt g o cs := by
  intro j v hv
  rw [World.cell?_of_block (w := w) (a := ⟨g, o + j, none⟩) k]
  exact h j v hv
theorem SecsAt.of_block {w w' : World} {e : TypeId} {g : Nat} {S : List Sct} (h : SecsAt w e g S) (k : w'.heap[g]? = w.heap[g]?) : SecsAt w' e g S :=
  ⟨h.1.of_block k, fun i s hs => range_of_block (h.2 i s hs) k⟩
theorem SecsAt.there {w : World} {e : TypeId} {g : Nat} {S : List Sct} (h : SecsAt w e g S) {i : Nat} (hi : i < S.length) : w.there g (i * 64) 64 :=
  h.1.there _ _ (by omega)
theorem SecsAt.set {w : World} {e : TypeId} {g : Nat} {S : List Sct} (h : SecsAt w e g S) {i : Nat} (hi : i < S.length) (s : Sct) : SecsAt (w.setCells g (i * 64) (bytes s)) e g (S.set i s) := by
  refine ⟨by rw [List.length_set]; exact h.1.sets _ _, fun k t hk => ?_⟩
  rw [List.getElem?_set] at hk
  by_cases hik : i = k
  · subst hik
    rw [if_pos rfl, if_pos hi] at hk
    cases hk
    exact World.rangeAt_setCells_same _ _ _ _ (by rw [bytes_len]; exact h.there hi)
  · rw [if_neg hik] at hk
    refine World.rangeAt_setCells_apart (h.2 k t hk) _ _ _ (.inr ?_)
    rw [bytes_len, bytes_len]
    omega
theorem SecsAt.below {w w' : World} {e : TypeId} {g : Nat} {S : List Sct} (h : SecsAt w e g S) (hb : Below w.heap.size w w') : SecsAt w' e g S := h.of_block (hb.block g h.lt)

/-! ### pending writes -/
def wcells (p : Nat × Sct) : List Value := .int .i64 p.1 :: bytes p.2
/-- A pending write as one value. -/
def wv (p : Nat × Sct) : Value := .agg (wcells p).toArray
theorem wcells_len (p : Nat × Sct) : (wcells p).length = 65 := by unfold wcells; rw [List.length_cons, bytes_len]
theorem wcells_one (p : Nat × Sct) : ∀ u ∈ wcells p, u.oneCell' = true := by
  intro u hu
  rcases List.mem_cons.1 hu with rfl | hu
  · rfl
  · exact bytes_one _ u hu
def flatP (P : List (Nat × Sct)) : List Value := P.flatMap wcells
theorem flatP_len (P : List (Nat × Sct)) : (flatP P).length = P.length * 65 := by
  induction P with
  | nil => rfl
  | cons p r ih =>
    show (wcells p ++ flatP r).length = _
    rw [List.length_append, wcells_len, ih, List.length_cons]; omega
theorem flatP_get (P : List (Nat × Sct)) : ∀ (k : Nat) (p : Nat × Sct) (j : Nat), P[k]? = some p → j < 65 → (flatP P)[k * 65 + j]? = (wcells p)[j]? := by
  induction P with
  | nil => intro k p j h; simp at h
  | cons q r ih =>
    intro k p j h hj
    show (wcells q ++ flatP r)[k * 65 + j]? = _
    cases k with
    | zero =>
      simp only [List.getElem?_cons_zero, Option.some.injEq] at h
      subst h
      rw [Nat.zero_mul, Nat.zero_add, List.getElem?_append_left (by rw [wcells_len]; exact hj)]
    | succ k =>
      rw [List.getElem?_cons_succ] at h
      rw [List.getElem?_append_right (by rw [wcells_len]; omega), wcells_len, show (k + 1) * 65 + j - 65 = k * 65 + j by omega]
      exact ih k p j h hj
theorem flatP_app (P Q : List (Nat × Sct)) : flatP (P ++ Q) = flatP P ++ flatP Q := by unfold flatP; rw [List.flatMap_append]

/-- What the k-th pending write looks like in memory. -/
theorem own_at {w : World} {base : Nat} {e : TypeId} {v : Value} {P : List (Nat × Sct)} (h : w.ownsRow base e 65 v P.length (flatP P)) {k : Nat} {p : Nat × Sct} (hk : P[k]? = some p) :
    ∃ gp cap, v = .slice (some ⟨gp, 0, none⟩) P.length cap ∧ base ≤ gp ∧ P.length ≤ cap ∧ (∃ cur, w.heap[gp]? = some (.cells cur e (0, 0))) ∧ w.rangeAt gp (k * 65) (wcells p) := by
  have hkl : k < P.length := (List.getElem?_eq_some_iff.1 hk).1
  rcases h.2 with ⟨_, h0⟩ | ⟨g, cap, cur, hv, hb, hg, hnc, hcm, hcs, htk⟩
  · omega
  · refine ⟨g, cap, hv, hb, hnc, ⟨cur, hg⟩, fun j u hj => ?_⟩
    have hj65 : j < 65 := by have := (List.getElem?_eq_some_iff.1 hj).1; rwa [wcells_len] at this
    rw [cell_of_row w g (k * 65 + j) cur e (0, 0) hg]
    have := flatP_get P k p j hk hj65
    rw [hj, ← htk, List.getElem?_take] at this
    split at this
    · simpa using this
    · cases this
theorem range_head {w : World} {g o : Nat} {p : Nat × Sct} (h : w.rangeAt g o (wcells p)) : w.cell? ⟨g, o, none⟩ = some (.int .i64 p.1) := by
  have := h 0 (.int .i64 p.1) rfl
  simpa using this
theorem range_tail {w : World} {g o : Nat} {p : Nat × Sct} (h : w.rangeAt g o (wcells p)) : w.rangeAt g (o + 1) (bytes p.2) := by
  intro j v hv
  have := h (j + 1) v (by unfold wcells; rw [List.getElem?_cons_succ]; exact hv)
  rw [show o + 1 + j = o + (j + 1) by omega]; exact this

/-- A row that the call owns stays, where its block stays. -/
theorem own_of_block {w w' : World} {base : Nat} {e : TypeId} {size : Nat} {v : Value} {n : Nat} {xs : List Value} (h : w.ownsRow base e size v n xs) (k : ∀ g, v.ownBlock = some g → w'.heap[g]? = w.heap[g]?) : w'.ownsRow base e size v n xs := by
  obtain ⟨hl, h2⟩ := h
  refine ⟨hl, ?_⟩
  rcases h2 with h2 | ⟨g, cap, cur, hv, hb, hg, r⟩
  · exact .inl h2
  · exact .inr ⟨g, cap, cur, hv, hb, by rw [k g (by rw [hv]; rfl)]; exact hg, r⟩
theorem own_block {w : World} {base : Nat} {e : TypeId} {size : Nat} {v : Value} {n : Nat} {xs : List Value} (h : w.ownsRow base e size v n xs) {g : Nat} (hg : v.ownBlock = some g) : base ≤ g ∧ ∃ cur, w.heap[g]? = some (.cells cur e (0, 0)) := by
  rcases h.2 with ⟨rfl, _⟩ | ⟨g', cap, cur, rfl, hb, hh, _⟩
  · simp [Value.ownBlock] at hg
  · simp [Value.ownBlock] at hg
    subst hg
    exact ⟨hb, cur, hh⟩

theorem lt_of_get {w : World} {g : Nat} {o : Obj} (h : w.heap[g]? = some o) : g < w.heap.size := by
  rcases Nat.lt_or_ge g w.heap.size with h' | h'
  · exact h'
  · rw [Array.getElem?_eq_none h'] at h; cases h

/-! ### a disk in memory; what a call on it turns -/
/-- At g a disk: its sectors S in block gs, its pending writes P. -/
def Dsk (tD tW : TypeId) (w : World) (base g gs : Nat) (S : List Sct) (P : List (Nat × Sct)) : Prop :=
  ∃ pv, w.heap[g]? = some (.cells #[.slice (some ⟨gs, 0, none⟩) S.length S.length, pv] tD (0, 0)) ∧ base ≤ g ∧ base ≤ gs ∧ SecsAt w 44 gs S ∧ w.ownsRow base tW 65 pv P.length (flatP P) ∧ (∀ p ∈ P, p.1 < S.length) ∧ S.length ≤ 4096

/-- Nothing has turned but block g, block gs and, from base on, rows of type tW. -/
structure Turned (tW : TypeId) (base g gs : Nat) (w w' : World) : Prop where
  os : w'.os = w.os
  tape : w'.tape = w.tape
  output : w'.output = w.output
  size : w.heap.size ≤ w'.heap.size
  block : ∀ b, b < w.heap.size → b ≠ g → b ≠ gs → (b < base ∨ ∀ cur fr, w.heap[b]? ≠ some (.cells cur tW fr)) → w'.heap[b]? = w.heap[b]?

theorem Turned.refl (tW : TypeId) (base g gs : Nat) (w : World) : Turned tW base g gs w w := ⟨rfl, rfl, rfl, Nat.le_refl _, fun _ _ _ _ _ => rfl⟩
theorem Turned.trans {tW : TypeId} {base g gs : Nat} {a b c : World} (h : Turned tW base g gs a b) (k : Turned tW base g gs b c) : Turned tW base g gs a c := by
  refine ⟨k.os.trans h.os, k.tape.trans h.tape, k.output.trans h.output, Nat.le_trans h.size k.size, fun i hi h1 h2 h3 => ?_⟩
  have e := h.block i hi h1 h2 h3
  rw [k.block i (Nat.lt_of_lt_of_le hi h.size) h1 h2 (by rw [e]; exact h3), e]
theorem Turned.of_below {tW : TypeId} {base g gs : Nat} {w w' : World} (h : Below w.heap.size w w') : Turned tW base g gs w w' :=
  ⟨h.os, h.tape, h.output, h.size, fun b hb _ _ _ => h.block b hb⟩
theorem Turned.below {tW : TypeId} {base g gs : Nat} {w w' : World} (h : Turned tW base g gs w w') (hb : base ≤ w.heap.size) (h1 : base ≤ g) (h2 : base ≤ gs) : Below base w w' :=
  ⟨h.os, h.tape, h.output, h.size, fun k hk => h.block k (by omega) (by omega) (by omega) (.inl hk)⟩
theorem Turned.drew {tW : TypeId} {base g gs : Nat} {w w' : World} (h : Turned tW base g gs w w') : Turned tW base g gs w w'.drew := ⟨h.os, h.tape, h.output, h.size, h.block⟩

/-- A disk stands where nothing of its own has turned. -/
theorem Dsk.below {tD tW : TypeId} {w w' : World} {base g gs : Nat} {S : List Sct} {P : List (Nat × Sct)} (h : Dsk tD tW w base g gs S P) (hb : Below w.heap.size w w') : Dsk tD tW w' base g gs S P := by
  obtain ⟨pv, hg, h1, h2, hS, hP, r⟩ := h
  refine ⟨pv, by rw [hb.block g (lt_of_get hg)]; exact hg, h1, h2, hS.below hb, own_of_block hP (fun k hk => ?_), r⟩
  obtain ⟨_, cur, hc⟩ := own_block hP hk
  exact hb.block k (lt_of_get hc)
theorem Dsk.lt {tD tW : TypeId} {w : World} {base g gs : Nat} {S : List Sct} {P : List (Nat × Sct)} (h : Dsk tD tW w base g gs S P) : g < w.heap.size ∧ gs < w.heap.size ∧ base ≤ g ∧ base ≤ gs := by
  obtain ⟨pv, hg, h1, h2, hS, r⟩ := h
  exact ⟨lt_of_get hg, hS.lt, h1, h2⟩

theorem cell_sets_other (w : World) (b o : Nat) (us : List Value) (b' j : Nat) (h : b' ≠ b) : (w.setCells b o us).cell? ⟨b', j, none⟩ = w.cell? ⟨b', j, none⟩ :=
  World.cell?_of_block (w := w) (a := ⟨b', j, none⟩) (heap_setCells_other b us o w b' h)
theorem Dsk.ne {tD tW : TypeId} {w : World} {base g gs : Nat} {S : List Sct} {P : List (Nat × Sct)} (h : Dsk tD tW w base g gs S P) (ht : tD ≠ 44) : g ≠ gs := by
  obtain ⟨pv, hg, _, _, ⟨⟨cur, hs, _⟩, _⟩, _⟩ := h
  rintro rfl
  rw [hg] at hs
  cases hs
  exact ht rfl
/-- A pending write is done. -/
theorem Dsk.did {tD tW : TypeId} {w : World} {base g gs : Nat} {S : List Sct} {P : List (Nat × Sct)} (h : Dsk tD tW w base g gs S P) (ht : tD ≠ 44) (hw : tW ≠ 44) {i : Nat} (hi : i < S.length) (s : Sct) : Dsk tD tW (w.setCells gs (i * 64) (bytes s)) base g gs (S.set i s) P ∧ Turned tW base g gs w (w.setCells gs (i * 64) (bytes s)) := by
  have hne := h.ne ht
  obtain ⟨pv, hg, h1, h2, hS, hP, h3, h4⟩ := h
  obtain ⟨o1, o2, o3⟩ := os_setCells gs (bytes s) (i * 64) w
  refine ⟨⟨pv, ?_, h1, h2, hS.set hi s, own_of_block hP (fun k hk => ?_), by simpa using h3, by simpa using h4⟩, ⟨o1, o2, o3, by rw [size_setCells]; exact Nat.le_refl _, fun b hb e1 e2 e3 => heap_setCells_other _ _ _ _ _ e2⟩⟩
  · rw [heap_setCells_other _ _ _ _ _ hne, hg, List.length_set]
  · obtain ⟨_, cur, hc⟩ := own_block hP hk
    refine heap_setCells_other _ _ _ _ _ ?_
    rintro rfl
    obtain ⟨⟨cur', hs, _⟩, _⟩ := hS
    rw [hc] at hs
    cases hs
    exact hw rfl
theorem Dsk.drew {tD tW : TypeId} {w : World} {base g gs : Nat} {S : List Sct} {P : List (Nat × Sct)} (h : Dsk tD tW w base g gs S P) : Dsk tD tW w.drew base g gs S P := h.below (Below.drew (Below.refl _ _))

/-! ### the walk's laws for sectors -/
section
variable {P : Program} {ops : Array Oper} {rest : List Oper} {a : Act} {w : World} {Q : Exit → Act → World → Prop} {dst : Option Tmp} {ty : TypeId} {pos : String} {af : Array Edge}

theorem wpList_loadS (hu : P.underlying 44 = some (.array 64 5)) (hi : (P.info? 44).map (·.size) = some 64) (x : Operand) (b o : Nat) (s : Sct) (hx : a.eval x = .pointer (some ⟨b, o, none⟩)) (hc : w.rangeAt b o (bytes s))
    (h : wpList P ops Q rest (a.put dst (sv s)) w) : wpList P ops Q (⟨dst, .load 44 x, ty, pos, af, none⟩ :: rest) a w :=
  wpList_load_mid rfl 44 x rfl b o hx (bytes s) _ hc hu rfl (by rw [bytes_len]; exact hi) h

theorem wpList_storeS (hi : (P.info? 44).map (·.size) = some 64) (x y : Operand) (b o : Nat) (s : Sct) (hx : a.eval x = .pointer (some ⟨b, o, none⟩)) (hy : a.eval y = sv s) (ht : w.there b o 64)
    (h : ∀ w1, Hid (w1 = w.setCells b o (bytes s)) → wpList P ops Q rest (a.put dst undef) w1) : wpList P ops Q (⟨dst, .store 44 x y, ty, pos, af, none⟩ :: rest) a w := by
  have hz : (bytes s).toArray.size = 64 := by rw [List.size_toArray, bytes_len]
  exact wpList_store_mid rfl 44 x y rfl b o (bytes s).toArray hx hy (by rw [hz]; exact ht) (by rw [hz]; exact hi) (all_oneCell_toArray (bytes_one s)) (h _ rfl)

theorem wpList_allocT (t : TypeId) (i : TypeInfo) (z : Value) (hi : P.info? t = some i) (hz : i.zero = some z)
    (h : ∀ w1, Below w.heap.size w w1 → w1.heap.size = w.heap.size + 1 → w1.heap[w.heap.size]? = some (.cells z.cells t (0, 0)) → wpList P ops Q rest (a.put dst (.pointer (some ⟨w.heap.size, 0, none⟩))) w1) :
    wpList P ops Q (⟨dst, .alloc t, ty, pos, af, none⟩ :: rest) a w := by
  refine wpList_plain rfl fun K hK => ?_
  have hr : (Instr.alloc t true (.tuple #[])).run P w = .ok (.pointer (some ⟨w.heap.size, 0, none⟩)) (w.alloc (.cells z.cells t)) := by
    simp [Instr.alloc, zeroValue, typeInfo, hi, hz, newVar, newRow]
  unfold Oper.wp execOp
  simp only [Sem.run_bind, hr, Result.andThen_ok, Sem.run_pure]
  exact hK _ _ (h _ (below_alloc (Below.refl _ _) _) (by simp) (heap_alloc_last _ _))
end

end Go.Proofs.Ytpaolllkpmkgkaa
