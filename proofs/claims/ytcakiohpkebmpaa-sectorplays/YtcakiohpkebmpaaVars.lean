/- A disk, and variables of sectors beside it. -/
import Derived.Test.YtcakiohpkebmpaaEq
namespace Go.Proofs.Ytcakiohpkebmpaa
open Go.RowKit
set_option linter.unusedVariables false

theorem Dsk.keep {tD tW : TypeId} {w w' : World} {base g gs : Nat} {S : List Sct} {P : List (Nat × Sct)} (h : Dsk tD tW w base g gs S P) (hg : w'.heap[g]? = w.heap[g]?) (hs : w'.heap[gs]? = w.heap[gs]?)
    (hp : ∀ (k : Nat) cur, w.heap[k]? = some (.cells cur tW (0, 0)) → w'.heap[k]? = w.heap[k]?) : Dsk tD tW w' base g gs S P := by
  obtain ⟨pv, h0, h1, h2, hS, hP, r⟩ := h
  refine ⟨pv, by rw [hg]; exact h0, h1, h2, hS.of_block hs, own_of_block hP (fun k hk => ?_), r⟩
  obtain ⟨_, cur, hc⟩ := own_block hP hk
  exact hp k cur hc

/-- A variable of sectors, beside the disk, made behind w0. -/
def Var (w0 w : World) (g gs : Nat) (e : TypeId) (b : Nat) (L : List Sct) : Prop := SecsAt w e b L ∧ b ≠ g ∧ b ≠ gs ∧ w0.heap.size ≤ b ∧ e ≠ 65
theorem Var.below {w0 w w' : World} {g gs : Nat} {e : TypeId} {b : Nat} {L : List Sct} (h : Var w0 w g gs e b L) (k : Below w.heap.size w w') : Var w0 w' g gs e b L := ⟨h.1.below k, h.2⟩
theorem Var.turned {w0 w w' : World} {base g gs : Nat} {e : TypeId} {b : Nat} {L : List Sct} (h : Var w0 w g gs e b L) (k : Turned 65 base g gs w w') : Var w0 w' g gs e b L := ⟨secs_turned h.1 k h.2.1 h.2.2.1 h.2.2.2.2, h.2⟩
theorem Var.ne {w0 w : World} {g gs : Nat} {e e' : TypeId} {b b' : Nat} {L L' : List Sct} (h : Var w0 w g gs e b L) (h' : Var w0 w g gs e' b' L') (k : e ≠ e') : b ≠ b' := by
  rintro rfl
  obtain ⟨⟨⟨cur, h1, _⟩, _⟩, _⟩ := h
  obtain ⟨⟨⟨cur', h2, _⟩, _⟩, _⟩ := h'
  rw [h1] at h2
  cases h2
  exact k rfl
/-- A store into one of them. -/
theorem St.store {w0 w : World} {g gs : Nat} {S : List Sct} {P : List (Nat × Sct)} {e : TypeId} {b : Nat} {L : List Sct} (h : St w0 w g gs S P) (v : Var w0 w g gs e b L) (o : Nat) (us : List Value) : St w0 (w.setCells b o us) g gs S P := by
  refine ⟨h.1.keep (heap_setCells_other _ _ _ _ _ (fun e => v.2.1 e.symm)) (heap_setCells_other _ _ _ _ _ (fun e => v.2.2.1 e.symm)) (fun k cur hc => heap_setCells_other _ _ _ _ _ ?_), below_sets h.2 _ _ _ v.2.2.2.1⟩
  rintro rfl
  obtain ⟨⟨⟨cur', h1, _⟩, _⟩, _, _, _, ht⟩ := v
  rw [h1] at hc
  cases hc
  exact ht rfl
theorem Var.store {w0 w : World} {g gs : Nat} {e : TypeId} {b : Nat} {L : List Sct} (v : Var w0 w g gs e b L) {i : Nat} (hi : i < L.length) (s : Sct) : Var w0 (w.setCells b (i * 64) (bytes s)) g gs e b (L.set i s) := ⟨v.1.set hi s, v.2⟩
theorem Var.store1 {w0 w : World} {g gs : Nat} {e : TypeId} {b : Nat} {t : Sct} (v : Var w0 w g gs e b [t]) (s : Sct) : Var w0 (w.setCells b 0 (bytes s)) g gs e b [s] := ⟨secs_store v.1 s, v.2⟩
theorem Var.other {w0 w : World} {g gs : Nat} {e : TypeId} {b : Nat} {L : List Sct} (v : Var w0 w g gs e b L) {b' : Nat} (hb : b ≠ b') (o : Nat) (us : List Value) : Var w0 (w.setCells b' o us) g gs e b L := ⟨v.1.of_block (heap_setCells_other _ _ _ _ _ hb), v.2⟩
theorem Var.new {w0 w w' : World} {g gs : Nat} {S : List Sct} {P : List (Nat × Sct)} {e : TypeId} {L : List Sct} (h : St w0 w g gs S P) (k : SecsAt w' e w.heap.size L) (he : e ≠ 65) : Var w0 w' g gs e w.heap.size L := by
  obtain ⟨h1, h2, _⟩ := h.1.lt
  exact ⟨k, by omega, by omega, h.2.size, he⟩
theorem Var.there {w0 w : World} {g gs : Nat} {e : TypeId} {b : Nat} {t : Sct} (v : Var w0 w g gs e b [t]) : w.there b 0 64 := secs_there v.1
theorem Var.range {w0 w : World} {g gs : Nat} {e : TypeId} {b : Nat} {t : Sct} (v : Var w0 w g gs e b [t]) : w.rangeAt b 0 (bytes t) := secs_range v.1
theorem Var.theres {w0 w : World} {g gs : Nat} {e : TypeId} {b : Nat} {L : List Sct} (v : Var w0 w g gs e b L) {i : Nat} (hi : i < L.length) : w.there b (i * 64) 64 := v.1.there hi
theorem Var.ranges {w0 w : World} {g gs : Nat} {e : TypeId} {b : Nat} {L : List Sct} (v : Var w0 w g gs e b L) {i : Nat} {s : Sct} (hi : L[i]? = some s) : w.rangeAt b (i * 64) (bytes s) := v.1.2 i s hi
theorem Var.lt {w0 w : World} {g gs : Nat} {e : TypeId} {b : Nat} {L : List Sct} (v : Var w0 w g gs e b L) : b < w.heap.size := v.1.lt

/-- A copy of bools in a block of the call's own. -/
theorem wpList_copyB {W : World} {ops : Array Oper} {rest : List Oper} {o : Oper} {a : Act} {Q : Exit → Act → World → Prop} (hgd : o.guard = none) (s x : Operand)
    (ho : o.op = .call { callee := .builtin .append, args := #[s, x], argTypes := #[32, 32] }) (N : Nat) (hN : N = W.heap.size)
    (hs : a.eval s = .slice (some ⟨N, 0, none⟩) 0 0) (A : Option Addr) (c : Nat) (K : List Bool) (hx : a.eval x = .slice A K.length c) (hR : BoolsA W A K) (hlen : K.length ≤ 100000)
    (h : ∀ g cap cur W', W.heap.size ≤ g → Below W.heap.size W W' → W'.heap[g]? = some (.cells cur 4 (0, 0)) → BoolsA W' (some ⟨g, 0, none⟩) K → wpList Try.prog ops Q rest (a.put o.dst (.slice (some ⟨g, 0, none⟩) K.length cap)) W') :
    wpList Try.prog ops Q (o :: rest) a (W.alloc (.cells #[] 4)) := by
  subst hN
  have hi4 : (Try.prog.info? 4).map (fun i => (i.zero, i.size, i.bytes)) = some (some (.bool false), 1, 1) := by kernel_rfl
  obtain ⟨i0, hi, hz0, hz1, hz2⟩ := info_parts hi4
  have hown : (W.alloc (.cells #[] 4)).ownsRow W.heap.size 4 1 (.slice (some ⟨W.heap.size, 0, none⟩) 0 0) 0 [] :=
    World.ownsRow_lit W #[] 0 (Nat.le_refl _) (by simp) (by simp)
  refine wpList_append_row hgd s x 32 ho W.heap.size 4 i0 (.bool false) 1 1 Try.underlying32 hi hz0 hz1 hz2 rfl (by decide) (by decide) _ 0 [] hs hown A K.length c (K.map Value.bool) hx (by simp)
    (rowA_below hR (below_alloc (Below.refl _ _) _)) (fun u hu => by obtain ⟨b, _, rfl⟩ := List.mem_map.1 hu; rfl) (by omega) (by simp) ?_
  intro v' W' hown' hgrow hat
  have hbel : Below W.heap.size W W' := (below_alloc (Below.refl _ _) _).grown hgrow (by simp) (fun k hk => by simp [Value.ownBlock] at hk; omega)
  rw [Nat.zero_add, List.nil_append] at hown'
  rcases hown'.2 with ⟨rfl, h0⟩ | ⟨g, cap, cur, rfl, hb, hg, hnc, hcm, hcs, htk⟩
  · rcases hat with h | h <;> simp [Value.ownBlock] at h
  · refine h g cap cur W' hb hbel hg (Blk.row (e := 4) (cap := cap) ⟨cur, hg, by omega, ?_⟩)
    rw [List.length_map]
    simpa using htk

theorem kept_app : ∀ (P : List (Nat × Sct)) (K : List Bool) (p : Nat × Sct), keptP (P ++ [p]) K = keptP P K ++ (if K.getD P.length false = true then [p] else [])
  | [], [], p => by simp [keptP]
  | [], c :: K, p => by cases c <;> simp [keptP]
  | q :: P, [], p => by simp [keptP]
  | q :: P, c :: K, p => by
    have := kept_app P K p
    simp only [List.cons_append, keptP, List.length_cons, List.getD_cons_succ, this]
    cases c <;> simp
theorem kept_read_in (S : List Sct) (P : List (Nat × Sct)) (K : List Bool) (j k : Nat) (s : Sct) (hk : P.length = k) (h : K.getD k false = true) : readS S (keptP (P ++ [(j, s)]) K) j = s := by
  rw [kept_app, hk, if_pos h, readS_snoc, if_pos rfl]
theorem kept_read_out (S : List Sct) (P : List (Nat × Sct)) (K : List Bool) (j k q : Nat) (s : Sct) (hk : P.length = k) (h : K.getD k false = false ∨ j ≠ q) : readS S (keptP (P ++ [(j, s)]) K) q = readS S (keptP P K) q := by
  rw [kept_app, hk]
  by_cases hb : K.getD k false = true
  · rw [if_pos hb, readS_snoc, if_neg]
    rcases h with h | h
    · rw [h] at hb; cases hb
    · exact h
  · rw [if_neg hb, List.append_nil]
end Go.Proofs.Ytcakiohpkebmpaa
