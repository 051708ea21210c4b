/- TwoD disks beside each other. -/
import Derived.Test.YtfceileohkngnaaMG
import Derived.Test.YtfceileohkngnaaMH
namespace Go.Proofs.Ytfceileohkngnaa
open Go.RowKit
set_option linter.unusedVariables false
set_option maxRecDepth 4000

theorem block_ne {w : World} {a b : Nat} {c c' : Array Value} {t t' : TypeId} {f f' : Nat × Nat} (h : w.heap[a]? = some (.cells c t f)) (k : w.heap[b]? = some (.cells c' t' f')) (ht : t ≠ t') : a ≠ b := by
  rintro rfl
  rw [h] at k
  cases k
  exact ht rfl

/-- A call on one disk leaves the other one as it was. -/
theorem Dsk.beside {tD tW tD' tW' : TypeId} {w w' : World} {base g gs base' g' gs' : Nat} {S S' : List Sct} {P P' : List (Nat × Sct)} (d : Dsk tD tW w base g gs S P) (d' : Dsk tD' tW' w base' g' gs' S' P') (hne : gs ≠ gs')
    (t : Turned tW' base' g' gs' w w') (t1 : tD ≠ tD') (t2 : tD ≠ 75) (t3 : tD' ≠ 75) (t4 : tW ≠ tW') (t5 : tW ≠ 75) (t6 : tW' ≠ 75) (t7 : tD ≠ tW') (t8 : tW ≠ tD') : Dsk tD tW w' base g gs S P := by
  obtain ⟨pv', g1, _, _, ⟨⟨cur', s1, _⟩, _⟩, _⟩ := d'
  have hd := d
  obtain ⟨pv, g2, _, _, ⟨⟨cur, s2, _⟩, _⟩, _⟩ := d
  have nt : ∀ {b : Nat} {c : Array Value} {e : TypeId} {f : Nat × Nat}, w.heap[b]? = some (.cells c e f) → e ≠ tW' → ∀ cur fr, w.heap[b]? ≠ some (.cells cur tW' fr) := by
    intro b c e f h1 h2 cur fr h3
    rw [h1] at h3
    cases h3
    exact h2 rfl
  refine hd.keep (t.block g (lt_of_get g2) (block_ne g2 g1 t1) (block_ne g2 s1 t2) (.inr (nt g2 t7))) (t.block gs (lt_of_get s2) (block_ne s2 g1 (fun e => t3 e.symm)) hne (.inr (nt s2 (fun e => t6 e.symm)))) (fun k c hc => t.block k (lt_of_get hc) (block_ne hc g1 t8) (block_ne hc s1 t5) (.inr (nt hc t4)))

/-- The program's disk and the reference's, alike. -/
structure TwoD (w : World) (b2 : Nat) (wr : World) (g gs h hs : Nat) (S : List Sct) (P : List (Nat × Sct)) : Prop where
  one : Dsk 102 120 wr w.heap.size g gs S P
  two : Dsk 74 117 wr b2 h hs S P
  ne : gs ≠ hs
  le : w.heap.size ≤ b2
  bel : Below w.heap.size w wr

theorem TwoD.below {w : World} {b2 : Nat} {wr w' : World} {g gs h hs : Nat} {S : List Sct} {P : List (Nat × Sct)} (t : TwoD w b2 wr g gs h hs S P) (k : Below wr.heap.size wr w') : TwoD w b2 w' g gs h hs S P :=
  ⟨t.one.below k, t.two.below k, t.ne, t.le, below_then t.bel k⟩

/-- The one has gone ahead. -/
structure Half (w : World) (b2 : Nat) (wr : World) (g gs h hs : Nat) (S S' : List Sct) (P P' : List (Nat × Sct)) : Prop where
  one : Dsk 102 120 wr w.heap.size g gs S' P'
  two : Dsk 74 117 wr b2 h hs S P
  ne : gs ≠ hs
  le : w.heap.size ≤ b2
  bel : Below w.heap.size w wr
theorem Half.below {w : World} {b2 : Nat} {wr w' : World} {g gs h hs : Nat} {S S' : List Sct} {P P' : List (Nat × Sct)} (t : Half w b2 wr g gs h hs S S' P P') (k : Below wr.heap.size wr w') : Half w b2 w' g gs h hs S S' P P' :=
  ⟨t.one.below k, t.two.below k, t.ne, t.le, below_then t.bel k⟩
theorem TwoD.turn {w : World} {b2 : Nat} {wr w' : World} {g gs h hs : Nat} {S S' : List Sct} {P P' : List (Nat × Sct)} (t : TwoD w b2 wr g gs h hs S P) (d : Dsk 102 120 w' w.heap.size g gs S' P') (k : Turned 120 w.heap.size g gs wr w') : Half w b2 w' g gs h hs S S' P P' :=
  ⟨d, t.two.beside t.one (fun e => t.ne e.symm) k (by decide) (by decide) (by decide) (by decide) (by decide) (by decide) (by decide) (by decide), t.ne, t.le, t.bel.trans (k.below t.bel.size t.one.lt.2.2.1 t.one.lt.2.2.2)⟩
theorem Half.turn {w : World} {b2 : Nat} {wr w' : World} {g gs h hs : Nat} {S S' : List Sct} {P P' : List (Nat × Sct)} (t : Half w b2 wr g gs h hs S S' P P') (hb : b2 ≤ wr.heap.size) (d : Dsk 74 117 w' b2 h hs S' P') (k : Turned 117 b2 h hs wr w') : TwoD w b2 w' g gs h hs S' P' :=
  ⟨t.one.beside t.two t.ne k (by decide) (by decide) (by decide) (by decide) (by decide) (by decide) (by decide) (by decide), d, t.ne, t.le, t.bel.trans ((k.below hb t.two.lt.2.2.1 t.two.lt.2.2.2).mono t.le)⟩
theorem Half.b2 {w : World} {b2 : Nat} {wr : World} {g gs h hs : Nat} {S S' : List Sct} {P P' : List (Nat × Sct)} (t : Half w b2 wr g gs h hs S S' P P') : b2 ≤ wr.heap.size := by
  have := t.two.lt; omega

theorem safe_at {w w' : World} {base g gs : Nat} {S : List Sct} {P : List (Nat × Sct)} (d : Dsk 102 120 w base g gs S P) {b : Nat} {cur : Array Value} (hw : w.heap.size ≤ b) (hg : w'.heap[b]? = some (.cells cur 4 (0, 0))) : Safe 120 w' base g gs b := by
  obtain ⟨h1, h2, _⟩ := d.lt
  refine ⟨lt_of_get hg, by omega, by omega, .inr ?_⟩
  intro cur' fr hc
  rw [hg] at hc
  cases hc
theorem safe_old {w w' : World} {base g gs : Nat} {S : List Sct} {P : List (Nat × Sct)} (d : Dsk 74 117 w' base g gs S P) {b : Nat} (hb : b < w.heap.size) (hw : w.heap.size ≤ base) : Safe 117 w' base g gs b := by
  obtain ⟨h1, h2, h3, h4⟩ := d.lt
  exact ⟨by omega, by omega, by omega, .inl (by omega)⟩
end Go.Proofs.Ytfceileohkngnaa
