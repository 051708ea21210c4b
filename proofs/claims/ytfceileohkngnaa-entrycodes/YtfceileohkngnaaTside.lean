/- The program's journal and the reference's beside each other: what the one does leaves the other one as it was. -/
import Derived.Test.YtfceileohkngnaaSPlaysM
import Derived.Test.YtfceileohkngnaaTmath
import Derived.Test.YtfceileohkngnaaRopen
namespace Go.Proofs.Ytfceileohkngnaa
open Go.RowKit
set_option linter.unusedVariables false
set_option maxRecDepth 4000

theorem not_type {w : World} {b : Nat} {c : Array Value} {e t : TypeId} {f : Nat × Nat} (h1 : w.heap[b]? = some (.cells c e f)) (h2 : e ≠ t) : ∀ cur fr, w.heap[b]? ≠ some (.cells cur t fr) := by
  intro cur fr h3
  rw [h1] at h3
  cases h3
  exact h2 rfl
theorem Dsk.blocks {tD tW : TypeId} {w : World} {base g gs : Nat} {S : List Sct} {P : List (Nat × Sct)} (d : Dsk tD tW w base g gs S P) : (∃ c f, w.heap[g]? = some (.cells c tD f)) ∧ ∃ c f, w.heap[gs]? = some (.cells c 75 f) := by
  obtain ⟨pv, g2, _, _, ⟨⟨cur, s2, _⟩, _⟩, _⟩ := d
  exact ⟨⟨_, _, g2⟩, ⟨_, _, s2⟩⟩
/-- The program's journal at work leaves the reference's disk. -/
theorem Dsk.beside_j {w w' : World} {base g gs : Nat} {S : List Sct} {P : List (Nat × Sct)} (d : Dsk 102 120 w base g gs S P) {j : Nat} {cj : Array Value} (hj : w.heap[j]? = some (.cells cj 106 (0, 0))) {b2 q qs : Nat} {S2 : List Sct} (d2 : Dsk 74 117 w b2 q qs S2 []) (hne : qs ≠ gs) (t : TurnJ base g gs j w w') : Dsk 74 117 w' b2 q qs S2 [] := by
  obtain ⟨⟨c1, f1, g1⟩, ⟨c2, f2, s1⟩⟩ := d.blocks
  obtain ⟨⟨c3, f3, g2⟩, ⟨c4, f4, s2⟩⟩ := d2.blocks
  refine d2.keep (t.block q (lt_of_get g2) (block_ne g2 g1 (by decide)) (block_ne g2 s1 (by decide)) (block_ne g2 hj (by decide)) (.inr (not_type g2 (by decide))))
    (t.block qs (lt_of_get s2) (block_ne s2 g1 (by decide)) hne (block_ne s2 hj (by decide)) (.inr (not_type s2 (by decide))))
    (fun k c hc => t.block k (lt_of_get hc) (block_ne hc g1 (by decide)) (block_ne hc s1 (by decide)) (block_ne hc hj (by decide)) (.inr (not_type hc (by decide))))
theorem Hold.beside {w w' : World} {base g gs : Nat} {S : List Sct} {j fr tt : Nat} {ep : Int} {L : List (List Int)} {R : List Sct} (h : Hold w base g gs S j fr tt ep L R) {b2 q qs : Nat} {S2 : List Sct} (d2 : Dsk 74 117 w b2 q qs S2 []) (hne : qs ≠ gs) (t : TurnJ base g gs j w w') : Dsk 74 117 w' b2 q qs S2 [] :=
  h.dsk.beside_j h.jr d2 hne t
/-- The reference's journal at work leaves the program's. -/
theorem Dsk.beside_r {w w' : World} {base g gs : Nat} {S : List Sct} {P : List (Nat × Sct)} (d : Dsk 102 120 w base g gs S P) {b2 q qs : Nat} {S2 : List Sct} (d2 : Dsk 74 117 w b2 q qs S2 []) {p : Nat} {cj : Array Value} (hj : w.heap[p]? = some (.cells cj 70 (0, 0))) (hne : gs ≠ qs) (t : TurnR b2 q qs p w w') : Dsk 102 120 w' base g gs S P := by
  obtain ⟨⟨c1, f1, g1⟩, ⟨c2, f2, s1⟩⟩ := d2.blocks
  obtain ⟨⟨c3, f3, g2⟩, ⟨c4, f4, s2⟩⟩ := d.blocks
  refine d.keep (t.block g (lt_of_get g2) (block_ne g2 g1 (by decide)) (block_ne g2 s1 (by decide)) (block_ne g2 hj (by decide)) (.inr (not_type g2 (by decide))))
    (t.block gs (lt_of_get s2) (block_ne s2 g1 (by decide)) hne (block_ne s2 hj (by decide)) (.inr (not_type s2 (by decide))))
    (fun k c hc => t.block k (lt_of_get hc) (block_ne hc g1 (by decide)) (block_ne hc s1 (by decide)) (block_ne hc hj (by decide)) (.inr (not_type hc (by decide))))
/-- Writes to the program's disk leave the reference's journal. -/
theorem Rj.beside {w w' : World} {base g gs : Nat} {S : List Sct} {P : List (Nat × Sct)} (d : Dsk 102 120 w base g gs S P) {p q fr tt : Nat} {ep : Int} {Al : Option Addr} {n cl en : Nat} (h : Rj w p q fr tt ep Al n cl en) (t : Turned 120 base g gs w w') : Rj w' p q fr tt ep Al n cl en := by
  obtain ⟨⟨c1, f1, g1⟩, ⟨c2, f2, s1⟩⟩ := d.blocks
  unfold Rj at h ⊢
  rw [t.block p (lt_of_get h) (block_ne h g1 (by decide)) (block_ne h s1 (by decide)) (.inr (not_type h (by decide)))]
  exact h
/-- .. and rows of sectors that are no disk's. -/
theorem scs_beside {w w' : World} {base g gs a : Nat} {S T : List Sct} {P : List (Nat × Sct)} (d : Dsk 102 120 w base g gs S P) {c : Array Value} (ha : w.heap[a]? = some (.cells c 75 (0, 0))) (hne : a ≠ gs) (h : ScsA w (some ⟨a, 0, none⟩) T) (t : Turned 120 base g gs w w') : ScsA w' (some ⟨a, 0, none⟩) T ∧ w'.heap[a]? = some (.cells c 75 (0, 0)) := by
  obtain ⟨⟨c1, f1, g1⟩, ⟨c2, f2, s1⟩⟩ := d.blocks
  have e := t.block a (lt_of_get ha) (block_ne ha g1 (by decide)) hne (.inr (not_type ha (by decide)))
  refine ⟨rowA_block h (fun q off e' => ?_), by rw [e]; exact ha⟩
  cases e'
  exact e
theorem old_over {ep : Int} {S T : List Sct} (h : Old ep S) (k : Old ep T) (at_ : Nat) : Old ep (overS S at_ T) := ((h.take _).app k).app (h.drop _)
end Go.Proofs.Ytfceileohkngnaa
