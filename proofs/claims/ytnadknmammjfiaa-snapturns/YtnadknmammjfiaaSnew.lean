/- snap: the newest snapshot. -/
import Derived.Test.YtnadknmammjfiaaSat
namespace Go.Proofs.Ytnadknmammjfiaa
open Go.RowKit
set_option linter.unusedVariables false
set_option maxRecDepth 4000

/-- The newest snapshot of the first k places: its place, its epoch, its bytes. -/
def newK (S : List Sct) : Nat → Option (Nat × Int × List Int)
  | 0 => none
  | k + 1 => match atS S (16 * k), newK S k with
    | none, r => r
    | some y, none => some (16 * k, y.1, y.2)
    | some y, some r => if r.2.1 < y.1 then some (16 * k, y.1, y.2) else some r
theorem newK_none {S : List Sct} {k : Nat} (h : atS S (16 * k) = none) : newK S (k + 1) = newK S k := by
  show (match atS S (16 * k), newK S k with | none, r => r | some y, none => some (16 * k, y.1, y.2) | some y, some r => if r.2.1 < y.1 then some (16 * k, y.1, y.2) else some r) = _
  rw [h]
theorem newK_first {S : List Sct} {k : Nat} {y : Int × List Int} (h : atS S (16 * k) = some y) (h0 : newK S k = none) : newK S (k + 1) = some (16 * k, y.1, y.2) := by
  show (match atS S (16 * k), newK S k with | none, r => r | some y, none => some (16 * k, y.1, y.2) | some y, some r => if r.2.1 < y.1 then some (16 * k, y.1, y.2) else some r) = _
  rw [h, h0]
theorem newK_more {S : List Sct} {k : Nat} {y : Int × List Int} {r : Nat × Int × List Int} (h : atS S (16 * k) = some y) (h0 : newK S k = some r) : newK S (k + 1) = if r.2.1 < y.1 then some (16 * k, y.1, y.2) else some r := by
  show (match atS S (16 * k), newK S k with | none, r => r | some y, none => some (16 * k, y.1, y.2) | some y, some r => if r.2.1 < y.1 then some (16 * k, y.1, y.2) else some r) = _
  rw [h, h0]
/-- How it lies in memory. -/
def Rep (w : World) (base : Nat) : Option (Nat × Int × List Int) → Value → Value → Value → Bool → Prop
  | none, v1, v2, v3, f => v1 = .int .i64 0 ∧ v2 = .int .u32 0 ∧ v3 = .slice none 0 0 ∧ f = false
  | some r, v1, v2, v3, f => v1 = .int .i64 r.1 ∧ v2 = .int .u32 r.2.1 ∧ (∃ A c, v3 = .slice A r.2.2.length c ∧ w.ownsRow base 5 1 v3 r.2.2.length (r.2.2.map (Value.int .u8))) ∧ f = true
theorem Rep.below {w w' : World} {base : Nat} {x : Option (Nat × Int × List Int)} {v1 v2 v3 : Value} {f : Bool} (h : Rep w base x v1 v2 v3 f) (hb : Below w.heap.size w w') : Rep w' base x v1 v2 v3 f := by
  cases x with
  | none => exact h
  | some r =>
    obtain ⟨h1, h2, ⟨A, c, h3, h4⟩, h5⟩ := h
    exact ⟨h1, h2, ⟨A, c, h3, own_below h4 hb⟩, h5⟩
theorem Rep.set3 {w : World} {base : Nat} {x : Option (Nat × Int × List Int)} {v1 v2 v3 : Value} {f : Bool} (h : Rep w base x v1 v2 v3 f) {g : Nat} {c : Array Value} {t : TypeId} (hg : w.heap[g]? = some (.cells c t (0, 0))) (ht : t ≠ 5) (a0 a1 a2 : Value) : Rep (((w.setCell ⟨g, 0, none⟩ a0).setCell ⟨g, 1, none⟩ a1).setCell ⟨g, 2, none⟩ a2) base x v1 v2 v3 f := by
  cases x with
  | none => exact h
  | some r =>
    obtain ⟨h1, h2, ⟨A, c, h3, h4⟩, h5⟩ := h
    exact ⟨h1, h2, ⟨A, c, h3, own_set3 h4 hg ht a0 a1 a2⟩, h5⟩
theorem set3_other {W : World} {g b : Nat} (hb : b ≠ g) (a0 a1 a2 : Value) : (((W.setCell ⟨g, 0, none⟩ a0).setCell ⟨g, 1, none⟩ a1).setCell ⟨g, 2, none⟩ a2).heap[b]? = W.heap[b]? := by
  rw [Below.heap_setCell _ _ _ _ hb, Below.heap_setCell _ _ _ _ hb, Below.heap_setCell _ _ _ _ hb]
/-- A place more. -/
theorem at_any {base g gs : Nat} {S : List Sct} (w : World) (h : Dsk 71 82 w base g gs S []) (p : Nat) (hp : p + 16 ≤ S.length) :
    Calls Try.prog 37 #[.iface 25 (.pointer (some ⟨g, 0, none⟩)), .int .i64 p] w fun e w' => ∃ v1 v2 v3 f, e = .returned (.tuple #[.agg #[v1, v2, v3], .bool f]) ∧ Rep w' w.heap.size ((atS S p).map fun y => (p, y.1, y.2)) v1 v2 v3 f ∧ Below w.heap.size w w' := by
  cases h0 : atS S p with
  | none =>
    refine (at_none w h p hp h0).mono ?_
    rintro e w' ⟨rfl, hb⟩
    exact ⟨_, _, _, _, rfl, ⟨rfl, rfl, rfl, rfl⟩, hb⟩
  | some y =>
    refine (at_some w h p hp y h0).mono ?_
    rintro e w' ⟨A, c, rfl, ho, hb⟩
    exact ⟨_, _, _, _, rfl, ⟨rfl, rfl, ⟨A, c, rfl, ho⟩, rfl⟩, hb⟩
end Go.Proofs.Ytnadknmammjfiaa
