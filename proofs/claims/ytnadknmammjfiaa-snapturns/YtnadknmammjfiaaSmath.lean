/- snap: what the two places tell, behind a Save. -/
import Derived.Test.YtnadknmammjfiaaSops
namespace Go.Proofs.Ytnadknmammjfiaa
open Go.RowKit
set_option linter.unusedVariables false
set_option maxRecDepth 4000

/-- Which of two places' snapshots is the newest one. -/
def newX (x y : Option (Int × List Int)) : Option (Nat × Int × List Int) := match x, y with
  | none, none => none
  | some a, none => some (0, a.1, a.2)
  | none, some b => some (16, b.1, b.2)
  | some a, some b => if a.1 < b.1 then some (16, b.1, b.2) else some (0, a.1, a.2)
theorem newK_two (S : List Sct) : newK S 2 = newX (atS S 0) (atS S 16) := by
  cases h0 : atS S 0 with
  | none =>
    have e1 : newK S 1 = none := newK_none h0
    cases h1 : atS S 16 with
    | none => exact (newK_none (k := 1) h1).trans e1
    | some b => exact newK_first (k := 1) h1 e1
  | some a =>
    have e1 : newK S 1 = some (0, a.1, a.2) := newK_first (k := 0) h0 rfl
    cases h1 : atS S 16 with
    | none => exact (newK_none (k := 1) h1).trans e1
    | some b => exact newK_more (k := 1) h1 e1
def spX (x y : Option (Int × List Int)) : Nat := match newX x y with
  | some r => if r.1 = 0 then 16 else 0
  | none => 0
theorem spare_X (S : List Sct) : spareS S = spX (atS S 0) (atS S 16) := by unfold spareS spX; rw [newK_two]; cases newX (atS S 0) (atS S 16) <;> rfl
theorem spX_or (x y : Option (Int × List Int)) : spX x y = 0 ∨ spX x y = 16 := by
  unfold spX
  split
  · split
    · exact .inr rfl
    · exact .inl rfl
  · exact .inl rfl
theorem at_saved {S : List Sct} {p : Nat} (hp : p + 16 ≤ S.length) {ep : Int} (hep : 0 ≤ ep ∧ ep ≤ 4294967295) {b : List Int} (hB : Byt b) (hl : b.length ≤ 930) : atS (overS S p (snS ep b)) p = some (ep, b) := by
  have hs := snS_len ep b
  have e : ((overS S p (snS ep b)).drop p).take 16 = snS ep b ++ (S.drop (p + (snS ep b).length)).take (16 - (snS ep b).length) := by
    unfold overS
    rw [List.append_assoc, List.drop_append_of_le_length (by rw [List.length_take]; omega), List.drop_eq_nil_of_le (by rw [List.length_take]; omega), List.nil_append, List.take_append, List.take_of_length_le (by omega)]
  have hd := decS_ent 2 ep 0 (by omega) hep (by omega) b (by omega) hB ((S.drop (p + (snS ep b).length)).take (16 - (snS ep b).length))
  unfold atS
  rw [e]
  unfold snS at hd ⊢
  rw [hd]
  simp
theorem at_other {S : List Sct} {p q : Nat} (hp : p + 16 ≤ S.length) (hq : q + 16 ≤ S.length) (hpq : p + 16 ≤ q ∨ q + 16 ≤ p) {ep : Int} {b : List Int} (hl : b.length ≤ 930) : atS (overS S p (snS ep b)) q = atS S q := by
  have hs := snS_len ep b
  have e : ((overS S p (snS ep b)).drop q).take 16 = (S.drop q).take 16 := by
    refine List.ext_getElem? (fun i => ?_)
    by_cases hi : i < 16
    · rw [List.getElem?_take, if_pos hi, List.getElem?_take, if_pos hi, List.getElem?_drop, List.getElem?_drop, over_get S p _ (by omega) (q + i) (by omega), if_neg (by omega), getD_some S _ (by omega)]
    · rw [List.getElem?_take, if_neg hi, List.getElem?_take, if_neg hi]
  unfold atS
  rw [e]
theorem at_zero (n p : Nat) (h : p + 16 ≤ n) : atS (List.replicate n zeroS) p = none := by
  have e : ((List.replicate n zeroS).drop p).take 16 = List.replicate 16 zeroS := by
    rw [List.drop_replicate, List.take_replicate, Nat.min_eq_left (by omega)]
  unfold atS
  rw [e]
  have hd : decS (List.replicate 16 zeroS) = none := by kernel_rfl
  rw [hd]

/-- A disk whose two places tell x and y. -/
structure Snp (w : World) (base g gs : Nat) (S : List Sct) (x y : Option (Int × List Int)) : Prop where
  dsk : Dsk 71 82 w base g gs S []
  len : 32 ≤ S.length
  a0 : atS S 0 = x
  a1 : atS S 16 = y
theorem Snp.below {w w' : World} {base g gs : Nat} {S : List Sct} {x y : Option (Int × List Int)} (h : Snp w base g gs S x y) (hb : Below w.heap.size w w') : Snp w' base g gs S x y := ⟨h.dsk.below hb, h.len, h.a0, h.a1⟩
theorem snp_new {w : World} {base g gs n : Nat} (h : Dsk 71 82 w base g gs (List.replicate n zeroS) []) (hn : 32 ≤ n) : Snp w base g gs (List.replicate n zeroS) none none := ⟨h, by simp; omega, at_zero _ _ (by omega), at_zero _ _ (by omega)⟩
theorem Snp.load_none {w : World} {base g gs : Nat} {S : List Sct} {x y : Option (Int × List Int)} (h : Snp w base g gs S x y) (hn : newX x y = none) :
    Calls Try.prog 14 #[.pointer (some ⟨g, 0, none⟩)] w fun e w' => e = .returned (.tuple #[.int .u32 0, .slice none 0 0, .int .i64 13]) ∧ Below w.heap.size w w' := Ytnadknmammjfiaa.load_none w h.dsk h.len (by rw [newK_two, h.a0, h.a1]; exact hn)
theorem Snp.load_some {w : World} {base g gs : Nat} {S : List Sct} {x y : Option (Int × List Int)} (h : Snp w base g gs S x y) {p : Nat} {ep : Int} {b : List Int} (hn : newX x y = some (p, ep, b)) :
    Calls Try.prog 14 #[.pointer (some ⟨g, 0, none⟩)] w fun e w' => ∃ A c, e = .returned (.tuple #[.int .u32 ep, .slice A b.length c, .int .i64 0]) ∧ BysA w' A b ∧ Below w.heap.size w w' := by
  refine (Ytnadknmammjfiaa.load_some w h.dsk h.len (by rw [newK_two, h.a0, h.a1]; exact hn)).mono ?_
  rintro e w' ⟨A, c, rfl, ho, hb⟩
  obtain ⟨A', c', e', hA, _⟩ := own_bys ho
  cases e'
  exact ⟨A, c, rfl, hA, hb⟩
theorem Snp.save {w : World} {base g gs : Nat} {S : List Sct} {x y : Option (Int × List Int)} (h : Snp w base g gs S x y) (ep : Int) (hep : 0 ≤ ep ∧ ep ≤ 4294967295) (A : Option Addr) (b : List Int) (c : Nat) (hA : BysA w A b) (hB : Byt b) (hl : b.length ≤ 930) :
    Calls Try.prog 12 #[.pointer (some ⟨g, 0, none⟩), .int .u32 ep, .slice A b.length c] w fun e w' => e = .returned (.int .i64 0) ∧ Snp w' base g gs (overS S (spX x y) (snS ep b)) (if spX x y = 0 then some (ep, b) else x) (if spX x y = 0 then y else some (ep, b)) ∧ Turned 82 base g gs w w' := by
  have hx := Save_yes w h.dsk h.len ep hep A b c hA hB hl
  rw [spare_X, h.a0, h.a1] at hx
  refine hx.mono ?_
  rintro e w' ⟨rfl, hd, ht⟩
  have hs := snS_len ep b
  have hlen := h.len
  refine ⟨rfl, ⟨hd, ?_, ?_, ?_⟩, ht⟩
  · rw [over_len _ _ _ (by rcases spX_or x y with e | e <;> rw [e, hs] <;> omega)]; exact hlen
  · rcases spX_or x y with e | e
    · rw [e, if_pos rfl]; exact at_saved (by omega) hep hB hl
    · rw [e, if_neg (by decide), at_other (by omega) (by omega) (by omega) hl]; exact h.a0
  · rcases spX_or x y with e | e
    · rw [e, if_pos rfl, at_other (by omega) (by omega) (by omega) hl]; exact h.a1
    · rw [e, if_neg (by decide)]; exact at_saved (by omega) hep hB hl
end Go.Proofs.Ytnadknmammjfiaa
