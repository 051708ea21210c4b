/- The walk of TallyTurns. -/
import Derived.Test.YtpaolllkpmkgkaaPartsW
import Derived.Test.YtpaolllkpmkgkaaMath2
import Derived.Deep.CutRange
namespace Go.Proofs.Ytpaolllkpmkgkaa
open Go.RowKit
set_option linter.unusedVariables false
attribute [local go_sem ↓] Go.wp_at_zero Go.wp_at_succ

theorem Try.info5 : (Try.prog.info? 5).map (fun i => (i.zero, i.size, i.bytes)) = some (some (.int .u8 0), 1, 1) := by kernel_rfl

theorem rowA_bys {w : World} {A : Option Addr} {bs : List Int} (h : BysA w A bs) : RowA w A (bs.map (Value.int .u8)) := by
  intro hne
  obtain ⟨b, off, ha, hc⟩ := h (by rintro rfl; simp at hne)
  refine ⟨b, off, ha, fun j u hj => ?_⟩
  rw [List.getElem?_map] at hj
  have hjl : j < bs.length := by
    rcases Nat.lt_or_ge j bs.length with h | h
    · exact h
    · rw [List.getElem?_eq_none h] at hj; cases hj
  rw [hc j hjl, ← hj, List.getD_eq_getElem?_getD, List.getElem?_eq_getElem hjl]; rfl

theorem bys_rowA {w : World} {A : Option Addr} {bs : List Int} (h : RowA w A (bs.map (Value.int .u8))) : BysA w A bs := by
  intro hne
  obtain ⟨b, off, ha, hc⟩ := h (by simpa using hne)
  refine ⟨b, off, ha, fun j hj => ?_⟩
  rw [hc j (.int .u8 (bs.getD j 0))]
  rw [List.getElem?_map, List.getD_eq_getElem?_getD, List.getElem?_eq_getElem hj]; rfl

theorem one_u8 (bs : List Int) : ∀ u ∈ bs.map (Value.int .u8), u.oneCell' = true := by
  intro u hu
  obtain ⟨x, _, rfl⟩ := List.mem_map.1 hu
  rfl

/-- 'append([]byte{}, b...)': a copy of b, in a block of its own. -/
theorem wpList_copy {w0 W : World} {ops : Array Oper} {rest : List Oper} {o : Oper} {a : Act} {Q : Exit → Act → World → Prop} (hgd : o.guard = none) (s x : Operand)
    (ho : o.op = .call { callee := .builtin .append, args := #[s, x], argTypes := #[23, 23] }) (N : Nat) (hN : N = W.heap.size)
    (hs : a.eval s = .slice (some ⟨N, 0, none⟩) 0 0) (A : Option Addr) (c : Nat) (bs : List Int) (hx : a.eval x = .slice A bs.length c) (hR : BysA w0 A bs) (hw : Below w0.heap.size w0 W)
    (hlen : bs.length ≤ 20000) (hpos : 0 < bs.length)
    (h : ∀ g cap W', w0.heap.size ≤ g → W.heap.size ≤ g → bs.length ≤ cap → Below w0.heap.size w0 W' → Blk W' 5 g cap (bs.map (Value.int .u8)) → Below W.heap.size W W' → wpList Try.prog ops Q rest (a.put o.dst (.slice (some ⟨g, 0, none⟩) bs.length cap)) W') :
    wpList Try.prog ops Q (o :: rest) a (W.alloc (.cells #[] 5)) := by
  subst hN
  obtain ⟨i0, hi, hz0, hz1, hz2⟩ := info_parts Try.info5
  have hown : (W.alloc (.cells #[] 5)).ownsRow W.heap.size 5 1 (.slice (some ⟨W.heap.size, 0, none⟩) 0 0) 0 [] :=
    World.ownsRow_lit W #[] 0 (Nat.le_refl _) (by simp) (by simp)
  refine wpList_append_row hgd s x 23 ho W.heap.size 5 i0 (.int .u8 0) 1 1 Try.underlying23 hi hz0 hz1 hz2 rfl (by decide) (by decide) _ 0 [] hs hown A bs.length c (bs.map (Value.int .u8)) hx (by simp)
    (rowA_below (rowA_bys hR) (below_alloc hw _)) (one_u8 bs) (by omega) (by simp) ?_
  intro v' W' hown' hgrow hat
  obtain ⟨g, cap, rfl, hg, hcap, _, hblk⟩ := own_blk hown' (by omega)
  have hbel : Below W.heap.size W W' := (below_alloc (Below.refl _ _) _).grown hgrow (by simp) (fun k hk => by simp [Value.ownBlock] at hk; omega)
  rw [Nat.zero_add, List.nil_append] at *
  exact h g cap W' (Nat.le_trans hw.size hg) hg hcap (below_then hw hbel) hblk hbel

theorem map_get {bs : List Int} {i : Nat} (h : i < bs.length) : (bs.map (Value.int .u8))[i]? = some (.int .u8 (bs.getD i 0)) := by
  rw [List.getElem?_map, List.getD_eq_getElem?_getD, List.getElem?_eq_getElem h]; rfl

theorem byt_set {bs : List Int} (h : Byt bs) (i : Nat) (v : Int) (hv : 0 ≤ v ∧ v ≤ 255) : Byt (bs.set i v) := by
  intro k
  have := h k
  rw [List.getD_eq_getElem?_getD] at this ⊢
  rw [List.getElem?_set]
  split
  · split
    · exact hv
    · simp
  · exact this

/-- The sum of one slice, in every world behind w1: for the regions that draw their order. -/
theorem sumIn {w1 : World} {A : Option Addr} {bs : List Int} (hb : BysA w1 A bs) (hB : Byt bs) (hl : bs.length ≤ 20000) (c : Nat) (W : World) (N : Nat) (hN : N = W.heap.size) (hW : Below w1.heap.size w1 W) :
    Calls Try.prog 63 #[.slice (some ⟨N, 0, none⟩) 1 1] (W.alloc (.cells #[.slice A bs.length c] 23)) fun e w' => e = .returned (.int .u32 (sums 1 [bs])) ∧ Below w1.heap.size w1 w' := by
  refine (sum1 hB hl _ N (parts_new (cs := [_]) hN (fun i hi => ?_))).mono ?_
  · have : i = 0 := by simpa using hi
    subst this
    exact ⟨A, c, rfl, bysA_below hb hW⟩
  · rintro e w' ⟨he, rfl⟩
    exact ⟨he, below_alloc hW _⟩

/-- The sum of one slice whose header lies in cell N of the world at hand. -/
theorem sumAt {w1 : World} {A : Option Addr} {bs : List Int} (hb : BysA w1 A bs) (hB : Byt bs) (hl : bs.length ≤ 20000) (n c : Nat) (hn : n = bs.length) (W : World) (N : Nat) (hW : Below w1.heap.size w1 W)
    (hc : W.cell? ⟨N, 0, none⟩ = some (.slice A n c)) :
    Calls Try.prog 63 #[.slice (some ⟨N, 0, none⟩) 1 1] W fun e w' => e = .returned (.int .u32 (sums 1 [bs])) ∧ w' = W := by
  subst hn
  exact sum1 hB hl W N (one_part hc (bysA_below hb hW))

end Go.Proofs.Ytpaolllkpmkgkaa
