/- The walk of TallySums. -/
import Derived.Test.YtpaolllkpmkgkaaHeads
import Derived.Test.YtpaolllkpmkgkaaLists
namespace Go.Proofs.Ytpaolllkpmkgkaa
open Go.RowKit
set_option linter.unusedVariables false
attribute [local go_sem ↓] Go.wp_at_zero Go.wp_at_succ

theorem Try.info23 : (Try.prog.info? 23).map (fun i => (i.zero, i.size, i.bytes)) = some (some (.slice none 0 0), 1, 24) := by kernel_rfl

theorem fair_each (n : Int) (hn : 0 ≤ n) (pss : List (List Int)) (h : fairFrom n pss = true) : ∀ p ∈ pss, p.length ≤ 20000 := by
  induction pss generalizing n with
  | nil => simp
  | cons q r ih =>
    simp only [fairFrom] at h
    split at h
    · cases h
    · rename_i hc
      intro p hp
      rcases List.mem_cons.1 hp with rfl | hp
      · omega
      · exact ih _ (by omega) h p hp

theorem fair_get {pss : List (List Int)} (h : fairB pss = true) (i : Nat) : (pss.getD i []).length ≤ 20000 ∧ pss.length ≤ 100 := by
  unfold fairB at h
  rw [Bool.and_eq_true] at h
  obtain ⟨h1, h2⟩ := h
  refine ⟨?_, of_decide_eq_true h2⟩
  rw [List.getD_eq_getElem?_getD]
  by_cases hi : i < pss.length
  · rw [List.getElem?_eq_getElem hi]; exact fair_each 0 (by omega) pss h1 _ (List.getElem_mem hi)
  · rw [List.getElem?_eq_none (by omega)]; simp

theorem partsA_below {w0 W : World} {a : Option Addr} {pss : List (List Int)} (h : PartsA w0 a pss) (hb : Below w0.heap.size w0 W) : PartsA W a pss := by
  intro hne
  obtain ⟨b, off, ha, hc⟩ := h hne
  refine ⟨b, off, ha, fun i hi => ?_⟩
  obtain ⟨a', cap', h1, h2⟩ := hc i hi
  exact ⟨a', cap', by rw [hb.cell (World.block_lt_of_cell? _ _ h1)]; exact h1, bysA_below h2 hb⟩

theorem own_below {w W : World} {base : Nat} {e : TypeId} {size : Nat} {v : Value} {n : Nat} {xs : List Value} (h : w.ownsRow base e size v n xs) (hb : Below w.heap.size w W) : W.ownsRow base e size v n xs := by
  obtain ⟨hl, h2⟩ := h
  refine ⟨hl, ?_⟩
  rcases h2 with h0 | ⟨g, cap, cur, hv, hbg, hg, r⟩
  · exact .inl h0
  · have hlt : g < w.heap.size := by
      rcases Nat.lt_or_ge g w.heap.size with h | h
      · exact h
      · rw [Array.getElem?_eq_none h] at hg; cases hg
    exact .inr ⟨g, cap, cur, hv, hbg, by rw [hb.block g hlt]; exact hg, r⟩

/-- 'append(rows, h..)' of headers that were just laid, onto a row of headers that the call owns. -/
theorem wpList_push {w0 W1 : World} {ops : Array Oper} {rest : List Oper} {o : Oper} {a : Act} {Q : Exit → Act → World → Prop} (hgd : o.guard = none) (s x : Operand)
    (ho : o.op = .call { callee := .builtin .append, args := #[s, x], argTypes := #[61, 61] }) (N : Nat) (hN : N = W1.heap.size)
    (v : Value) (n : Nat) (xs : List Value) (hs : a.eval s = v) (hown : W1.ownsRow w0.heap.size 23 1 v n xs) (m : Nat) (vs : List Value) (hx : a.eval x = .slice (some ⟨N, 0, none⟩) m m) (hl : vs.length = m)
    (hone : ∀ u ∈ vs, u.oneCell' = true) (hsmall : n + m ≤ 1000) (hw : Below w0.heap.size w0 W1)
    (h : ∀ v' W', W'.ownsRow w0.heap.size 23 1 v' (n + m) (xs ++ vs) → Below w0.heap.size w0 W' → (∀ g cap us, Blk W1 5 g cap us → Blk W' 5 g cap us) → wpList Try.prog ops Q rest (a.put o.dst v') W') :
    wpList Try.prog ops Q (o :: rest) a (W1.alloc (.cells vs.toArray 23)) := by
  subst hN
  obtain ⟨i0, hi, hz0, hz1, hz2⟩ := info_parts Try.info23
  have hown2 := own_below hown (below_alloc (Below.refl _ _) (.cells vs.toArray 23))
  refine wpList_append_row hgd s x 61 ho w0.heap.size 23 i0 (.slice none 0 0) 1 24 Try.underlying61 hi hz0 hz1 hz2 rfl (by decide) (by decide) v n xs hs hown2 _ m m vs hx (by omega)
    (fun _ => ⟨_, _, rfl, fun j u hj => by rw [Nat.zero_add, cell_at _ _ _ _ _ _ rfl]; simpa using hj⟩) hone (by omega) (by have := hw.size; simp; omega) ?_
  intro v' W' hown' hgrow hat
  refine h v' W' hown' ?_ ?_
  · exact (below_alloc hw _).grown hgrow (by have := hw.size; simp; omega) (fun k hk => (hown2.lt k hk).1)
  · intro g cap us hb
    exact blk_grown hown2 hgrow g cap us (hb.below (below_alloc (Below.refl _ _) _))

theorem partsA_drewN {w : World} {a : Option Addr} {pss : List (List Int)} (h : PartsA w a pss) (n : Nat) : PartsA (w.drewN n) a pss := by
  intro hne
  obtain ⟨b, off, ha, hc⟩ := h hne
  refine ⟨b, off, ha, fun i hi => ?_⟩
  obtain ⟨a', cap', h1, h2⟩ := hc i hi
  exact ⟨a', cap', h1, bysA_drew n h2⟩

end Go.Proofs.Ytpaolllkpmkgkaa
