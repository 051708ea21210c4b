/- Headers of slices that lie in a row of the call's own, and the bytes behind them. -/
import Derived.Test.YtpaolllkpmkgkaaTurnsW
namespace Go.Proofs.Ytpaolllkpmkgkaa
open Go.RowKit
set_option linter.unusedVariables false

/-- Each header leads to bytes in a block of its own. -/
def Heads5 (w : World) : List Value → List (List Int) → Prop
  | [], [] => True
  | h :: hs, p :: ps => (∃ g cap, h = .slice (some ⟨g, 0, none⟩) p.length cap ∧ Blk w 5 g cap (p.map (Value.int .u8))) ∧ Heads5 w hs ps
  | _, _ => False

/-- Each header leads to bytes that came in, or to none. -/
def HeadsA (w : World) : List Value → List (List Int) → Prop
  | [], [] => True
  | h :: hs, p :: ps => (∃ a cap, h = .slice a p.length cap ∧ BysA w a p) ∧ HeadsA w hs ps
  | _, _ => False

theorem heads5_a {w : World} : ∀ {hs : List Value} {ps : List (List Int)}, Heads5 w hs ps → HeadsA w hs ps
  | [], [], _ => trivial
  | _ :: _, _ :: _, ⟨⟨g, cap, h1, h2⟩, r⟩ => ⟨⟨_, cap, h1, bys_rowA h2.row⟩, heads5_a r⟩

theorem heads5_app {w : World} : ∀ {hs : List Value} {ps : List (List Int)} {hs' : List Value} {ps' : List (List Int)}, Heads5 w hs ps → Heads5 w hs' ps' → Heads5 w (hs ++ hs') (ps ++ ps')
  | [], [], _, _, _, k => k
  | _ :: _, _ :: _, _, _, ⟨h, r⟩, k => ⟨h, heads5_app r k⟩

theorem headsA_app {w : World} : ∀ {hs : List Value} {ps : List (List Int)} {hs' : List Value} {ps' : List (List Int)}, HeadsA w hs ps → HeadsA w hs' ps' → HeadsA w (hs ++ hs') (ps ++ ps')
  | [], [], _, _, _, k => k
  | _ :: _, _ :: _, _, _, ⟨h, r⟩, k => ⟨h, headsA_app r k⟩

theorem heads5_mono {w w' : World} (h : ∀ g cap vs, Blk w 5 g cap vs → Blk w' 5 g cap vs) : ∀ {hs : List Value} {ps : List (List Int)}, Heads5 w hs ps → Heads5 w' hs ps
  | [], [], _ => trivial
  | _ :: _, _ :: _, ⟨⟨g, cap, h1, h2⟩, r⟩ => ⟨⟨g, cap, h1, h g cap _ h2⟩, heads5_mono h r⟩

theorem headsA_below {w w' : World} (h : Below w.heap.size w w') : ∀ {hs : List Value} {ps : List (List Int)}, HeadsA w hs ps → HeadsA w' hs ps
  | [], [], _ => trivial
  | _ :: _, _ :: _, ⟨⟨a, cap, h1, h2⟩, r⟩ => ⟨⟨a, cap, h1, bysA_below h2 h⟩, headsA_below h r⟩

theorem headsA_len {w : World} : ∀ {hs : List Value} {ps : List (List Int)}, HeadsA w hs ps → hs.length = ps.length
  | [], [], _ => rfl
  | _ :: _, _ :: _, ⟨_, r⟩ => by simp [headsA_len r]

theorem headsA_get {w : World} : ∀ {hs : List Value} {ps : List (List Int)}, HeadsA w hs ps → ∀ i, i < ps.length → ∃ a cap, hs[i]? = some (.slice a (ps.getD i []).length cap) ∧ BysA w a (ps.getD i [])
  | [], [], _, i, hi => by simp at hi
  | h :: hs, p :: ps, ⟨⟨a, cap, h1, h2⟩, r⟩, i, hi => by
    cases i with
    | zero => exact ⟨a, cap, by simpa using h1, by simpa using h2⟩
    | succ i =>
      obtain ⟨a', cap', k1, k2⟩ := headsA_get r i (by simpa using hi)
      exact ⟨a', cap', by simpa using k1, by simpa using k2⟩

/-- A row of headers, and what they lead to: parts. -/
theorem parts_heads {w : World} {A : Option Addr} {hs : List Value} {ps : List (List Int)} (hr : RowA w A hs) (hh : HeadsA w hs ps) : PartsA w A ps := by
  intro hne
  have hl := headsA_len hh
  obtain ⟨b, off, ha, hc⟩ := hr (by rintro rfl; simp at hl; exact hne (List.length_eq_zero_iff.1 hl.symm))
  refine ⟨b, off, ha, fun i hi => ?_⟩
  obtain ⟨a', cap', h1, h2⟩ := headsA_get hh i hi
  exact ⟨a', cap', hc i _ h1, h2⟩

/-- What grows a row of headers turns no block of bytes. -/
theorem blk_grown {w w' : World} {base n : Nat} {v : Value} {xs : List Value} (ho : w.ownsRow base 23 1 v n xs) (hg : w.grownBy w' v.ownBlock) : ∀ g cap vs, Blk w 5 g cap vs → Blk w' 5 g cap vs := by
  intro g cap vs hb
  have hlt := hb.lt
  obtain ⟨cur, hc, r⟩ := hb
  refine ⟨cur, ?_, r⟩
  rw [hg.block g hlt, hc]
  intro e
  rcases ho.2 with ⟨rfl, _⟩ | ⟨g', cap', cur', rfl, _, hh, _⟩
  · simp [Value.ownBlock] at e
  · simp [Value.ownBlock] at e
    subst e
    rw [hc] at hh
    cases hh

/-- What a row that the call owns looks like. -/
theorem own_form {w : World} {base : Nat} {e : TypeId} {v : Value} {n : Nat} {xs : List Value} (h : w.ownsRow base e 1 v n xs) : ∃ A cap, v = .slice A n cap ∧ RowA w A xs ∧ xs.length = n := by
  have hl : xs.length = n := by have := h.1; omega
  rcases h.2 with ⟨rfl, rfl⟩ | ⟨g, cap, cur, rfl, hb, hg, hnc, hcm, hcs, htk⟩
  · obtain rfl : xs = [] := List.length_eq_zero_iff.1 hl
    exact ⟨none, 0, rfl, rowA_nil _ _, rfl⟩
  · refine ⟨_, cap, rfl, Blk.row (e := e) (cap := cap) ⟨cur, hg, by omega, by rw [h.1]; exact htk⟩, hl⟩

theorem own_some {w : World} {base : Nat} {e : TypeId} {v : Value} {n : Nat} {xs : List Value} (h : w.ownsRow base e 1 v n xs) (hn : v.ownBlock ≠ none) :
    ∃ g cap, v = .slice (some ⟨g, 0, none⟩) n cap ∧ base ≤ g ∧ n ≤ cap ∧ cap ≤ maxLen ∧ Blk w e g cap xs := by
  obtain ⟨hl, h2⟩ := h
  rcases h2 with ⟨rfl, h0⟩ | ⟨g, cap, cur, hv, hb, hg, hnc, hcm, hcs, htk⟩
  · simp [Value.ownBlock] at hn
  · exact ⟨g, cap, hv, hb, hnc, hcm, cur, hg, by omega, by rw [hl]; exact htk⟩

/-- 'append([]byte{}, b...)', b empty or not: a copy of b, in a block of its own. -/
theorem wpList_copy' {w0 W : World} {ops : Array Oper} {rest : List Oper} {o : Oper} {a : Act} {Q : Exit → Act → World → Prop} (hgd : o.guard = none) (s x : Operand)
    (ho : o.op = .call { callee := .builtin .append, args := #[s, x], argTypes := #[23, 23] }) (N : Nat) (hN : N = W.heap.size)
    (hs : a.eval s = .slice (some ⟨N, 0, none⟩) 0 0) (A : Option Addr) (c : Nat) (bs : List Int) (hx : a.eval x = .slice A bs.length c) (hR : BysA w0 A bs) (hw : Below w0.heap.size w0 W)
    (hlen : bs.length ≤ 20000)
    (h : ∀ g cap W', W.heap.size ≤ g → Below W.heap.size W W' → Blk W' 5 g cap (bs.map (Value.int .u8)) → wpList Try.prog ops Q rest (a.put o.dst (.slice (some ⟨g, 0, none⟩) bs.length cap)) W') :
    wpList Try.prog ops Q (o :: rest) a (W.alloc (.cells #[] 5)) := by
  subst hN
  obtain ⟨i0, hi, hz0, hz1, hz2⟩ := info_parts Try.info5
  have hown : (W.alloc (.cells #[] 5)).ownsRow W.heap.size 5 1 (.slice (some ⟨W.heap.size, 0, none⟩) 0 0) 0 [] :=
    World.ownsRow_lit W #[] 0 (Nat.le_refl _) (by simp) (by simp)
  refine wpList_append_row hgd s x 23 ho W.heap.size 5 i0 (.int .u8 0) 1 1 Try.underlying23 hi hz0 hz1 hz2 rfl (by decide) (by decide) _ 0 [] hs hown A bs.length c (bs.map (Value.int .u8)) hx (by simp)
    (rowA_below (rowA_bys hR) (below_alloc hw _)) (one_u8 bs) (by omega) (by simp) ?_
  intro v' W' hown' hgrow hat
  obtain ⟨g, cap, rfl, hg, hcap, _, hblk⟩ := own_some hown' (by rcases hat with h | h <;> rw [h] <;> simp [Value.ownBlock])
  have hbel : Below W.heap.size W W' := (below_alloc (Below.refl _ _) _).grown hgrow (by simp) (fun k hk => by simp [Value.ownBlock] at hk; omega)
  rw [Nat.zero_add, List.nil_append] at *
  exact h g cap W' hg hbel hblk

end Go.Proofs.Ytpaolllkpmkgkaa
