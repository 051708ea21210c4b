/- Contract of entries: which stand on the disk, and where they end. -/
import Derived.Test.YtnadknmammjfiaaJsecs
namespace Go.Proofs.Ytnadknmammjfiaa
open Go.RowKit
set_option linter.unusedVariables false
set_option maxRecDepth 4000

/-- The entries of an epoch that sectors begin with, from a sequence on, and how many sectors they have. -/
def scanS (ep : Int) : Nat → List Sct → Nat → List (List Int) × Nat
  | 0, _, _ => ([], 0)
  | f + 1, S, c => match decS S with
    | none => ([], 0)
    | some x => if isN ep c x.k x.e x.s = true then (x.b :: (scanS ep f (S.drop x.n) (c + 1)).1, x.n + (scanS ep f (S.drop x.n) (c + 1)).2) else ([], 0)
theorem scan_none {ep : Int} {f : Nat} {S : List Sct} {c : Nat} (h : decS S = none) : scanS ep (f + 1) S c = ([], 0) := by
  unfold scanS; rw [h]
theorem scan_no {ep : Int} {f : Nat} {S : List Sct} {c : Nat} {x : Ent} (h : decS S = some x) (hn : isN ep c x.k x.e x.s = false) : scanS ep (f + 1) S c = ([], 0) := by
  unfold scanS; rw [h]; simp only [hn]; rfl
theorem scan_yes {ep : Int} {f : Nat} {S : List Sct} {c : Nat} {x : Ent} (h : decS S = some x) (hn : isN ep c x.k x.e x.s = true) : scanS ep (f + 1) S c = (x.b :: (scanS ep f (S.drop x.n) (c + 1)).1, x.n + (scanS ep f (S.drop x.n) (c + 1)).2) := by
  conv => lhs; unfold scanS
  rw [h]; simp only [hn, if_true]
theorem scan_lim (ep : Int) : ∀ (f : Nat) (S : List Sct) (c : Nat), (scanS ep f S c).2 ≤ S.length ∧ (scanS ep f S c).1.length ≤ (scanS ep f S c).2 ∧ ∀ b ∈ (scanS ep f S c).1, Byt b ∧ b.length ≤ 4000
  | 0, S, c => ⟨Nat.zero_le _, Nat.le_refl _, by intro b hb; cases hb⟩
  | f + 1, S, c => by
    cases h : decS S with
    | none => rw [scan_none h]; exact ⟨Nat.zero_le _, Nat.le_refl _, by intro b hb; cases hb⟩
    | some x =>
      cases hn : isN ep c x.k x.e x.s with
      | false => rw [scan_no h hn]; exact ⟨Nat.zero_le _, Nat.le_refl _, by intro b hb; cases hb⟩
      | true =>
        rw [scan_yes h hn]
        obtain ⟨d1, d2, d3, _, _, _, d7, d8⟩ := decS_some h
        obtain ⟨r1, r2, r3⟩ := scan_lim ep f (S.drop x.n) (c + 1)
        rw [List.length_drop] at r1
        refine ⟨by simp only []; omega, by simp only [List.length_cons]; omega, ?_⟩
        intro b hb
        rcases List.mem_cons.1 hb with rfl | hb
        · exact ⟨d7, d8⟩
        · exact r3 b hb

/-- Headers of rows of bytes, each in a block of its own, or empty. -/
def HeadsB (w : World) : List Value → List (List Int) → Prop
  | [], [] => True
  | h :: hs, p :: ps => (∃ a cap, h = .slice a p.length cap ∧ (p = [] ∨ ∃ g c, a = some ⟨g, 0, none⟩ ∧ Blk w 5 g c (p.map (Value.int .u8)))) ∧ HeadsB w hs ps
  | _, _ => False
theorem headsB_mono {w w' : World} (h : ∀ g cap vs, Blk w 5 g cap vs → Blk w' 5 g cap vs) : ∀ {hs : List Value} {ps : List (List Int)}, HeadsB w hs ps → HeadsB w' hs ps
  | [], [], _ => trivial
  | _ :: _, _ :: _, ⟨⟨a, cap, h1, h2⟩, r⟩ => ⟨⟨a, cap, h1, h2.imp id (fun ⟨g, c, e, k⟩ => ⟨g, c, e, h g c _ k⟩)⟩, headsB_mono h r⟩
theorem headsB_app {w : World} : ∀ {hs : List Value} {ps : List (List Int)} {hs' : List Value} {ps' : List (List Int)}, HeadsB w hs ps → HeadsB w hs' ps' → HeadsB w (hs ++ hs') (ps ++ ps')
  | [], [], _, _, _, k => k
  | _ :: _, _ :: _, _, _, ⟨h, r⟩, k => ⟨h, headsB_app r k⟩
theorem headsB_a {w : World} : ∀ {hs : List Value} {ps : List (List Int)}, HeadsB w hs ps → HeadsA w hs ps
  | [], [], _ => trivial
  | _ :: _, _ :: _, ⟨⟨a, cap, h1, h2⟩, r⟩ => ⟨⟨a, cap, h1, by
      rcases h2 with rfl | ⟨g, c, rfl, hb⟩
      · exact bysA_nil w a
      · exact bys_rowA hb.row⟩, headsB_a r⟩
theorem headsB_own {w : World} {base : Nat} {B : Option Addr} {n c : Nat} {b : List Int} (h : w.ownsRow base 5 1 (.slice B n c) b.length (b.map (Value.int .u8))) : HeadsB w [.slice B n c] [b] := by
  refine ⟨?_, trivial⟩
  rcases h.2 with ⟨h1, h0⟩ | ⟨g, cap, cur, hv, hb, hg, hnc, hcm, hcs, htk⟩
  · cases h1
    have e : b = [] := List.length_eq_zero_iff.1 h0
    subst e
    exact ⟨_, _, rfl, .inl rfl⟩
  · cases hv
    exact ⟨_, _, rfl, .inr ⟨_, cur.size, rfl, cur, hg, rfl, by rw [List.length_map]; simpa using htk⟩⟩
theorem headsB_len {w : World} {hs : List Value} {ps : List (List Int)} (h : HeadsB w hs ps) : hs.length = ps.length := headsA_len (headsB_a h)
theorem headsB_below {w w' : World} (hb : Below w.heap.size w w') {hs : List Value} {ps : List (List Int)} (h : HeadsB w hs ps) : HeadsB w' hs ps := headsB_mono (fun g cap vs k => k.below hb) h

theorem scs_drop {w : World} {q : Nat} {D : List Sct} (h : ScsA w (some ⟨q, 0, none⟩) D) (k : Nat) : ScsA w (some ⟨q, k * 64, none⟩) (D.drop k) := by
  intro hne
  have hk : k < D.length := by
    rcases Nat.lt_or_ge k D.length with h | h
    · exact h
    · rw [List.drop_eq_nil_of_le h] at hne; exact absurd rfl hne
  obtain ⟨b, off, e, hc⟩ := h (by intro e; have := congrArg List.length e; rw [flatS_len] at this; simp at this; omega)
  cases e
  refine ⟨q, k * 64, rfl, fun j u hj => ?_⟩
  have e2 : (flatS D)[k * 64 + j]? = some u := by
    have : flatS D = flatS (D.take k) ++ flatS (D.drop k) := by rw [← flatS_app, List.take_append_drop]
    rw [this, List.getElem?_append_right (by rw [flatS_len, List.length_take]; omega), flatS_len, List.length_take, Nat.min_eq_left (by omega), Nat.add_sub_cancel_left]
    exact hj
  have := hc _ _ e2
  rw [Nat.zero_add] at this
  exact this

theorem ents_end {ep : Int} {n fr m cl : Nat} {D : List Sct} {l : List (List Int)} {Al : Option Addr} {w w' : World} (he : scanS ep (n + 1) D 0 = (l, m)) (hp : PartsA w' Al l) (hb : Below w.heap.size w w') :
    ∃ A c, Ending.returned (.tuple #[.slice Al l.length cl, .int .i64 ((fr : Int) + (m : Int))]) = .returned (.tuple #[.slice A (scanS ep (n + 1) D 0).1.length c, .int .i64 ((fr + (scanS ep (n + 1) D 0).2 : Nat) : Int)]) ∧ PartsA w' A (scanS ep (n + 1) D 0).1 ∧ Below w.heap.size w w' := by
  rw [he]
  exact ⟨Al, cl, by rw [show ((fr + m : Nat) : Int) = (fr : Int) + (m : Int) by omega], hp, hb⟩

end Go.Proofs.Ytnadknmammjfiaa
