/- JournalTorn: the calls of its walk, one by one. -/
import Derived.Test.YtfceileohkngnaaTside
import Derived.Test.YtfceileohkngnaaTno
import Derived.Test.YtfceileohkngnaaRno
namespace Go.Proofs.Ytfceileohkngnaa
open Go.RowKit
set_option linter.unusedVariables false
set_option maxRecDepth 4000

theorem get_cells {w W : World} {b : Nat} {o : Obj} (h : w.heap[b]? = some o) (hb : Below w.heap.size w W) : W.heap[b]? = some o := by
  rw [hb.block b (lt_of_get h)]; exact h
/-- So many entries of at most 400 bytes have so many sectors. -/
theorem ents_few (ep : Int) : ∀ (L : List (List Int)) (c : Nat), (∀ b ∈ L, b.length ≤ 400) → (entsS ep c L).length ≤ 7 * L.length
  | [], _, _ => Nat.le_refl _
  | b :: L, c, h => by
    have h1 := ents_few ep L (c + 1) (fun x hx => h x (List.mem_cons_of_mem _ hx))
    have h2 := h b (List.mem_cons_self)
    show (entS ep c b ++ entsS ep (c + 1) L).length ≤ _
    rw [List.length_append, entS_len, List.length_cons]
    omega
theorem part_at {w : World} {a : Option Addr} {l : List (List Int)} (h : PartsA w a l) {k : Nat} (hk : k < l.length) : ∃ b off a' c', a = some ⟨b, off, none⟩ ∧ w.cell? ⟨b, off + k, none⟩ = some (.slice a' (l.getD k []).length c') ∧ BysA w a' (l.getD k []) := by
  obtain ⟨b, off, e, hc⟩ := h (by rintro rfl; simp at hk)
  obtain ⟨a', c', h1, h2⟩ := hc k hk
  exact ⟨b, off, a', c', e, h1, h2⟩
theorem getD_mem {l : List (List Int)} {k : Nat} (hk : k < l.length) : l.getD k [] ∈ l := by
  rw [List.getD_eq_getElem?_getD, List.getElem?_eq_getElem hk]; exact List.getElem_mem hk
theorem bys_lt {w : World} {a : Option Addr} {b : List Int} (h : BysA w a b) : b ≠ [] → ∀ q off, a = some ⟨q, off, none⟩ → q < w.heap.size := by
  intro hne q off e
  obtain ⟨q', off', e', hc⟩ := h hne
  rw [e] at e'
  cases e'
  exact World.block_lt_of_cell? _ _ (hc 0 (List.length_pos_iff.2 hne))
theorem app_torn {wr : World} {B g gs : Nat} {S : List Sct} {j : Nat} {ep : Int} {L : List (List Int)} {R : List Sct} (h : Hold wr B g gs S j 0 140 ep L R) (hL : L.length ≤ 18) (hLb : ∀ b ∈ L, b.length ≤ 400) {a' : Option Addr} {p : List Int} (hB : Byt p) (hl : p.length ≤ 400) (hby : BysA wr a' p) (c' : Nat) :
    Calls Try.prog 21 #[.pointer (some ⟨j, 0, none⟩), .slice (some ⟨wr.heap.size, 0, none⟩) 1 1] (wr.alloc (.cells #[.slice a' p.length c'] 23)) fun e w' => e = .returned (.int .i64 0) ∧ Hold w' B g gs (overS S (0 + (entsS ep 0 L).length) (entS ep L.length p)) j 0 140 ep (L ++ [p]) (R.drop (entS ep L.length p).length) ∧ TurnJ B g gs j wr w' ∧ (overS S (0 + (entsS ep 0 L).length) (entS ep L.length p)).length = S.length := by
  have hb1 : Below wr.heap.size wr (wr.alloc (.cells #[.slice a' p.length c'] 23)) := below_alloc (Below.refl _ _) _
  have hfew := ents_few ep L 0 hLb
  have hlim := h.lim
  refine ((h.below hb1).append _ [p] 1 1 rfl (parts_hdr (cell_at _ _ _ _ _ 0 rfl) (bysA_below hby hb1)) (byts_hdr hB (by show _ ≤ 9223372036854775807; omega)) (by simp) p (flk_one p) (by omega) hB (by omega) (by omega)).mono ?_
  rintro e w' ⟨rfl, hh, ht⟩
  exact ⟨rfl, hh, (TurnJ.of_below hb1).trans ht, over_len _ _ _ (by rw [entS_len]; omega)⟩
theorem rapp_torn {wr : World} {b2 q qs : Nat} {S2 : List Sct} (hd : Dsk 74 117 wr b2 q qs S2 []) (hS2 : S2.length = 140) {p : Nat} {ep : Int} {Al : Option Addr} {L : List (List Int)} {cl : Nat} (hj : Rj wr p q 0 140 ep Al L.length cl (entsS ep 0 L).length) {hs : List Value} (hLs : Ls wr Al hs L) {B g gs : Nat} {S : List Sct} (hd1 : Dsk 102 120 wr B g gs S []) (hne : gs ≠ qs) {A : Option Addr} {b : List Int} (c' : Nat) (hA : BysA wr A b) (hB : Byt b) (hl : b.length ≤ 400) (hlt : b ≠ [] → ∀ x off, A = some ⟨x, off, none⟩ → x < b2) (hBb : B ≤ b2) (hep : 0 ≤ ep ∧ ep ≤ 4294967295) (hL : L.length ≤ 18) (hLb : ∀ b ∈ L, b.length ≤ 400) (hp : b2 ≤ p) :
    Calls Try.prog 22 #[.pointer (some ⟨p, 0, none⟩), .slice A b.length c'] wr fun e w' => e = .returned (.int .i64 0) ∧ ∃ S2' Al' cl' hs', Dsk 74 117 w' b2 q qs S2' [] ∧ S2'.length = 140 ∧ Rj w' p q 0 140 ep Al' (L ++ [b]).length cl' (entsS ep 0 (L ++ [b])).length ∧ Ls w' Al' hs' (L ++ [b]) ∧ Dsk 102 120 w' B g gs S [] ∧ Below B wr w' := by
  have hfew := ents_few ep L 0 hLb
  obtain ⟨l1, l2, l3, l4⟩ := hd.lt
  have hsz : b2 ≤ wr.heap.size := by omega
  refine (rappend_ok hd hj A b hs hLs (fun h0 x off e => ⟨by have := hlt h0 x off e; omega, by have := hlt h0 x off e; omega, by have := hlt h0 x off e; omega, .inl (hlt h0 x off e)⟩) hep (by omega) (by omega) (by omega) c' hA hB (by omega) (by omega)).mono ?_
  rintro e w' ⟨rfl, hd', ⟨Al', cl', hs', hj', hLs'⟩, ht⟩
  refine ⟨rfl, _, Al', cl', hs', hd', ?_, ?_, hLs', hd1.beside_r hd hj hne ht, (ht.below hsz l3 l4 hp).mono hBb⟩
  · rw [over_len _ _ _ (by rw [entS_len]; omega)]; exact hS2
  · rw [entsS_len, List.length_append, List.length_singleton]
    rw [entS_len] at hj'
    exact hj'
theorem rnext_torn {wr : World} {b2 q qs : Nat} {S2 : List Sct} (hd : Dsk 74 117 wr b2 q qs S2 []) {p : Nat} {ep : Int} {Al : Option Addr} {n cl en : Nat} (hj : Rj wr p q 0 140 ep Al n cl en) {B g gs : Nat} {S : List Sct} (hd1 : Dsk 102 120 wr B g gs S []) (hne : gs ≠ qs) (hBb : B ≤ b2) (hp : b2 ≤ p) :
    Calls Try.prog 25 #[.pointer (some ⟨p, 0, none⟩), .int .u32 2] wr fun e w' => e = .returned (.tuple #[]) ∧ Dsk 74 117 w' b2 q qs S2 [] ∧ Rj w' p q 0 140 2 none 0 0 0 ∧ Dsk 102 120 w' B g gs S [] ∧ Below B wr w' := by
  refine (rnext_any hj 2).mono ?_
  rintro e w' ⟨rfl, hj', hbl, hb⟩
  have ht : TurnR b2 q qs p wr w' := ⟨hb.os, hb.tape, hb.output, hb.size, fun b _ _ _ h3 _ => hbl b h3⟩
  obtain ⟨⟨c1, f1, g1⟩, ⟨c2, f2, s1⟩⟩ := hd.blocks
  refine ⟨rfl, ?_, hj', hd1.beside_r hd hj hne ht, hb.mono (by omega)⟩
  exact hd.keep (hbl _ (block_ne g1 hj (by decide))) (hbl _ (block_ne s1 hj (by decide))) (fun k c hc => hbl k (block_ne hc hj (by decide)))
theorem ls_none (w : World) : Ls w none [] [] := ⟨.inl rfl, trivial⟩
end Go.Proofs.Ytfceileohkngnaa
