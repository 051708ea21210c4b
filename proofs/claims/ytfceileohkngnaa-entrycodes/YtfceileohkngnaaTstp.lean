/- JournalTorn: a round of each of its loops, in plain words. -/
import Derived.Test.YtfceileohkngnaaTapp
namespace Go.Proofs.Ytfceileohkngnaa
open Go.RowKit
set_option linter.unusedVariables false
set_option maxRecDepth 4000

theorem part_in {w1 wr : World} {a : Option Addr} {l : List (List Int)} (h : PartsA w1 a l) (hb : Below w1.heap.size w1 wr) (hl : ∀ q ∈ l, Byt q ∧ q.length ≤ 300) {k : Nat} (hk : k < l.length) :
    ∃ b off a' c', a = some ⟨b, off, none⟩ ∧ wr.cell? ⟨b, off + k, none⟩ = some (.slice a' (l.getD k []).length c') ∧ BysA wr a' (l.getD k []) ∧ Byt (l.getD k []) ∧ (l.getD k []).length ≤ 300 ∧ (k : Int) < (l.length : Int) ∧ l.take (k + 1) = l.take k ++ [l.getD k []] ∧ (l.take k).length = k ∧ (∀ b ∈ l.take k, b.length ≤ 400) ∧ (l.getD k [] ≠ [] → ∀ x off, a' = some ⟨x, off, none⟩ → x < w1.heap.size) := by
  obtain ⟨b, off, a', c', e, h1, h2⟩ := part_at (partsA_below h hb) hk
  obtain ⟨b', off', a'', c'', e', h1', h2'⟩ := part_at h hk
  obtain ⟨g1, g2⟩ := hl _ (getD_mem hk)
  refine ⟨b, off, a', c', e, h1, h2, g1, g2, by omega, takes_snoc l k hk, by rw [List.length_take]; omega, fun b hb => by have := (hl b (List.mem_of_mem_take hb)).2; omega, ?_⟩
  rw [e] at e'
  cases e'
  rw [hb.cell (World.block_lt_of_cell? _ _ h1'), h1'] at h1
  cases h1
  exact bys_lt h2'
theorem app_step {wr : World} {B g gs : Nat} {S : List Sct} {j : Nat} {ep : Int} {L : List (List Int)} {R : List Sct} (h : Hold wr B g gs S j 0 140 ep L R) (hL : L.length ≤ 18) (hLb : ∀ b ∈ L, b.length ≤ 400) {a' : Option Addr} {p : List Int} (hB : Byt p) (hl : p.length ≤ 300) (hby : BysA wr a' p) (c' : Nat) {w1 : World} (hb : Below w1.heap.size w1 wr) (hBw : w1.heap.size = B) (hj : B ≤ j) (hS : S.length = 140) :
    Calls Try.prog 21 #[.pointer (some ⟨j, 0, none⟩), .slice (some ⟨wr.heap.size, 0, none⟩) 1 1] (wr.alloc (.cells #[.slice a' p.length c'] 23)) fun e w' => e = .returned (.int .i64 0) ∧ ∃ S', (S' = overS S (0 + (entsS ep 0 L).length) (entS ep L.length p)) ∧ Hold w' B g gs S' j 0 140 ep (L ++ [p]) (R.drop (entS ep L.length p).length) ∧ TurnJ B g gs j wr w' ∧ S'.length = 140 ∧ Below w1.heap.size w1 w' := by
  subst hBw
  refine (app_torn h hL hLb hB (by omega) hby c').mono ?_
  rintro e w' ⟨rfl, hh, ht, hlen⟩
  obtain ⟨l1, l2, l3, l4⟩ := h.dsk.lt
  exact ⟨rfl, _, rfl, hh, ht, by rw [hlen, hS], hb.trans (ht.below hb.size l3 l4 hj)⟩
/-- Elder entries: the disk is old to epoch 2. -/
theorem old_step {wr : World} {B g gs : Nat} {S : List Sct} {j : Nat} {L : List (List Int)} {R : List Sct} (h : Hold wr B g gs S j 0 140 1 L R) (hL : L.length ≤ 18) (hLb : ∀ b ∈ L, b.length ≤ 400) {a' : Option Addr} {p : List Int} (hB : Byt p) (hl : p.length ≤ 300) (hby : BysA wr a' p) (c' : Nat) {w1 : World} (hb : Below w1.heap.size w1 wr) (hBw : w1.heap.size = B) (hj : B ≤ j) (hS : S.length = 140) (hO : Old 2 S) {b2 q qs : Nat} {S2 : List Sct} (d2 : Dsk 74 117 wr b2 q qs S2 []) (hne : qs ≠ gs) :
    Calls Try.prog 21 #[.pointer (some ⟨j, 0, none⟩), .slice (some ⟨wr.heap.size, 0, none⟩) 1 1] (wr.alloc (.cells #[.slice a' p.length c'] 23)) fun e w' => e = .returned (.int .i64 0) ∧ ∃ S' R', Hold w' B g gs S' j 0 140 1 (L ++ [p]) R' ∧ Old 2 S' ∧ S'.length = 140 ∧ Dsk 74 117 w' b2 q qs S2 [] ∧ Below w1.heap.size w1 w' := by
  refine (app_step h hL hLb hB hl hby c' hb hBw hj hS).mono ?_
  rintro e w' ⟨rfl, S', hS', hh, ht, hlen, hbb⟩
  exact ⟨rfl, S', _, hh, by rw [hS']; exact old_over hO (old_ent (by omega) (by decide) _ _ hB) _, hlen, h.beside d2 hne ht, hbb⟩
/-- Entries ahead: what is behind them is old. -/
theorem new_step {wr : World} {B g gs : Nat} {S : List Sct} {j : Nat} {L : List (List Int)} {R : List Sct} (h : Hold wr B g gs S j 0 140 2 L R) (hL : L.length ≤ 18) (hLb : ∀ b ∈ L, b.length ≤ 400) {a' : Option Addr} {p : List Int} (hB : Byt p) (hl : p.length ≤ 300) (hby : BysA wr a' p) (c' : Nat) {w1 : World} (hb : Below w1.heap.size w1 wr) (hBw : w1.heap.size = B) (hj : B ≤ j) (hS : S.length = 140) (hO : Old 2 R) {b2 q qs : Nat} {S2 : List Sct} (d2 : Dsk 74 117 wr b2 q qs S2 []) (hne : qs ≠ gs) :
    Calls Try.prog 21 #[.pointer (some ⟨j, 0, none⟩), .slice (some ⟨wr.heap.size, 0, none⟩) 1 1] (wr.alloc (.cells #[.slice a' p.length c'] 23)) fun e w' => e = .returned (.int .i64 0) ∧ ∃ S' R', Hold w' B g gs S' j 0 140 2 (L ++ [p]) R' ∧ Old 2 R' ∧ S'.length = 140 ∧ Dsk 74 117 w' b2 q qs S2 [] ∧ Below w1.heap.size w1 w' := by
  refine (app_step h hL hLb hB hl hby c' hb hBw hj hS).mono ?_
  rintro e w' ⟨rfl, S', hS', hh, ht, hlen, hbb⟩
  exact ⟨rfl, S', _, hh, hO.drop _, hlen, h.beside d2 hne ht, hbb⟩
/-- Entries behind the crash: nothing else is asked. -/
theorem then_step {wr : World} {B g gs : Nat} {S : List Sct} {j : Nat} {L : List (List Int)} {R : List Sct} (h : Hold wr B g gs S j 0 140 2 L R) (hL : L.length ≤ 18) (hLb : ∀ b ∈ L, b.length ≤ 400) {a' : Option Addr} {p : List Int} (hB : Byt p) (hl : p.length ≤ 300) (hby : BysA wr a' p) (c' : Nat) {w1 : World} (hb : Below w1.heap.size w1 wr) (hBw : w1.heap.size = B) (hj : B ≤ j) (hS : S.length = 140) (hO : Old 2 R) :
    Calls Try.prog 21 #[.pointer (some ⟨j, 0, none⟩), .slice (some ⟨wr.heap.size, 0, none⟩) 1 1] (wr.alloc (.cells #[.slice a' p.length c'] 23)) fun e w' => e = .returned (.int .i64 0) ∧ ∃ S' R', Hold w' B g gs S' j 0 140 2 (L ++ [p]) R' ∧ Old 2 R' ∧ S'.length = 140 ∧ TurnJ B g gs j wr w' ∧ Below w1.heap.size w1 w' := by
  refine (app_step h hL hLb hB hl hby c' hb hBw hj hS).mono ?_
  rintro e w' ⟨rfl, S', hS', hh, ht, hlen, hbb⟩
  exact ⟨rfl, S', _, hh, hO.drop _, hlen, ht, hbb⟩
/-- What the reference's journal and the program's disk are beside each other. -/
def RefAt (w : World) (b2 q qs p : Nat) (ep : Int) (L : List (List Int)) (B g gs : Nat) (S : List Sct) : Prop :=
  ∃ S2 Al cl hs, Dsk 74 117 w b2 q qs S2 [] ∧ S2.length = 140 ∧ Rj w p q 0 140 ep Al L.length cl (entsS ep 0 L).length ∧ Ls w Al hs L ∧ Dsk 102 120 w B g gs S []
theorem ref_step {wr : World} {b2 q qs p : Nat} {ep : Int} {L : List (List Int)} {B g gs : Nat} {S : List Sct} (h : RefAt wr b2 q qs p ep L B g gs S) (hne : qs ≠ gs) {A : Option Addr} {b : List Int} (c' : Nat) (hA : BysA wr A b) (hB : Byt b) (hl : b.length ≤ 300) {w1 : World} (hlt : b ≠ [] → ∀ x off, A = some ⟨x, off, none⟩ → x < w1.heap.size) (hb : Below w1.heap.size w1 wr) (hBw : w1.heap.size = B) (hBb : B ≤ b2) (hep : 0 ≤ ep ∧ ep ≤ 4294967295) (hL : L.length ≤ 18) (hLb : ∀ b ∈ L, b.length ≤ 400) (hp : b2 ≤ p) :
    Calls Try.prog 22 #[.pointer (some ⟨p, 0, none⟩), .slice A b.length c'] wr fun e w' => e = .returned (.int .i64 0) ∧ RefAt w' b2 q qs p ep (L ++ [b]) B g gs S ∧ Below w1.heap.size w1 w' := by
  subst hBw
  obtain ⟨S2, Al, cl, hs, h1, h2, h3, h4, h5⟩ := h
  refine (rapp_torn h1 h2 h3 h4 h5 (Ne.symm hne) c' hA hB (by omega) (fun h0 x off e => Nat.lt_of_lt_of_le (hlt h0 x off e) hBb) hBb hep hL hLb hp).mono ?_
  rintro e w' ⟨rfl, S2', Al', cl', hs', k1, k2, k3, k4, k5, k6⟩
  exact ⟨rfl, ⟨S2', Al', cl', hs', k1, k2, k3, k4, k5⟩, hb.trans k6⟩
theorem ref_next {wr : World} {b2 q qs p : Nat} {ep : Int} {L : List (List Int)} {B g gs : Nat} {S : List Sct} (h : RefAt wr b2 q qs p ep L B g gs S) (hne : qs ≠ gs) {w1 : World} (hb : Below w1.heap.size w1 wr) (hBw : w1.heap.size = B) (hBb : B ≤ b2) (hp : b2 ≤ p) :
    Calls Try.prog 25 #[.pointer (some ⟨p, 0, none⟩), .int .u32 2] wr fun e w' => e = .returned (.tuple #[]) ∧ RefAt w' b2 q qs p 2 [] B g gs S ∧ Below w1.heap.size w1 w' := by
  subst hBw
  obtain ⟨S2, Al, cl, hs, h1, h2, h3, h4, h5⟩ := h
  refine (rnext_torn h1 h3 h5 (Ne.symm hne) hBb hp).mono ?_
  rintro e w' ⟨rfl, k1, k2, k3, k4⟩
  exact ⟨rfl, ⟨S2, none, 0, [], k1, h2, k2, ls_none _, k3⟩, hb.trans k4⟩
theorem ref_open {wr : World} {b2 q qs : Nat} (h : Dsk 74 117 wr b2 q qs (List.replicate 140 zeroS) []) {B g gs : Nat} {S : List Sct} (hd : Dsk 102 120 wr B g gs S []) {w1 : World} (hb : Below w1.heap.size w1 wr) (hb2 : b2 ≤ wr.heap.size) :
    Calls Try.prog 20 #[.pointer (some ⟨q, 0, none⟩), .int .i64 0, .int .i64 140, .int .u32 1] wr fun e w' => ∃ p, e = .returned (.tuple #[.pointer (some ⟨p, 0, none⟩), .int .i64 0]) ∧ RefAt w' b2 q qs p 1 [] B g gs S ∧ b2 ≤ p ∧ Below w1.heap.size w1 w' := by
  refine (ropen_none wr h 0 140 1 (by omega) (by simp) (by decide)).mono ?_
  rintro e w' ⟨p, rfl, hj, hp, hbb⟩
  exact ⟨p, rfl, ⟨_, none, 0, [], h.below hbb, by simp, hj, ls_none _, hd.below hbb⟩, by omega, below_then hb hbb⟩
theorem op_step {W : World} {B g gs : Nat} {S : List Sct} (h : Dsk 102 120 W B g gs S []) (hS : S.length = 140) {L : List (List Int)} {R : List Sct} (hr : S.drop 0 = entsS 2 0 L ++ R) (hO : Old 2 R) (hL : L.length ≤ 19) (hB : ∀ b ∈ L, Byt b ∧ b.length ≤ 400) {w1 : World} (hb : Below w1.heap.size w1 W) :
    Calls Try.prog 19 #[.pointer (some ⟨g, 0, none⟩), .int .i64 0, .int .i64 140, .int .u32 2] W fun e w' => ∃ j, e = .returned (.tuple #[.pointer (some ⟨j, 0, none⟩), .int .i64 0]) ∧ Hold w' B g gs S j 0 140 2 L R ∧ w1.heap.size ≤ j ∧ Below w1.heap.size w1 w' := by
  have hfew := ents_few 2 L 0 (fun b hb => (hB b hb).2)
  refine (open_hold W h 0 140 2 (by omega) (by omega) (by omega) (by omega) L R hr (fun b hb => ⟨(hB b hb).1, by have := (hB b hb).2; omega⟩) (by omega) hO (by omega)).mono ?_
  rintro e w' ⟨j, rfl, hh, hz, hbb⟩
  exact ⟨j, rfl, hh, Nat.le_trans hb.size hz, below_then hb hbb⟩
theorem op_first {W : World} {B g gs : Nat} (h : Dsk 102 120 W B g gs (List.replicate 140 zeroS) []) {w1 : World} (hb : Below w1.heap.size w1 W) :
    Calls Try.prog 19 #[.pointer (some ⟨g, 0, none⟩), .int .i64 0, .int .i64 140, .int .u32 1] W fun e w' => ∃ j, e = .returned (.tuple #[.pointer (some ⟨j, 0, none⟩), .int .i64 0]) ∧ Hold w' B g gs (List.replicate 140 zeroS) j 0 140 1 [] (List.replicate 140 zeroS) ∧ w1.heap.size ≤ j ∧ Below W.heap.size W w' ∧ Below w1.heap.size w1 w' := by
  refine (open_hold W h 0 140 1 (by omega) (by omega) (by simp) (by omega) [] (List.replicate 140 zeroS) rfl (fun b hb => by cases hb) (by simp) (old_zero 1 140) (by simp [entsS])).mono ?_
  rintro e w' ⟨j, rfl, hh, hz, hbb⟩
  exact ⟨j, rfl, hh, Nat.le_trans hb.size hz, hbb, below_then hb hbb⟩
theorem next_step {wr : World} {B g gs : Nat} {S : List Sct} {j : Nat} {L : List (List Int)} {R : List Sct} (h : Hold wr B g gs S j 0 140 1 L R) {w1 : World} (hb : Below w1.heap.size w1 wr) (hBw : w1.heap.size = B) (hj : B ≤ j) (hO : Old 2 S) {b2 q qs : Nat} {S2 : List Sct} (d2 : Dsk 74 117 wr b2 q qs S2 []) (hne : qs ≠ gs) :
    Calls Try.prog 24 #[.pointer (some ⟨j, 0, none⟩), .int .u32 2] wr fun e w' => e = .returned (.tuple #[]) ∧ (∃ R, Hold w' B g gs S j 0 140 2 [] R ∧ Old 2 R) ∧ Dsk 74 117 w' b2 q qs S2 [] ∧ Below w1.heap.size w1 w' := by
  subst hBw
  obtain ⟨l1, l2, l3, l4⟩ := h.dsk.lt
  refine (h.next 2 (by omega) hj).mono ?_
  rintro e w' ⟨rfl, hh, ht⟩
  exact ⟨rfl, ⟨_, hh, hO.drop _⟩, h.beside d2 hne ht, hb.trans (ht.below hb.size l3 l4 hj)⟩
end Go.Proofs.Ytfceileohkngnaa
