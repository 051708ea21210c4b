/- Contract of Append. -/
import Derived.Test.YtfceileohkngnaaJops
namespace Go.Proofs.Ytfceileohkngnaa
open Go.RowKit
set_option linter.unusedVariables false
set_option maxRecDepth 4000

/-- Nothing has turned but the blocks of a disk, a journal's own and, from base on, rows of pending writes. -/
structure TurnJ (base g gs j : Nat) (w w' : World) : Prop where
  os : w'.os = w.os
  tape : w'.tape = w.tape
  output : w'.output = w.output
  size : w.heap.size ≤ w'.heap.size
  block : ∀ b, b < w.heap.size → b ≠ g → b ≠ gs → b ≠ j → (b < base ∨ ∀ cur fr, w.heap[b]? ≠ some (.cells cur 120 fr)) → w'.heap[b]? = w.heap[b]?
theorem TurnJ.of_turned {base g gs j : Nat} {w w' : World} (h : Turned 120 base g gs w w') : TurnJ base g gs j w w' := ⟨h.os, h.tape, h.output, h.size, fun b h1 h2 h3 _ h5 => h.block b h1 h2 h3 h5⟩
theorem TurnJ.of_below {base g gs j : Nat} {w w' : World} (h : Below w.heap.size w w') : TurnJ base g gs j w w' := .of_turned (.of_below h)
theorem TurnJ.trans {base g gs j : Nat} {a b c : World} (h : TurnJ base g gs j a b) (k : TurnJ base g gs j b c) : TurnJ base g gs j a c := by
  refine ⟨k.os.trans h.os, k.tape.trans h.tape, k.output.trans h.output, Nat.le_trans h.size k.size, fun i hi h1 h2 h3 h4 => ?_⟩
  have e := h.block i hi h1 h2 h3 h4
  rw [k.block i (Nat.lt_of_lt_of_le hi h.size) h1 h2 h3 (by rw [e]; exact h4), e]
theorem TurnJ.below {base g gs j : Nat} {w w' : World} (h : TurnJ base g gs j w w') (hb : base ≤ w.heap.size) (h1 : base ≤ g) (h2 : base ≤ gs) (h3 : base ≤ j) : Below base w w' :=
  ⟨h.os, h.tape, h.output, h.size, fun k hk => h.block k (by omega) (by omega) (by omega) (by omega) (.inl hk)⟩
theorem TurnJ.set {base g gs j : Nat} {w w' : World} (h : TurnJ base g gs j w w') (i : Nat) (u : Value) : TurnJ base g gs j w (w'.setCell ⟨j, i, none⟩ u) :=
  ⟨h.os, h.tape, h.output, by simp only [World.setCell, Array.size_modify]; exact h.size, fun b h1 h2 h3 h4 h5 => by rw [Below.heap_setCell _ _ _ _ (show b ≠ j from h4)]; exact h.block b h1 h2 h3 h4 h5⟩
theorem Dsk.set_other {w : World} {base g gs : Nat} {S : List Sct} {P : List (Nat × Sct)} (h : Dsk 102 120 w base g gs S P) {j : Nat} {c : Array Value} (hj : w.heap[j]? = some (.cells c 106 (0, 0))) (i : Nat) (u : Value) : Dsk 102 120 (w.setCell ⟨j, i, none⟩ u) base g gs S P := by
  obtain ⟨pv, hg, h1, h2, hS, hP, h3, h4⟩ := h
  have n1 : g ≠ j := by rintro rfl; rw [hj] at hg; cases hg
  have n2 : gs ≠ j := by
    rintro rfl
    obtain ⟨⟨cur, hs, _⟩, _⟩ := hS
    rw [hj] at hs; cases hs
  refine ⟨pv, by rw [Below.heap_setCell _ _ _ _ n1]; exact hg, h1, h2, hS.of_block (Below.heap_setCell _ _ _ _ n2), own_of_block hP (fun k hk => Below.heap_setCell _ _ _ _ ?_), h3, h4⟩
  intro e
  obtain ⟨_, cur, hc⟩ := own_block hP hk
  rw [show k = j from e, hj] at hc
  cases hc

/-- The sectors of an entry of a journal. -/
def entS (ep : Int) (c : Nat) (b : List Int) : List Sct := cutS (entL 1 ep c b)
theorem entS_len (ep : Int) (c : Nat) (b : List Int) : (entS ep c b).length = (b.length + 77) / 63 := by unfold entS; rw [cutS_len, pieces_ent]

/-- Too long. -/
theorem append_long {w : World} {j g fr tt : Nat} {ep : Int} {en : Nat} {ct : Int} (hj : Jr w j g fr tt ep en ct) (A : Option Addr) (pss : List (List Int)) (cap : Nat) (hp : PartsA w A pss) (hl : pss.length ≤ 100) (hf : (flk pss pss.length).length ≤ 10000) (hb : 4000 < (flk pss pss.length).length) :
    Calls Try.prog 21 #[.pointer (some ⟨j, 0, none⟩), .slice A pss.length cap] w fun e w' => e = .returned (.int .i64 2) ∧ w' = w := by
  have HN := need_all A pss cap w hp hl hf
  rw [needI_big (by omega)] at HN
  have HN := hide HN
  generalize pss.length = n at *
  go_enter Try.func21, Try.ntmps21
  go_wp2_with (go_at_call 48; (with_reducible refine (unhide HN).mono ?_); rintro e w' ⟨rfl, rfl⟩)
  go_ret
  exact ⟨rfl, rfl⟩

theorem needI_nat {n : Nat} (h : n ≤ 4000) : needI (n : Int) = (((n + 77) / 63 : Nat) : Int) := by unfold needI; rw [if_neg (by omega)]; omega

/-- No room. -/
theorem append_full {w : World} {j g fr tt : Nat} {ep : Int} {en : Nat} {ct : Int} (hj : Jr w j g fr tt ep en ct) (h1 : en ≤ tt) (h2 : tt ≤ 100000) (A : Option Addr) (pss : List (List Int)) (cap : Nat) (hp : PartsA w A pss) (hl : pss.length ≤ 100) (hf : (flk pss pss.length).length ≤ 4000) (hb : tt - en < ((flk pss pss.length).length + 77) / 63) :
    Calls Try.prog 21 #[.pointer (some ⟨j, 0, none⟩), .slice A pss.length cap] w fun e w' => e = .returned (.int .i64 12) ∧ Below w.heap.size w w' := by
  have HN := need_all A pss cap w hp hl (by omega)
  rw [needI_nat hf] at HN
  have HN := hide HN
  have HR := hide (room_any hj h1 h2)
  have hq : 0 < ((flk pss pss.length).length + 77) / 63 := by omega
  generalize ((flk pss pss.length).length + 77) / 63 = q at *
  generalize tt - en = r at *
  generalize pss.length = n at *
  have hq' : ¬ (q : Int) = 0 := by omega
  have hqr : (r : Int) < (q : Int) := by omega
  clear hf hp
  go_enter Try.func21, Try.ntmps21
  go_wp2_with (first
    | (go_at_call 48; (with_reducible refine (unhide HN).mono ?_); rintro e w' ⟨rfl, rfl⟩)
    | (go_at_call 30; (with_reducible refine (unhide HR).mono ?_); rintro e w' ⟨rfl, k, rfl⟩))
  go_ret
  exact ⟨rfl, below_drewN (Below.refl _ _) _⟩

theorem Jr.ne {w : World} {base g gs : Nat} {S : List Sct} {P : List (Nat × Sct)} (h : Dsk 102 120 w base g gs S P) {j g' fr tt : Nat} {ep : Int} {en : Nat} {ct : Int} (hj : Jr w j g' fr tt ep en ct) : j ≠ g ∧ j ≠ gs := by
  obtain ⟨pv, hg, h1, h2, hS, hP, h3, h4⟩ := h
  unfold Jr at hj
  refine ⟨?_, ?_⟩
  · rintro rfl; rw [hj] at hg; cases hg
  · rintro rfl
    obtain ⟨⟨cur, hs, _⟩, _⟩ := hS
    rw [hj] at hs; cases hs

theorem lay_enc {base g gs : Nat} {S : List Sct} {w W3 : World} (h : Dsk 102 120 w base g gs S []) (hb : Below w.heap.size w W3) {B0 q c en : Nat} {T : List Sct} (hB0 : w.heap.size ≤ B0) (ho : W3.ownsRow B0 75 64 (.slice (some ⟨q, 0, none⟩) T.length c) T.length (flatS T)) (h0 : 0 < T.length) (hl : en + T.length ≤ S.length) (W : World) (hW : Below W3.heap.size W3 W) :
    Calls Try.prog 50 #[.iface 46 (.pointer (some ⟨g, 0, none⟩)), .int .i64 en, .slice (some ⟨q, 0, none⟩) T.length c] W fun e w' => e = .returned (.int .i64 0) ∧ Dsk 102 120 w' base g gs (layS S en T) [] ∧ Turned 120 base g gs W w' := by
  obtain ⟨A, c', e, hs, hc⟩ := own_scs ho
  cases e
  obtain ⟨l1, l2, _, _⟩ := h.lt
  have hq := own_block ho (g := q) rfl
  obtain ⟨hq1, cur, hq2⟩ := hq
  have hq3 := lt_of_get hq2
  have hWq : W.heap[q]? = some (.cells cur 75 (0, 0)) := (hW.block q hq3).trans hq2
  exact lay_any W (h.below (below_then hb hW)) en T q c h0 (hs.below hW) hc ⟨lt_of_get hWq, by omega, by omega, .inr (fun cur' fr e => by rw [hWq] at e; cases e)⟩ hl

set_option maxRecDepth 100000 in
set_option maxHeartbeats 4000000 in
theorem append_yes {base g gs : Nat} {S : List Sct} {w : World} (h : Dsk 102 120 w base g gs S []) {j fr tt : Nat} {ep : Int} (hep : 0 ≤ ep ∧ ep ≤ 4294967295) {en ct : Nat} (hct : ct ≤ 100000) (hj : Jr w j g fr tt ep en (ct : Int)) (h1 : en ≤ tt) (h2 : tt ≤ S.length) (A : Option Addr) (pss : List (List Int)) (cap : Nat) (hp : PartsA w A pss) (hB : Byts pss) (hl : pss.length ≤ 100) (hf : (flk pss pss.length).length ≤ 4000) (hBf : Byt (flk pss pss.length)) (hb : ((flk pss pss.length).length + 77) / 63 ≤ tt - en) :
    Calls Try.prog 21 #[.pointer (some ⟨j, 0, none⟩), .slice A pss.length cap] w fun e w' => e = .returned (.int .i64 0) ∧ Dsk 102 120 w' base g gs (layS S en (entS ep ct (flk pss pss.length))) [] ∧ Jr w' j g fr tt ep (en + (entS ep ct (flk pss pss.length)).length) ((ct + 1 : Nat) : Int) ∧ TurnJ base g gs j w w' := by
  have hS : S.length ≤ 4096 := by obtain ⟨_, _, _, _, _, _, _, h'⟩ := h; exact h'
  have hjl := lt_of_get hj
  have hdl := h.lt
  have hN := need_all A pss cap w hp hl (by omega)
  rw [needI_nat hf, ← entS_len ep ct] at hN
  rw [← entS_len ep ct] at hb
  have HN := hide hN
  clear hN
  have HR := hide (room_any hj h1 (by omega))
  have HCO := hide (fun (W : World) (hW : Below w.heap.size w W) => concat_all A pss cap W (partsA_below hp hW) hB hl (by omega))
  have HEN : Hid (∀ (W : World) (B : Option Addr) (c : Nat), BysA W B (flk pss pss.length) → Calls Try.prog 7 #[.agg #[.int .i64 1, .int .u32 ep, .int .u32 (ct : Int), .slice B (flk pss pss.length).length c]] W fun x w' => ∃ q c, x = .returned (.tuple #[.slice (some ⟨q, 0, none⟩) (entS ep ct (flk pss pss.length)).length c, .int .i64 0]) ∧ w'.ownsRow W.heap.size 75 64 (.slice (some ⟨q, 0, none⟩) (entS ep ct (flk pss pss.length)).length c) (entS ep ct (flk pss pss.length)).length (flatS (entS ep ct (flk pss pss.length))) ∧ Below W.heap.size W w') := fun W B c hBy => encode_ok 1 ep ct (by omega) hep (by omega) B _ c hf hBf W hBy
  have hT0 : 0 < (entS ep ct (flk pss pss.length)).length := by rw [entS_len]; omega
  generalize entS ep ct (flk pss pss.length) = T at *
  generalize flk pss pss.length = F at *
  generalize pss.length = n at *
  have HNE := hide (hj.ne h)
  have HD := hide h
  have HJ := hide hj
  have HJC := hide (fun (W : World) (hW : Below w.heap.size w W) => (hj.below hW).cells)
  clear hp hB hf hBf h hj
  have hq' : ¬ (T.length : Int) = 0 := by omega
  have hqr : ¬ ((tt - en : Nat) : Int) < (T.length : Int) := by omega
  have HLEN : Hid (en + T.length ≤ S.length) := by show _ ≤ _; omega
  go_enter Try.func21, Try.ntmps21
  go_wp2_with (first
    | (go_at_call 48; (with_reducible refine (unhide HN).mono ?_); rintro e w ⟨rfl, rfl⟩)
    | (go_at_call 30; (with_reducible refine (unhide HR).mono ?_); rintro e w1 ⟨rfl, k, hw1⟩; have hb1 : Below w.heap.size w w1 := (by rw [hw1]; exact below_drewN (Below.refl _ _) _); clear hw1))
  obtain ⟨c0, c1, c2, c3, c4, c5⟩ := unhide HJC w1 hb1
  have HB1 := hide hb1
  have hj1 : j < w1.heap.size := Nat.lt_of_lt_of_le hjl hb1.size
  have HKEEP := hide (fun (W : World) (h : Below w1.heap.size w1 W) => (⟨h, (h.cell (p := ⟨j, 3, none⟩) hj1).trans c3, (h.cell (p := ⟨j, 5, none⟩) hj1).trans c5⟩ : Below w1.heap.size w1 W ∧ W.cell? ⟨j, 3, none⟩ = some (.int .u32 ep) ∧ W.cell? ⟨j, 5, none⟩ = some (.int .u32 (ct : Int))))
  clear HN HR c0 c1 c2 c4 hb1
  go_region_held3 (fun W => Below w1.heap.size w1 W ∧ W.cell? ⟨j, 3, none⟩ = some (.int .u32 ep) ∧ W.cell? ⟨j, 5, none⟩ = some (.int .u32 (ct : Int))) ((go_split_ands; refine unhide HKEEP _ ?_; repeat (first | assumption | exact Below.refl _ _ | apply Below.drew | apply below_alloc))) (first
    | (go_at_call 7; go_split_ands; (with_reducible refine (unhide HEN _ _ _ (unhide HY2)).mono ?_); rintro e w3 ⟨q, c, rfl, ho3, hb3⟩; have hbw3 : Below w1.heap.size w1 w3 := (below_then hbw2 hb3); have HB3 := hide (below_then (unhide HB2) hb3); have HL3 := hide (lay_enc (en := en) (unhide HD) (unhide HB3) (unhide HB2).size ho3 hT0 (unhide HLEN)); obtain ⟨g0, g1, g2, g3, g4, g5⟩ := unhide HJC _ (unhide HB3); clear ho3 hb3 g1 g2 g3 g5)
    | (go_at_call 49; go_split_ands; (with_reducible refine (unhide HCO _ ?_).mono ?_); (focus (refine below_then (unhide HB1) ?_; repeat (first | assumption | exact Below.refl _ _ | apply Below.drew | apply below_alloc))); rintro e w2 ⟨B, cB, rfl, hy2, hb2⟩; have hbw2 : Below w1.heap.size w1 w2 := (below_then (by repeat (first | assumption | exact Below.refl _ _ | apply Below.drew | apply below_alloc)) hb2); have HY2 := hide hy2; have HB2 := hide (below_then (unhide HB1) hbw2); clear hy2 hb2))
  all_goals
    go_wp2
    go_region_with (go_at_call 50; (with_reducible refine (unhide HL3 _ ?_).mono ?_); (focus (repeat (first | exact Below.refl _ _ | (with_reducible refine Below.drew ?_)))); rintro e w4 ⟨rfl, hd4, ht4⟩; have HD4 := hide hd4; have HT4 := hide ht4; clear hd4 ht4)
  all_goals
    have hj4 := ((unhide HJ).below (Below.drew (unhide HB3))).turned (unhide HT4) (unhide HNE).1 (unhide HNE).2 (by decide)
    obtain ⟨p0, p1, p2, p3, p4, p5⟩ := hj4.cells
    have k4 := (heap_cell hj4 4).2
    have k5 := (heap_cell hj4 5).2
    have HJ4 := hide hj4
    have hwc : IntKind.u32.wrap ((ct : Int) + 1) = (ct : Int) + 1 := by rw [IntKind.wrap_u32]; omega
    clear hj4 p0 p1 p2 p3
    go_wp2
    go_ret
    have s1 := heap_set (unhide HJ4) 5 (.int .u32 ((ct : Int) + 1))
    refine ⟨rfl, ?_, ?_, ?_⟩
    · exact ((unhide HD4).set_other (unhide HJ4) _ _).set_other s1 _ _
    · unfold Jr
      have s2 := heap_set s1 4 (.int .i64 ((en : Int) + (T.length : Int)))
      exact s2
    · exact (((TurnJ.of_below (Below.drew (unhide HB3))).trans (.of_turned (unhide HT4))).set _ _).set _ _
end Go.Proofs.Ytfceileohkngnaa
