/- What the laws' own 'wakes' comes to: true; old memory is as it was. -/
import Derived.Test.YtpaolllkpmkgkaaDec6
import Derived.Test.YtpaolllkpmkgkaaBackM
namespace Go.Proofs.Ytpaolllkpmkgkaa
open Go.RowKit
set_option linter.unusedVariables false
set_option maxRecDepth 4000

/-- Decode of an entry's sectors, whatever stands behind. -/
theorem decode_ent (k e s : Int) (hk : 0 ≤ k ∧ k ≤ 255) (he : 0 ≤ e ∧ e ≤ 4294967295) (hs : 0 ≤ s ∧ s ≤ 4294967295) (b : List Int) (hl : b.length ≤ 4000) (hB : Byt b) (rest : List Sct) (A : Option Addr) (N cap : Nat) (w : World)
    (hN : N = (cutS (entL k e s b) ++ rest).length) (hA : ScsA w A (cutS (entL k e s b) ++ rest)) (hr : N ≤ 1000) (hcap : N ≤ cap) :
    Calls Try.prog 12 #[.slice A N cap] w fun x w' => ∃ B c, x = .returned (.tuple #[.agg #[.int .i64 k, .int .u32 e, .int .u32 s, .slice B b.length c], .int .i64 (cutS (entL k e s b)).length, .int .i64 0]) ∧ w'.ownsRow w.heap.size 5 1 (.slice B b.length c) b.length (b.map (Value.int .u8)) ∧ Below w.heap.size w w' := by
  subst hN
  have hE : Byt (entL k e s b) := entL_byt hk hB
  have hp := pieces_ent k e s b
  have hcl := cutS_len (entL k e s b)
  have ht : (cutS (entL k e s b) ++ rest).take (cutS (entL k e s b)).length = cutS (entL k e s b) := List.take_left' rfl
  have hj := join_cut (entL k e s b) hE
  have hpl := pad_len (entL k e s b)
  have hel := entL_len k e s b
  have := decode_yes A (cutS (entL k e s b) ++ rest) cap (cutS (entL k e s b)).length b.length (padL (entL k e s b)) w hA hr hcap (by rw [ext_cut k e s b hk hB hl, hcl]) (by omega) (by rw [List.length_append]; omega) (by omega) (by rw [ht]; exact marks_cut _) (by rw [ht]; exact hj)
    (by rw [hpl]; omega) (by unfold padL; rw [ent_lenL]; omega) (ent_whole _)
  unfold padL at this
  rw [ent_0, ent_1 he, ent_5 hs, ent_body] at this
  exact this

section
variable {ops : Array Oper} {rest : List Oper} {a : Act} {w : World} {Q : Exit → Act → World → Prop} {dst : Option Tmp} {ty : TypeId} {pos : String} {af : Array Edge}
theorem wpList_build1 (x : Operand) (m : Int) (hm : 0 ≤ m ∧ m ≤ 255) (hx : a.eval x = .int .u8 m)
    (h : wpList Try.prog ops Q rest (a.put dst (sv (mkS [m]))) w) : wpList Try.prog ops Q (⟨dst, .build 44 #[(0, x)], ty, pos, af, none⟩ :: rest) a w :=
  wpList_val rfl (exec_build1 x m hm hx) h
theorem wpList_bslS (x : Operand) (s : Sct) (hx : a.eval x = sv s)
    (h : ∀ w1, w.grownBy w1 none → RowA w1 (some ⟨w.heap.size, 0, none⟩) (bytes s) → wpList Try.prog ops Q rest (a.put dst (.slice (some ⟨w.heap.size, 0, none⟩) 1 1)) w1) :
    wpList Try.prog ops Q (⟨dst, .buildSlice 26 1 #[(0, x)], ty, pos, af, none⟩ :: rest) a w :=
  wpList_val rfl (exec_bsl x s hx) (h _ (World.grownBy_alloc _ _ _) (fun _ => ⟨_, 0, rfl, fun j u hj => by
    rw [cell_of_row _ _ _ _ _ _ (heap_alloc_last w _)]
    simpa using hj⟩))
theorem wpList_appendS (s x : Operand) (base : Nat) (v : Value) (S : List Sct) (T : List Sct) (hs : a.eval s = v) (hown : w.ownsRow base 44 64 v S.length (flatS S)) (A : Option Addr) (m c : Nat) (hm : m = T.length) (hx : a.eval x = .slice A m c) (hT : ScsA w A T)
    (hlen : S.length + T.length ≤ 100000) (hbase : base ≤ w.heap.size)
    (h : ∀ v' w1, w1.ownsRow base 44 64 v' (S ++ T).length (flatS (S ++ T)) → w.grownBy w1 v.ownBlock → wpList Try.prog ops Q rest (a.put dst v') w1) :
    wpList Try.prog ops Q (⟨dst, .call { callee := .builtin .append, args := #[s, x], argTypes := #[26, 26] }, ty, pos, af, none⟩ :: rest) a w := by
  subst hm
  obtain ⟨i, hi, hz⟩ := Try.zero44
  obtain ⟨i', hi', hz0, hz1, hz2⟩ := info_parts Try.info44
  obtain rfl : i' = i := by rw [hi'] at hi; exact (Option.some.inj hi)
  obtain ⟨v', w', hr, h2, h3, h4⟩ := run_append_row (P := Try.prog) (w := w) base 26 ty 44 i' (sv zeroS) 64 64 Try.underlying26 hi hz hz1 hz2 (by rw [sv_cells, List.size_toArray, bytes_len]) (by omega) v S.length (flatS S) hown A T.length c (flatS T) (flatS_len T) hT (flatS_oneCell T) (by omega) (by omega) hbase
  refine wpList_val (v := v') (w' := w') rfl ?_ (h v' w' (by rw [List.length_append, flatS_app]; exact h2) h3)
  unfold execOp
  simp only [resolve, invoke, builtin, Sem.run_bind, Sem.run_pure, Result.andThen_ok, List.map_toArray, List.map_cons, List.map_nil, hs, hx, hr]
end
theorem own_scs {w : World} {base : Nat} {v : Value} {S : List Sct} (h : w.ownsRow base 44 64 v S.length (flatS S)) : ∃ A cap, v = .slice A S.length cap ∧ ScsA w A S ∧ S.length ≤ cap := by
  rcases h.2 with ⟨rfl, h0⟩ | ⟨g, cap, cur, rfl, hb, hg, hnc, hcm, hcs, htk⟩
  · obtain rfl : S = [] := List.length_eq_zero_iff.1 h0
    exact ⟨none, 0, rfl, rowA_nil _ _, Nat.le_refl _⟩
  · refine ⟨_, cap, rfl, fun _ => ⟨g, 0, rfl, fun j u hj => ?_⟩, hnc⟩
    rw [Nat.zero_add, cell_of_row w g j cur 44 (0, 0) hg]
    rw [← htk, List.getElem?_take] at hj
    split at hj
    · simpa using hj
    · cases hj

/-- The first entry of the laws' own: its sectors. -/
def E1 : List Int := entL 1 2 3 [97, 98, 99]
theorem E1_len : (cutS E1).length = 1 := by decide +kernel
theorem E1_at : (cutS E1)[0]? = some (secOf 0 (chunk E1 0)) := cutS_get _ _ (by decide +kernel)
theorem E1_0 : (secOf 0 (chunk E1 0)).1.getD 0 0 = 87 := secOf_mark _ _
theorem E1_12 : (secOf 0 (chunk E1 0)).1.getD 12 0 = 97 := by decide +kernel
theorem E1_19 : (secOf 0 (chunk E1 0)).1.getD 19 0 = 0 := by decide +kernel
theorem byt_abc : Byt [97, 98, 99] := byt_of (by simp)
theorem abc : strOfNums [97, 98, 99] = ⟨#[97, 98, 99]⟩ := by decide +kernel

theorem sec_first {w : World} {g : Nat} (h : ScsA w (some ⟨g, 0, none⟩) (cutS E1)) : w.cell? ⟨g, 0, none⟩ = some (.int .u8 87) ∧ w.cell? ⟨g, 12, none⟩ = some (.int .u8 97) ∧ w.cell? ⟨g, 19, none⟩ = some (.int .u8 0) := by
  obtain ⟨b, off, e, hr⟩ := h.range (k := 0) (by rw [E1_len]; decide)
  cases e
  have h0 := hr 0 _ E1_at
  have a0 := secs_cell h0 0 (by omega)
  have a1 := secs_cell h0 12 (by omega)
  have a2 := secs_cell h0 19 (by omega)
  rw [E1_0] at a0
  rw [E1_12] at a1
  rw [E1_19] at a2
  exact ⟨by simpa using a0, by simpa using a1, by simpa using a2⟩
theorem below_grown {w w1 : World} (h : w.grownBy w1 none) : Below w.heap.size w w1 := (Below.refl _ _).grown h (Nat.le_refl _) (fun k e => by cases e)
theorem size_alloc_le (w : World) (o : Obj) : w.heap.size ≤ (w.alloc o).heap.size := by simp
theorem own_lit0 (w : World) : (w.alloc (.cells #[] 44)).ownsRow w.heap.size 44 64 (.slice (some ⟨w.heap.size, 0, none⟩) 0 0) ([] : List Sct).length (flatS []) :=
  ⟨rfl, .inr ⟨_, 0, #[], rfl, Nat.le_refl _, heap_alloc_last _ _, Nat.le_refl _, Nat.zero_le _, rfl, rfl⟩⟩

theorem need48 : needI 48 = 1 := by decide
theorem need49 : needI 49 = 2 := by decide
theorem conv_abc {w : World} {B : Option Addr} (h : BysA w B [97, 98, 99]) (c : Nat) : ∀ o, (convert 23 9 (.slice B 3 c)).run Try.prog (w.alloc o) = .ok (.string ⟨#[97, 98, 99]⟩) (w.alloc o) := fun o => by
  have := conv_any (cap := c) (bysA_alloc h o)
  rw [abc] at this
  exact this

set_option maxRecDepth 100000 in
set_option maxHeartbeats 1000000 in
theorem wakes_go (w : World) : Calls Try.prog 9 #[] w fun e w' => e = .returned (.bool true) ∧ Below w.heap.size w w' := by
  have hcv := conv_const
  have HEN : Hid (∀ (W : World) (N : Nat), BysA W (some ⟨N, 0, none⟩) [97, 98, 99] → Calls Try.prog 10 #[.agg #[.int .i64 1, .int .u32 2, .int .u32 3, .slice (some ⟨N, 0, none⟩) 3 3]] W fun x w' => ∃ g c, x = .returned (.tuple #[.slice (some ⟨g, 0, none⟩) 1 c, .int .i64 0]) ∧ w'.ownsRow W.heap.size 44 64 (.slice (some ⟨g, 0, none⟩) 1 c) (cutS E1).length (flatS (cutS E1)) ∧ Below W.heap.size W w') := fun W N hb => by
    have := encode_ok 1 2 3 (by omega) (by omega) (by omega) (some ⟨N, 0, none⟩) [97, 98, 99] 3 (by simp) byt_abc W hb
    rw [show entL 1 2 3 [97, 98, 99] = E1 from rfl, E1_len] at this
    rw [E1_len]
    exact this
  have HDE : Hid (∀ (W : World) (A : Option Addr) (c : Nat), ScsA W A (cutS E1 ++ [mkS [9]]) → 2 ≤ c → Calls Try.prog 12 #[.slice A 2 c] W fun x w' => ∃ B c', x = .returned (.tuple #[.agg #[.int .i64 1, .int .u32 2, .int .u32 3, .slice B 3 c'], .int .i64 1, .int .i64 0]) ∧ BysA w' B [97, 98, 99] ∧ Below W.heap.size W w') := fun W A c hA hc => by
    have hl2 : (cutS E1 ++ [mkS [9]]).length = 2 := by rw [List.length_append, E1_len]; rfl
    have := decode_ent 1 2 3 (by omega) (by omega) (by omega) [97, 98, 99] (by simp) byt_abc [mkS [9]] A 2 c W hl2.symm hA (by omega) hc
    rw [show entL 1 2 3 [97, 98, 99] = E1 from rfl, E1_len] at this
    refine this.mono ?_
    rintro x w' ⟨B, c', rfl, ho, hb⟩
    obtain ⟨A', c'', e', hy, _⟩ := own_bys ho
    cases e'
    exact ⟨_, _, rfl, hy, hb⟩
  go_enter Try.func9, Try.ntmps9
  go_wp2_with (first
    | (go_at_call 10; refine (unhide HEN _ _ (bys_lit rfl rfl)).mono ?_; rintro x w2 ⟨g, c, rfl, ho, hb2⟩; have HB2 := hide (below_then (below_alloc (Below.refl _ _) _) hb2); obtain ⟨A2, c2, e2, hsc, hc2⟩ := own_scs ho; rw [E1_len] at e2; cases e2; have HSC := hide hsc; have HL0 := hide (own_lit0 w2); have HSA := hide (ScsA.below hsc (below_alloc (Below.refl _ _) (.cells #[] 44))); have HZA := hide (size_alloc_le w2 (.cells #[] 44)); have hra := sec_first hsc; have k0 := hra.1; have k12 := hra.2.1; have k19 := hra.2.2; clear ho hb2 hsc hra)
    | ((with_reducible refine wpList_build1 _ 9 (by omega) ?_ ?_); (focus rfl))
    | ((with_reducible refine wpList_bslS _ (mkS [9]) ?_ ?_); (focus rfl); intro w4 hg4 hR4; have HO4 := hide (own_below (unhide HO3) (below_grown hg4)); have HB4 := hide (below_then (unhide HB3) (below_grown hg4)); have HR4 := hide (show ScsA w4 _ [mkS [9]] by unfold ScsA; rw [flatS_one]; exact hR4); clear hR4 hg4)
    | ((with_reducible refine wpList_appendS _ _ w.heap.size _ (cutS E1) [mkS [9]] ?_ (unhide HO4) _ 1 1 ?_ ?_ (unhide HR4) ?_ (unhide HB4).size ?_); (focus rfl); (focus rfl); (focus rfl); (focus (rw [E1_len]; decide)); intro v5 w5 hown5 hg5; have HB5 := hide ((unhide HB4).grown hg5 (unhide HB4).size (fun j hj => (own_block (unhide HO4) hj).1)); obtain ⟨A5, c5, e5, hs5, hc5⟩ := own_scs hown5; have hlen5 : (cutS E1 ++ [mkS [9]]).length = 2 := (by rw [List.length_append, E1_len]; rfl); rw [hlen5] at e5; subst e5; have HS5 := hide hs5; have HC5 := hide (And.intro hc5 hlen5); clear hs5 hown5 hg5 hc5 hlen5)
    | ((with_reducible refine wpList_appendS _ _ w2.heap.size (.slice (some ⟨w2.heap.size, 0, none⟩) 0 0) [] (cutS E1) ?_ (unhide HL0) (some ⟨g, 0, none⟩) 1 c ?_ ?_ (unhide HSA) ?_ (unhide HZA) ?_); (focus rfl); (focus (exact E1_len.symm)); (focus rfl); (focus (rw [E1_len]; decide)); intro v3 w3 hown3 hg3; have HB3 := hide ((below_alloc (unhide HB2) _).grown hg3 (Nat.le_trans (unhide HB2).size (size_alloc_le w2 _)) (fun j hj => by simp [Value.ownBlock] at hj; have := (unhide HB2).size; omega)); have HO3 := hide (own_mono hown3 (unhide HB2).size); clear hown3 hg3)
    | (go_at_call 12; refine (unhide HDE _ _ _ (unhide HS5) ?_).mono ?_; (focus (have := (unhide HC5).1; have := (unhide HC5).2; omega)); rintro x w6 ⟨B, c6, rfl, hy6, hb6⟩; have HB6 := hide (below_then (unhide HB5) hb6); have hcs := conv_abc hy6 c6; clear hy6 hb6)
    | (go_at_call 16; refine (need_any _ ?_ _).mono ?_; (focus omega); rintro x w7 ⟨rfl, rfl⟩; first | rw [need48] | rw [need49]))
  go_ret
  exact ⟨rfl, below_alloc (unhide HB6) _⟩
end Go.Proofs.Ytpaolllkpmkgkaa
