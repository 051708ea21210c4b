/- Contract: Read. -/
import Derived.Test.YtcakiohpkebmpaaWrite
import Derived.Test.YtcakiohpkebmpaaMath
namespace Go.Proofs.Ytcakiohpkebmpaa
open Go.RowKit
set_option linter.unusedVariables false

theorem ret_tup {x y : Value} (h : x = y) (k : Value) : Ending.returned (.tuple #[x, k]) = .returned (.tuple #[y, k]) := by rw [h]

section
variable {ops : Array Oper} {rest : List Oper} {a : Act} {w : World} {Q : Exit → Act → World → Prop} {dst : Option Tmp} {ty : TypeId} {pos : String} {af : Array Edge}
/-- '[64]byte{}'. -/
theorem wpList_buildZ (h : wpList Try.prog ops Q rest (a.put dst (sv zeroS)) w) : wpList Try.prog ops Q (⟨dst, .build 36 #[], ty, pos, af, none⟩ :: rest) a w := by
  obtain ⟨i36, hi36, hz36⟩ := Try.zero36
  have hs : i36.size = 64 := by have := Try.size36; rw [hi36] at this; simpa using this
  have h5 : (Try.prog.info? 5).map (·.size) = some 1 := by kernel_rfl
  obtain ⟨j5, hj5, hs5⟩ := Option.map_eq_some_iff.1 h5
  refine wpList_plain rfl fun K hK => ?_
  have hr : (Instr.build 36 #[]).run Try.prog w = .ok (sv zeroS) w := by
    simp only [Instr.build, zeroValue, typeInfo, Sem.run_bind, run_program, hi36, hz36, Sem.run_pure, Result.andThen_ok, run_underlying Try.underlying36, sizeOf, hj5, Instr.fill]
    rfl
  unfold Oper.wp execOp
  simp only [List.map_toArray, List.map_nil, Sem.run_bind, hr, Result.andThen_ok, Sem.run_pure]
  exact hK _ _ h
end

set_option maxHeartbeats 400000 in
theorem read_yes {base g gs : Nat} {S : List Sct} {P : List (Nat × Sct)} (w : World) (h : Dsk 62 65 w base g gs S P) (i : Nat) (hi : i < S.length) (hP : P.length ≤ 100001) :
    Calls Try.prog 15 #[.pointer (some ⟨g, 0, none⟩), .int .i64 i] w fun e w' => e = .returned (.tuple #[sv (readS S P i), .int .i64 0]) ∧ Below w.heap.size w w' := by
  obtain ⟨i36, hi36, hz36⟩ := Try.zero36
  have HD0 := hide h
  have hi' : (i : Int) < (S.length : Int) := by omega
  clear h
  go_enter Try.func15, Try.ntmps15
  go_wp2_with (first
    | (with_reducible refine wpList_allocT 36 i36 (sv zeroS) hi36 hz36 ?_; intro w1 hb1 hs1 hg1; have HD1 := hide ((unhide HD0).below hb1); obtain ⟨pv, A, cap, rfl, h0, h1, hPr⟩ := dsk_cells (unhide HD1); have HP := hide hPr; clear hPr)
    | (go_at_call 25; refine (has_yes _ (unhide HD1) i hi).mono ?_; rintro e w' ⟨rfl, rfl⟩))
  have hlt0 : w.heap.size < w'.heap.size := by omega
  have hX := secs_new hg1
  have HX := hide hX
  have hgs : SecsAt w' 36 gs S := by obtain ⟨_, _, _, _, hS, _⟩ := unhide HD1; exact hS
  have HG := hide hgs
  clear hX hgs hg1 hs1
  go_loop [6] (fun t => ∃ m : Nat, m ≤ P.length ∧ t = .int .i64 ((m : Int) - 1) ∧ ∀ (j : Nat) (q : Nat × Sct), m ≤ j → P[j]? = some q → q.1 ≠ i) (fun t => (intOf t + 1).toNat)
  case atStart => exact ⟨P.length, Nat.le_refl _, rfl, fun j q hj hq => by have := (List.getElem?_eq_some_iff.1 hq).1; omega⟩
  case round =>
    obtain ⟨m, hm, rfl, hno⟩ := hrel
    have HN := hide hno
    clear hno
    cases m with
    | zero =>
      have HE : Hid (readS S P i = S.getD i zeroS) := readS_miss S P i (fun j q hq => unhide HN j q (by omega) hq)
      have hrr : w'.rangeAt gs (i * 64) (bytes (S.getD i zeroS)) := by
        refine (unhide HG).2 i _ ?_
        rw [List.getD_eq_getElem?_getD, List.getElem?_eq_getElem hi]; rfl
      go_wp2_with (first
        | ((with_reducible refine wpList_loadS Try.underlying36 Try.size36 _ gs (i * 64) (S.getD i zeroS) ?_ hrr ?_); (focus rfl))
        | ((with_reducible refine wpList_storeS Try.size36 _ _ w.heap.size 0 (S.getD i zeroS) ?_ ?_ (secs_there (unhide HX)) ?_); (focus rfl); (focus rfl); intro w3 H3))
      have hX3 := secs_store (unhide HX) (S.getD i zeroS)
      rw [← unhide H3] at hX3
      refine ret_cellS2 rfl rfl rfl rfl (secs_range hX3) ⟨ret_tup (by rw [unhide HE]) _, ?_⟩
      rw [unhide H3]
      exact below_sets hb1 _ _ _ (Nat.le_refl _)
    | succ k =>
      have hk : k < P.length := by omega
      have hk' : (k : Int) < (P.length : Int) := by omega
      rw [show ((k + 1 : Nat) : Int) - 1 = (k : Int) by omega]
      obtain ⟨p, hp⟩ : ∃ p, P[k]? = some p := ⟨P[k], List.getElem?_eq_getElem hk⟩
      obtain ⟨gp, cap', hpv, hgp, hcap, _, hr⟩ := own_at (unhide HP) hp
      obtain ⟨rfl, rfl⟩ : A = some ⟨gp, 0, none⟩ ∧ cap = cap' := by simpa using hpv
      have hc := range_head hr
      have hrt := range_tail hr
      have HQ := hide hp
      clear hpv hp hr
      by_cases hpi : p.1 = i
      · have HE : Hid (readS S P i = p.2) := readS_hit S P i k p (unhide HQ) hpi (fun j q hj hq => unhide HN j q (by omega) hq)
        subst hpi
        go_wp2_with (first
          | ((with_reducible refine wpList_loadS Try.underlying36 Try.size36 _ gp (k * 65 + 1) p.2 ?_ hrt ?_); (focus rfl))
          | ((with_reducible refine wpList_storeS Try.size36 _ _ w.heap.size 0 p.2 ?_ ?_ (secs_there (unhide HX)) ?_); (focus rfl); (focus rfl); intro w3 H3))
        have hX3 := secs_store (unhide HX) p.2
        rw [← unhide H3] at hX3
        refine ret_cellS2 rfl rfl rfl rfl (secs_range hX3) ⟨ret_tup (by rw [unhide HE]) _, ?_⟩
        rw [unhide H3]
        exact below_sets hb1 _ _ _ (Nat.le_refl _)
      · have hpi' : ¬ (p.1 : Int) = (i : Int) := by omega
        go_wp2
        go_round
        case rel => exact ⟨k, by omega, rfl, fun j q hj hq => by
          by_cases hjk : j = k
          · subst hjk
            rw [unhide HQ, Option.some.injEq] at hq
            rw [← hq]; exact hpi
          · exact unhide HN j q (by omega) hq⟩
        case measure => simp [intOf]

theorem read_no {base g gs : Nat} {S : List Sct} {P : List (Nat × Sct)} (w : World) (h : Dsk 62 65 w base g gs S P) (i : Int) (hi : i < 0 ∨ (S.length : Int) ≤ i) :
    Calls Try.prog 15 #[.pointer (some ⟨g, 0, none⟩), .int .i64 i] w fun e w' => e = .returned (.tuple #[sv zeroS, .int .i64 1]) ∧ Below w.heap.size w w' := by
  obtain ⟨i36, hi36, hz36⟩ := Try.zero36
  have HD0 := hide h
  have HI := hide hi
  clear h hi
  go_enter Try.func15, Try.ntmps15
  go_wp2_with (first
    | (with_reducible refine wpList_allocT 36 i36 (sv zeroS) hi36 hz36 ?_; intro w1 hb1 hs1 hg1; have HD1 := hide ((unhide HD0).below hb1))
    | (go_at_call 25; refine (has_no _ (unhide HD1) i (unhide HI)).mono ?_; rintro e w' ⟨rfl, rfl⟩)
    | (with_reducible refine wpList_buildZ ?_)
    | ((with_reducible refine wpList_storeS Try.size36 _ _ w.heap.size 0 zeroS ?_ ?_ (secs_there (secs_new hg1)) ?_); (focus rfl); (focus rfl); intro w3 H3))
  have hX3 := secs_store (secs_new hg1) zeroS
  rw [← unhide H3] at hX3
  refine ret_cellS2 rfl rfl rfl rfl (secs_range hX3) ⟨rfl, ?_⟩
  rw [unhide H3]
  exact below_sets hb1 _ _ _ (Nat.le_refl _)

theorem read_nil (w : World) (i : Int) :
    Calls Try.prog 15 #[.pointer none, .int .i64 i] w fun e w' => e = .returned (.tuple #[sv zeroS, .int .i64 1]) ∧ Below w.heap.size w w' := by
  obtain ⟨i36, hi36, hz36⟩ := Try.zero36
  go_enter Try.func15, Try.ntmps15
  go_wp2_with (first
    | (with_reducible refine wpList_allocT 36 i36 (sv zeroS) hi36 hz36 ?_; intro w1 hb1 hs1 hg1)
    | (go_at_call 25; refine (has_nil _ i).mono ?_; rintro e w' ⟨rfl, rfl⟩)
    | (with_reducible refine wpList_buildZ ?_)
    | ((with_reducible refine wpList_storeS Try.size36 _ _ w.heap.size 0 zeroS ?_ ?_ (secs_there (secs_new hg1)) ?_); (focus rfl); (focus rfl); intro w3 H3))
  have hX3 := secs_store (secs_new hg1) zeroS
  rw [← unhide H3] at hX3
  refine ret_cellS2 rfl rfl rfl rfl (secs_range hX3) ⟨rfl, ?_⟩
  rw [unhide H3]
  exact below_sets hb1 _ _ _ (Nat.le_refl _)
end Go.Proofs.Ytcakiohpkebmpaa
