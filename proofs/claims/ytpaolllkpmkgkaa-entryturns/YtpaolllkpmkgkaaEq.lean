/- Two sectors are held against each other. -/
import Derived.Test.YtpaolllkpmkgkaaBuild
namespace Go.Proofs.Ytpaolllkpmkgkaa
open Go.RowKit
set_option linter.unusedVariables false

theorem Try.size5 : (Try.prog.info? 5).map (·.size) = some 1 := by kernel_rfl

theorem part5 (xs : List Value) (k : Nat) (x : Value) (h : xs[k]? = some x) (w : World) : (part 5 xs.toArray k).run Try.prog w = .ok x w := by
  simp [part, isAgg, run_underlying Try.underlying5, h]

theorem drop_cons (l : List Int) (k : Nat) (h : k < l.length) : l.drop k = l.getD k 0 :: l.drop (k + 1) := by
  rw [List.drop_eq_getElem_cons h, List.getD_eq_getElem?_getD, List.getElem?_eq_getElem h]; rfl

theorem eq_loop (d : Nat) (s t : Sct) (w : World) : ∀ n k, k + n = 64 → Sem.run Try.prog (forIn (List.range' k n 1) ((none : Option Bool), ()) fun i __s => do
            let __do_lift ← part 5 (bytes s).toArray (i * 1)
            let __do_lift_1 ← part 5 (bytes t).toArray (i * 1)
            let __do_lift ← Op.equalIn (d + 1) 5 __do_lift __do_lift_1
            if (!__do_lift) = true then pure (ForInStep.done (some false, ())) else pure (ForInStep.yield (none, ()))) w = .ok (if s.1.drop k = t.1.drop k then (none, ()) else (some false, ())) w
  | 0, k, h => by
    have h1 := s.2.1
    have h2 := t.2.1
    rw [List.range'_zero, List.forIn_nil, Sem.run_pure, if_pos (by rw [List.drop_of_length_le (by omega), List.drop_of_length_le (by omega)])]
  | n + 1, k, h => by
    have h1 := s.2.1
    have h2 := t.2.1
    rw [List.range'_succ, List.forIn_cons]
    simp only [Sem.run_bind, Nat.mul_one, part5 _ _ _ (bytes_get s k (by omega)), part5 _ _ _ (bytes_get t k (by omega)), Result.andThen_ok, run_equalIn_int w d 5 .u8 .u8 _ _ Try.underlying5]
    by_cases hx : s.1.getD k 0 = t.1.getD k 0
    · have := eq_loop d s t w n (k + 1) (by omega)
      simp only [Nat.mul_one] at this
      rw [hx]
      simp only [BEq.rfl, Bool.not_true, Bool.false_eq_true, if_false, Sem.run_pure, Result.andThen_ok]
      rw [this]
      congr 1
      rw [drop_cons s.1 k (by omega), drop_cons t.1 k (by omega), hx]
      simp only [List.cons.injEq, true_and]
    · have hb : (s.1.getD k 0 == t.1.getD k 0) = false := by simpa using hx
      rw [hb]
      simp only [Bool.not_false, if_true, Sem.run_pure, Result.andThen_ok]
      rw [if_neg]
      rw [drop_cons s.1 k (by omega), drop_cons t.1 k (by omega)]
      intro e
      exact hx (List.cons.inj e).1

theorem run_equal_sct (d : Nat) (s t : Sct) (w : World) : (Op.equalIn (d + 1 + 1) 44 (.agg (bytes s).toArray) (.agg (bytes t).toArray)).run Try.prog w = .ok (decide (s = t)) w := by
  obtain ⟨j5, hj5, hs5⟩ := Option.map_eq_some_iff.1 Try.size5
  rw [Op.equalIn]
  simp only [Sem.run_bind, run_underlying Try.underlying44, Result.andThen_ok, sizeOf, typeInfo, run_program, hj5, Sem.run_pure, hs5]
  rw [Std.Legacy.Range.forIn_eq_forIn_range']
  have := eq_loop d s t w 64 0 (by omega)
  have e : List.range' [:64].start [:64].size [:64].step = List.range' 0 64 1 := rfl
  rw [e, this, List.drop_zero, List.drop_zero]
  by_cases h : s = t
  · subst h
    simp
  · have h' : ¬ s.1 = t.1 := fun e => h (Subtype.ext e)
    rw [if_neg h']
    simp [h]
theorem eql36 (s t : Sct) (w : World) : (Op.equalIn 10000 44 (.agg (bytes s).toArray) (.agg (bytes t).toArray)).run Try.prog w = .ok (decide (s = t)) w := run_equal_sct 9998 s t w
theorem eqGuard36 : Try.prog.eqGuardType Try.prog.depth 44 = false := by kernel_rfl
def bldZ : Sem Value := Instr.build 44 #[]
theorem bldZ_of (f : Nat × Operand → Nat × Value) : Instr.build 44 (Array.map f #[]) = bldZ := by
  unfold bldZ; simp only [List.map_toArray, List.map_nil]
theorem bldZ_of' : Instr.build 44 #[] = bldZ := rfl
theorem bldZ_is (w : World) : bldZ.run Try.prog w = .ok (.agg (bytes zeroS).toArray) w := by
  obtain ⟨i36, hi36, hz36⟩ := Try.zero44
  obtain ⟨j5, hj5, hs5⟩ := Option.map_eq_some_iff.1 Try.size5
  simp only [bldZ, Instr.build, zeroValue, typeInfo, Sem.run_bind, run_program, hi36, hz36, Sem.run_pure, Result.andThen_ok, run_underlying Try.underlying44, sizeOf, hj5, Instr.fill]
  rfl
theorem sv_is (s : Sct) : sv s = .agg (bytes s).toArray := rfl
end Go.Proofs.Ytpaolllkpmkgkaa
