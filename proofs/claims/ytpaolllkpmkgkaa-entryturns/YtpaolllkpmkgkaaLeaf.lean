/- Contracts of the leaves: full, Mod, Len, Pending, has. -/
import Derived.Test.YtpaolllkpmkgkaaProg
import Derived.Test.YtpaolllkpmkgkaaMem
import Derived.Test.YtpaolllkpmkgkaaSumsW
import Derived.WalkKit
import Derived.WalkSpells
import Derived.LoopTactic
namespace Go.Proofs.Ytpaolllkpmkgkaa
open Go.RowKit
set_option linter.unusedVariables false

theorem Try.info44 : (Try.prog.info? 44).map (fun i => (i.zero, i.size, i.bytes)) = some (some (.agg (Array.replicate 64 (.int .u8 0))), 64, 64) := by kernel_rfl
theorem Try.size44 : (Try.prog.info? 44).map (·.size) = some 64 := by kernel_rfl
theorem Try.zero44 : ∃ i, Try.prog.info? 44 = some i ∧ i.zero = some (sv zeroS) := by
  obtain ⟨i, hi, hz, _⟩ := info_parts Try.info44
  refine ⟨i, hi, hz.trans ?_⟩
  unfold sv zeroS; rw [bytes_full, List.toArray_replicate]

theorem ret_bool {a b : Bool} (h : a = b) : Ending.returned (.bool a) = .returned (.bool b) := by rw [h]
/-- A sector's variable, just made. -/
theorem secs_new {w1 : World} {e : TypeId} {g : Nat} {s : Sct} (h : w1.heap[g]? = some (.cells (sv s).cells e (0, 0))) : SecsAt w1 e g [s] := by
  rw [sv_cells] at h
  refine ⟨⟨_, h, by rw [List.size_toArray, bytes_len]; rfl⟩, fun i t ht => ?_⟩
  obtain ⟨rfl, rfl⟩ : i = 0 ∧ t = s := by
    cases i with
    | zero => simpa using ht.symm
    | succ i => simp at ht
  intro j v hv
  rw [cell_of_row w1 g (0 * 64 + j) _ e (0, 0) h]
  simpa using hv

theorem secs_range {w : World} {e : TypeId} {g : Nat} {s : Sct} (h : SecsAt w e g [s]) : w.rangeAt g 0 (bytes s) := by simpa using h.2 0 s rfl
theorem secs_there {w : World} {e : TypeId} {g : Nat} {s : Sct} (h : SecsAt w e g [s]) : w.there g 0 64 := by simpa using h.there (i := 0) (by simp)
theorem secs_store {w : World} {e : TypeId} {g : Nat} {s : Sct} (h : SecsAt w e g [s]) (t : Sct) : SecsAt (w.setCells g 0 (bytes t)) e g [t] := by simpa using h.set (i := 0) (by simp) t
theorem secs_byte {w : World} {e : TypeId} {g : Nat} {s : Sct} (h : SecsAt w e g [s]) (j : Nat) (hj : j < 64) : w.cell? ⟨g, j, none⟩ = some (.int .u8 (s.1.getD j 0)) := by
  have := secs_range h j _ (bytes_get s j hj)
  simpa using this
theorem secs_poke {w : World} {e : TypeId} {g : Nat} {s : Sct} (h : SecsAt w e g [s]) (j : Nat) (hj : j < 64) (v : Int) (hv : 0 ≤ v ∧ v ≤ 255) : SecsAt (w.setCell ⟨g, j, none⟩ (.int .u8 v)) e g [setS s j v hv] := by
  refine ⟨h.1.set j _, fun i t ht => ?_⟩
  obtain ⟨rfl, rfl⟩ : i = 0 ∧ t = setS s j v hv := by
    cases i with
    | zero => simpa using ht.symm
    | succ i => simp at ht
  intro k u hu
  rw [bytes_set, List.getElem?_set] at hu
  rw [Nat.zero_mul, Nat.zero_add]
  by_cases hjk : j = k
  · subst hjk
    rw [if_pos rfl, if_pos (by rw [bytes_len]; exact hj)] at hu
    cases hu
    exact World.cell?_setCell_same _ _ _ (secs_byte h j hj)
  · rw [if_neg hjk] at hu
    rw [World.cell?_setCell_other _ _ _ _ (by intro e; cases e; exact hjk rfl)]
    have := secs_range h k u hu
    simpa using this

theorem below_sets {w0 w' : World} (h : Below w0.heap.size w0 w') (g o : Nat) (us : List Value) (hg : w0.heap.size ≤ g) : Below w0.heap.size w0 (w'.setCells g o us) := by
  obtain ⟨h1, h2, h3⟩ := os_setCells g us o w'
  exact ⟨h1.trans h.os, h2.trans h.tape, h3.trans h.output, by rw [size_setCells]; exact h.size, fun k hk => by rw [heap_setCells_other g us o w' k (by omega)]; exact h.block k hk⟩

theorem results_cell {fn : Func} {p : Tmp} {ty : TypeId} (h : fn.results = #[.cell p ty]) (tmps : Array Value) (P : Program) (w : World) :
    (results fn tmps).run P w = ((asAddr (tmps.getD p undef)).run P w).andThen fun a w₁ => (loadVar ty a).run P w₁ := by
  simp only [results, h]
  simp [Sem.run_bind, Result.andThen]

theorem run_loadS (w : World) (b o : Nat) (s : Sct) (hc : w.rangeAt b o (bytes s)) : (loadVar 44 ⟨b, o, none⟩).run Try.prog w = .ok (sv s) w :=
  run_loadVar_mid w b o 44 (bytes s) _ hc Try.underlying44 rfl (by rw [bytes_len]; exact Try.size44)

theorem ret_cellS {fn : Func} {p : Tmp} (hf : fn.results = #[.cell p 44]) {a : Act} {w : World} {b o : Nat} {s : Sct} {R : Ending → World → Prop} (hd : a.defers = []) (hp : a.tmps.getD p undef = .pointer (some ⟨b, o, none⟩)) (hr : w.rangeAt b o (bytes s))
    (hR : R (.returned (sv s)) w) : bodyPost Try.prog fn R .ret a w := by
  refine bodyPost_ret (v := sv s) ?_ hd hR
  rw [results_cell hf, hp]
  simp only [asAddr, Sem.run_pure, Result.andThen_ok, run_loadS w b o s hr]
theorem ret_cellS2 {fn : Func} {p u : Tmp} (hf : fn.results = #[.cell p 44, .tmp u]) {a : Act} {w : World} {b o : Nat} {s : Sct} {x : Value} {R : Ending → World → Prop} (hd : a.defers = []) (hp : a.tmps.getD p undef = .pointer (some ⟨b, o, none⟩)) (hu : a.tmps.getD u undef = x) (hr : w.rangeAt b o (bytes s))
    (hR : R (.returned (.tuple #[sv s, x])) w) : bodyPost Try.prog fn R .ret a w := by
  refine bodyPost_ret (v := .tuple #[sv s, x]) ?_ hd hR
  rw [results_cell_tmp hf, hp, hu]
  simp only [asAddr, Sem.run_pure, Result.andThen_ok, run_loadS w b o s hr]

def putAll (s : Sct) (v : Int) (hv : 0 ≤ v ∧ v ≤ 255) : Nat → Sct
  | 0 => s
  | k + 1 => setS (putAll s v hv k) k v hv
theorem putAll_get (s : Sct) (v : Int) (hv : 0 ≤ v ∧ v ≤ 255) : ∀ k j, j < 64 → (putAll s v hv k).1[j]? = if j < k then some v else s.1[j]?
  | 0, j, h => by simp [putAll]
  | k + 1, j, h => by
    show ((putAll s v hv k).1.set k v)[j]? = _
    rw [List.getElem?_set, putAll_get s v hv k j h]
    have hl := (putAll s v hv k).2.1
    by_cases hkj : k = j
    · subst hkj; simp; omega
    · rw [if_neg hkj]
      by_cases h1 : j < k
      · rw [if_pos h1, if_pos (by omega)]
      · rw [if_neg h1, if_neg (by omega)]
theorem putAll_full (s : Sct) (v : Int) (hv : 0 ≤ v ∧ v ≤ 255) : putAll s v hv 64 = fullS v hv := by
  apply Subtype.ext
  apply List.ext_getElem?
  intro j
  have h1 := (putAll s v hv 64).2.1
  have h2 := (fullS v hv).2.1
  by_cases hj : j < 64
  · rw [putAll_get s v hv 64 j hj, if_pos hj]
    unfold fullS
    rw [List.getElem?_replicate, if_pos hj]
  · rw [List.getElem?_eq_none (by omega), List.getElem?_eq_none (by omega)]

end Go.Proofs.Ytpaolllkpmkgkaa
