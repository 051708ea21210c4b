/- Contracts of the leaves: full, Mod, Len, Pending, has. -/
import Derived.Test.YtcakiohpkebmpaaProg
import Derived.Test.YtcakiohpkebmpaaMem
import Derived.WalkKit
import Derived.WalkSpells
import Derived.LoopTactic
namespace Go.Proofs.Ytcakiohpkebmpaa
open Go.RowKit
set_option linter.unusedVariables false

theorem Try.info36 : (Try.prog.info? 36).map (fun i => (i.zero, i.size, i.bytes)) = some (some (.agg (Array.replicate 64 (.int .u8 0))), 64, 64) := by kernel_rfl
theorem Try.size36 : (Try.prog.info? 36).map (·.size) = some 64 := by kernel_rfl
theorem Try.zero36 : ∃ i, Try.prog.info? 36 = some i ∧ i.zero = some (sv zeroS) := by
  obtain ⟨i, hi, hz, _⟩ := info_parts Try.info36
  refine ⟨i, hi, hz.trans ?_⟩
  unfold sv zeroS; rw [bytes_full, List.toArray_replicate]

theorem ret_bool {a b : Bool} (h : a = b) : Ending.returned (.bool a) = .returned (.bool b) := by rw [h]
theorem ret_int {k : IntKind} {a b : Int} (h : a = b) : Ending.returned (.int k a) = .returned (.int k b) := by rw [h]

/-- A sector's variable, just made. -/
theorem secs_new {w1 : World} {e : TypeId} {g : Nat} {s : Sct} (h : w1.heap[g]? = some (.cells (sv s).cells e (0, 0))) : SecsAt w1 e g [s] := by
  rw [sv_cells] at h
  refine ⟨⟨_, h, by rw [List.size_toArray, bytes_len]; rfl⟩, fun i t ht => ?_⟩
  obtain ⟨rfl, rfl⟩ : i = 0 ∧ t = s := by
    cases i with
    | zero => simpa using ht.symm
    | succ i => simp at ht
  intro j v hv
  rw [cell_of_row w1 g (0 * 64 + j) _ e (0, 0) h]
  simpa using hv

theorem secs_range {w : World} {e : TypeId} {g : Nat} {s : Sct} (h : SecsAt w e g [s]) : w.rangeAt g 0 (bytes s) := by simpa using h.2 0 s rfl
theorem secs_there {w : World} {e : TypeId} {g : Nat} {s : Sct} (h : SecsAt w e g [s]) : w.there g 0 64 := by simpa using h.there (i := 0) (by simp)
theorem secs_store {w : World} {e : TypeId} {g : Nat} {s : Sct} (h : SecsAt w e g [s]) (t : Sct) : SecsAt (w.setCells g 0 (bytes t)) e g [t] := by simpa using h.set (i := 0) (by simp) t
theorem secs_byte {w : World} {e : TypeId} {g : Nat} {s : Sct} (h : SecsAt w e g [s]) (j : Nat) (hj : j < 64) : w.cell? ⟨g, j, none⟩ = some (.int .u8 (s.1.getD j 0)) := by
  have := secs_range h j _ (bytes_get s j hj)
  simpa using this
theorem secs_poke {w : World} {e : TypeId} {g : Nat} {s : Sct} (h : SecsAt w e g [s]) (j : Nat) (hj : j < 64) (v : Int) (hv : 0 ≤ v ∧ v ≤ 255) : SecsAt (w.setCell ⟨g, j, none⟩ (.int .u8 v)) e g [setS s j v hv] := by
  refine ⟨h.1.set j _, fun i t ht => ?_⟩
  obtain ⟨rfl, rfl⟩ : i = 0 ∧ t = setS s j v hv := by
    cases i with
    | zero => simpa using ht.symm
    | succ i => simp at ht
  intro k u hu
  rw [bytes_set, List.getElem?_set] at hu
  rw [Nat.zero_mul, Nat.zero_add]
  by_cases hjk : j = k
  · subst hjk
    rw [if_pos rfl, if_pos (by rw [bytes_len]; exact hj)] at hu
    cases hu
    exact World.cell?_setCell_same _ _ _ (secs_byte h j hj)
  · rw [if_neg hjk] at hu
    rw [World.cell?_setCell_other _ _ _ _ (by intro e; cases e; exact hjk rfl)]
    have := secs_range h k u hu
    simpa using this

theorem below_sets {w0 w' : World} (h : Below w0.heap.size w0 w') (g o : Nat) (us : List Value) (hg : w0.heap.size ≤ g) : Below w0.heap.size w0 (w'.setCells g o us) := by
  obtain ⟨h1, h2, h3⟩ := os_setCells g us o w'
  exact ⟨h1.trans h.os, h2.trans h.tape, h3.trans h.output, by rw [size_setCells]; exact h.size, fun k hk => by rw [heap_setCells_other g us o w' k (by omega)]; exact h.block k hk⟩

theorem results_cell {fn : Func} {p : Tmp} {ty : TypeId} (h : fn.results = #[.cell p ty]) (tmps : Array Value) (P : Program) (w : World) :
    (results fn tmps).run P w = ((asAddr (tmps.getD p undef)).run P w).andThen fun a w₁ => (loadVar ty a).run P w₁ := by
  simp only [results, h]
  simp [Sem.run_bind, Result.andThen]

theorem run_loadS (w : World) (b o : Nat) (s : Sct) (hc : w.rangeAt b o (bytes s)) : (loadVar 36 ⟨b, o, none⟩).run Try.prog w = .ok (sv s) w :=
  run_loadVar_mid w b o 36 (bytes s) _ hc Try.underlying36 rfl (by rw [bytes_len]; exact Try.size36)

theorem ret_cellS {fn : Func} {p : Tmp} (hf : fn.results = #[.cell p 36]) {a : Act} {w : World} {b o : Nat} {s : Sct} {R : Ending → World → Prop} (hd : a.defers = []) (hp : a.tmps.getD p undef = .pointer (some ⟨b, o, none⟩)) (hr : w.rangeAt b o (bytes s))
    (hR : R (.returned (sv s)) w) : bodyPost Try.prog fn R .ret a w := by
  refine bodyPost_ret (v := sv s) ?_ hd hR
  rw [results_cell hf, hp]
  simp only [asAddr, Sem.run_pure, Result.andThen_ok, run_loadS w b o s hr]
theorem ret_cellS2 {fn : Func} {p u : Tmp} (hf : fn.results = #[.cell p 36, .tmp u]) {a : Act} {w : World} {b o : Nat} {s : Sct} {x : Value} {R : Ending → World → Prop} (hd : a.defers = []) (hp : a.tmps.getD p undef = .pointer (some ⟨b, o, none⟩)) (hu : a.tmps.getD u undef = x) (hr : w.rangeAt b o (bytes s))
    (hR : R (.returned (.tuple #[sv s, x])) w) : bodyPost Try.prog fn R .ret a w := by
  refine bodyPost_ret (v := .tuple #[sv s, x]) ?_ hd hR
  rw [results_cell_tmp hf, hp, hu]
  simp only [asAddr, Sem.run_pure, Result.andThen_ok, run_loadS w b o s hr]

def putAll (s : Sct) (v : Int) (hv : 0 ≤ v ∧ v ≤ 255) : Nat → Sct
  | 0 => s
  | k + 1 => setS (putAll s v hv k) k v hv
theorem putAll_get (s : Sct) (v : Int) (hv : 0 ≤ v ∧ v ≤ 255) : ∀ k j, j < 64 → (putAll s v hv k).1[j]? = if j < k then some v else s.1[j]?
  | 0, j, h => by simp [putAll]
  | k + 1, j, h => by
    show ((putAll s v hv k).1.set k v)[j]? = _
    rw [List.getElem?_set, putAll_get s v hv k j h]
    have hl := (putAll s v hv k).2.1
    by_cases hkj : k = j
    · subst hkj; simp; omega
    · rw [if_neg hkj]
      by_cases h1 : j < k
      · rw [if_pos h1, if_pos (by omega)]
      · rw [if_neg h1, if_neg (by omega)]
theorem putAll_full (s : Sct) (v : Int) (hv : 0 ≤ v ∧ v ≤ 255) : putAll s v hv 64 = fullS v hv := by
  apply Subtype.ext
  apply List.ext_getElem?
  intro j
  have h1 := (putAll s v hv 64).2.1
  have h2 := (fullS v hv).2.1
  by_cases hj : j < 64
  · rw [putAll_get s v hv 64 j hj, if_pos hj]
    unfold fullS
    rw [List.getElem?_replicate, if_pos hj]
  · rw [List.getElem?_eq_none (by omega), List.getElem?_eq_none (by omega)]

set_option maxHeartbeats 400000 in
theorem full_any (v : Int) (hv : 0 ≤ v ∧ v ≤ 255) (w : World) :
    Calls Try.prog 24 #[.int .u8 v] w fun e w' => e = .returned (sv (fullS v hv)) ∧ Below w.heap.size w w' := by
  obtain ⟨i36, hi36, hz36⟩ := Try.zero36
  have HV := hide hv
  have HF := hide (putAll_full zeroS v hv)
  go_enter Try.func24, Try.ntmps24
  go_wp2_with (with_reducible refine wpList_allocT 36 i36 (sv zeroS) hi36 hz36 ?_; intro w1 hb1 hs1 hg1)
  rename_i w0 hb0 hs0 hg0 _ _
  have hA : SecsAt w1 36 w.heap.size [zeroS] := (secs_new hg0).below hb1
  have hB : SecsAt w1 36 (w.heap.size + 1) [zeroS] := secs_new (by rw [← hs0]; exact hg1)
  have hb : Below w.heap.size w w1 := below_then hb0 hb1
  have hz : w1.heap.size = w.heap.size + 2 := by omega
  clear hb0 hs0 hg0 hb1 hs1 hg1
  go_loopw [4] (fun i wr => ∃ k : Nat, k ≤ 64 ∧ i = .int .i64 k ∧ Below w.heap.size w wr ∧ SecsAt wr 36 w.heap.size [zeroS] ∧ SecsAt wr 36 (w.heap.size + 1) [putAll zeroS v hv k]) (fun i _ => 64 - (intOf i).toNat)
  case atStart => exact ⟨0, by omega, rfl, hb, hA, hB⟩
  case round =>
    obtain ⟨k, hk, rfl, hbel, hA', hB'⟩ := hrel
    by_cases hlt : k < 64
    · have hc := secs_byte hB' k hlt
      have hf := hB'.1.frozen k
      go_wp2
      go_roundw
      case rel => exact ⟨k + 1, by omega, by go_num, below_set hbel _ _ _ (by omega), hA'.of_block (Below.heap_setCell _ _ _ _ (by simp)), secs_poke hB' k hlt v hv⟩
      case measure => simp [intOf]; omega
    · obtain rfl : k = 64 := by omega
      rw [unhide HF] at hB'
      go_wp2_with (first
        | ((with_reducible refine wpList_loadS Try.underlying36 Try.size36 _ (w.heap.size + 1) 0 (fullS v hv) ?_ (secs_range hB') ?_); (focus rfl))
        | ((with_reducible refine wpList_storeS Try.size36 _ _ w.heap.size 0 (fullS v hv) ?_ ?_ (secs_there hA') ?_); (focus rfl); (focus rfl); intro w3 H3))
      have hA3 := secs_store hA' (fullS v hv)
      rw [← unhide H3] at hA3
      refine ret_cellS rfl rfl rfl (secs_range hA3) ⟨rfl, ?_⟩
      rw [unhide H3]
      exact below_sets hbel _ _ _ (by omega)

theorem tmod_facts (k n : Int) (hn : 1 ≤ n) : -n < k.tmod n ∧ k.tmod n < n ∧ (k.tmod n + n) % n = k % n := by
  have e := Int.tmod_eq_emod (a := k) (b := n)
  have h1 := Int.emod_nonneg k (show n ≠ 0 by omega)
  have h2 := Int.emod_lt_of_pos k (show 0 < n by omega)
  have hna : (n.natAbs : Int) = n := by omega
  by_cases hc : 0 ≤ k ∨ n ∣ k
  · rw [if_pos hc] at e
    have e' : k.tmod n = k % n := by omega
    refine ⟨by omega, by omega, ?_⟩
    rw [Int.add_emod_right, e', Int.emod_emod_of_dvd _ (Int.dvd_refl n)]
  · rw [if_neg hc, hna] at e
    have h3 : k % n ≠ 0 := fun h => hc (.inr (Int.dvd_of_emod_eq_zero h))
    refine ⟨by omega, by omega, ?_⟩
    have e2 : k.tmod n + n = k % n := by omega
    rw [e2, Int.emod_emod_of_dvd _ (Int.dvd_refl n)]

theorem mod_any (k n : Int) (hk : -9223372036854775808 ≤ k ∧ k ≤ 9223372036854775807) (hn : 1 ≤ n ∧ n ≤ 4611686018427387904) (w : World) :
    Calls Try.prog 23 #[.int .i64 k, .int .i64 n] w fun e w' => e = .returned (.int .i64 (k % n)) ∧ w' = w := by
  obtain ⟨k1, k2⟩ := hk
  obtain ⟨n1, n2⟩ := hn
  obtain ⟨h1, h2, h3⟩ := tmod_facts k n n1
  have hm : Hid ((k.tmod n + n) % n = k % n) := h3
  clear h3
  go_enter Try.func23, Try.ntmps23
  go_wp2
  go_ret
  exact ⟨ret_int hm.out, rfl⟩

theorem dsk_cells {tD tW : TypeId} {w : World} {base g gs : Nat} {S : List Sct} {P : List (Nat × Sct)} (h : Dsk tD tW w base g gs S P) :
    ∃ pv A cap, pv = .slice A P.length cap ∧ w.cell? ⟨g, 0, none⟩ = some (.slice (some ⟨gs, 0, none⟩) S.length S.length) ∧ w.cell? ⟨g, 1, none⟩ = some pv ∧ w.ownsRow base tW 65 pv P.length (flatP P) := by
  obtain ⟨pv, hg, _, _, _, hP, _⟩ := h
  rcases hP.2 with ⟨h1, h0⟩ | ⟨gp, cap, cur, hv, _⟩
  · exact ⟨pv, none, 0, by rw [h0]; exact h1, by rw [cell_of_row w g 0 _ _ _ hg]; rfl, by rw [cell_of_row w g 1 _ _ _ hg]; rfl, hP⟩
  · exact ⟨pv, _, cap, hv, by rw [cell_of_row w g 0 _ _ _ hg]; rfl, by rw [cell_of_row w g 1 _ _ _ hg]; rfl, hP⟩

theorem len_any {base g gs : Nat} {S : List Sct} {P : List (Nat × Sct)} (w : World) (h : Dsk 62 65 w base g gs S P) :
    Calls Try.prog 22 #[.pointer (some ⟨g, 0, none⟩)] w fun e w' => e = .returned (.int .i64 S.length) ∧ w' = w := by
  obtain ⟨pv, A, cap, rfl, h0, h1, _⟩ := dsk_cells h
  go_enter Try.func22, Try.ntmps22
  go_wp2
  go_ret
  exact ⟨rfl, rfl⟩

theorem len_nil (w : World) : Calls Try.prog 22 #[.pointer none] w fun e w' => e = .returned (.int .i64 0) ∧ w' = w := by
  go_enter Try.func22, Try.ntmps22
  go_wp2
  go_ret
  exact ⟨rfl, rfl⟩

theorem pending_any {base g gs : Nat} {S : List Sct} {P : List (Nat × Sct)} (w : World) (h : Dsk 62 65 w base g gs S P) :
    Calls Try.prog 21 #[.pointer (some ⟨g, 0, none⟩)] w fun e w' => e = .returned (.int .i64 P.length) ∧ w' = w := by
  obtain ⟨pv, A, cap, rfl, h0, h1, _⟩ := dsk_cells h
  go_enter Try.func21, Try.ntmps21
  go_wp2
  go_ret
  exact ⟨rfl, rfl⟩

theorem pending_nil (w : World) : Calls Try.prog 21 #[.pointer none] w fun e w' => e = .returned (.int .i64 0) ∧ w' = w := by
  go_enter Try.func21, Try.ntmps21
  go_wp2
  go_ret
  exact ⟨rfl, rfl⟩

theorem has_yes {base g gs : Nat} {S : List Sct} {P : List (Nat × Sct)} (w : World) (h : Dsk 62 65 w base g gs S P) (i : Nat) (hi : i < S.length) :
    Calls Try.prog 25 #[.pointer (some ⟨g, 0, none⟩), .int .i64 i] w fun e w' => e = .returned (.bool true) ∧ w' = w := by
  have H := hide (len_any w h)
  have hi' : (i : Int) < (S.length : Int) := by omega
  go_enter Try.func25, Try.ntmps25
  go_wp2_with (go_at_call 22; refine (unhide H).mono ?_; rintro e w' ⟨rfl, rfl⟩)
  go_ret
  exact ⟨rfl, rfl⟩

theorem has_no {base g gs : Nat} {S : List Sct} {P : List (Nat × Sct)} (w : World) (h : Dsk 62 65 w base g gs S P) (i : Int) (hi : i < 0 ∨ (S.length : Int) ≤ i) :
    Calls Try.prog 25 #[.pointer (some ⟨g, 0, none⟩), .int .i64 i] w fun e w' => e = .returned (.bool false) ∧ w' = w := by
  have H := hide (len_any w h)
  by_cases h0 : i < 0
  · have h1 : ¬ 0 ≤ i := by omega
    go_enter Try.func25, Try.ntmps25
    go_wp2_with (go_at_call 22; refine (unhide H).mono ?_; rintro e w' ⟨rfl, rfl⟩)
    go_ret
    exact ⟨rfl, rfl⟩
  · have h1 : 0 ≤ i := by omega
    have h2 := hide (show ¬ i < (S.length : Int) by omega)
    go_enter Try.func25, Try.ntmps25
    go_wp2_with (go_at_call 22; refine (unhide H).mono ?_; rintro e w' ⟨rfl, rfl⟩)
    go_ret
    exact ⟨ret_bool (decide_eq_false (by have := unhide h2; omega)), rfl⟩

theorem has_nil (w : World) (i : Int) :
    Calls Try.prog 25 #[.pointer none, .int .i64 i] w fun e w' => e = .returned (.bool false) ∧ w' = w := by
  by_cases h1 : 0 ≤ i
  · have h2 := hide (show ¬ i < 0 by omega)
    go_enter Try.func25, Try.ntmps25
    go_wp2_with (go_at_call 22; refine (len_nil _).mono ?_; rintro e w' ⟨rfl, rfl⟩)
    go_ret
    exact ⟨ret_bool (decide_eq_false (by have := unhide h2; omega)), rfl⟩
  · go_enter Try.func25, Try.ntmps25
    go_wp2_with (go_at_call 22; refine (len_nil _).mono ?_; rintro e w' ⟨rfl, rfl⟩)
    go_ret
    exact ⟨rfl, rfl⟩

end Go.Proofs.Ytcakiohpkebmpaa
