/- Contract: Write. -/
import Derived.Test.YtcakiohpkebmpaaBuild
namespace Go.Proofs.Ytcakiohpkebmpaa
open Go.RowKit
set_option linter.unusedVariables false

theorem Try.info65 : ∃ i, Try.prog.info? 65 = some i ∧ i.zero = some (wv (0, zeroS)) ∧ i.size = 65 ∧ i.bytes = 72 := by
  have h : (Try.prog.info? 65).map (fun i => (i.zero, i.size, i.bytes)) = some (some (.agg (.int .i64 0 :: List.replicate 64 (.int .u8 0)).toArray), 65, 72) := by kernel_rfl
  obtain ⟨i, hi, hz, hs⟩ := info_parts h
  refine ⟨i, hi, hz.trans ?_, hs⟩
  unfold wv wcells zeroS; rw [bytes_full]; rfl
theorem Try.size3 : (Try.prog.info? 3).map (·.size) = some 1 := by kernel_rfl

theorem bld_of (f : Nat × Operand → Nat × Value) (a b : Nat × Operand) : Instr.build 65 (Array.map f #[a, b]) = bld 65 (f a) (f b) := by
  unfold bld; simp only [List.map_toArray, List.map_cons, List.map_nil]
theorem bld_of' (a b : Nat × Value) : Instr.build 65 #[a, b] = bld 65 a b := rfl
theorem bsl_of (f : Nat × Operand → Nat × Value) (a : Nat × Operand) : Instr.buildSlice 60 1 (Array.map f #[a]) = bsl 60 (f a) := by
  unfold bsl; simp only [List.map_toArray, List.map_cons, List.map_nil]
theorem bsl_of' (a : Nat × Value) : Instr.buildSlice 60 1 #[a] = bsl 60 a := rfl
theorem bld_is (i : Nat) (s : Sct) (w : World) : (bld 65 (0, .int .i64 i) (1, .agg (bytes s).toArray)).run Try.prog w = .ok (wv (i, s)) w := by
  obtain ⟨j, hi, hz, _⟩ := Try.info65
  exact run_buildW hi hz Try.underlying65 rfl rfl Try.size3 Try.size36 (i, s) w
theorem bsl_is (p : Nat × Sct) (w : World) : (bsl 60 (0, wv p)).run Try.prog w = .ok (.slice (some ⟨w.heap.size, 0, none⟩) 1 1) (w.alloc (.cells (wcells p).toArray 65)) := by
  obtain ⟨j, hi, hz, hs, _⟩ := Try.info65
  exact run_buildSliceW Try.underlying60 hi hz hs p w

attribute [local go_sem ↓] ldS_of bld_of bsl_of bld_of' bsl_of' box_sv
attribute [local go_sem] bld_is bsl_is

theorem own_shape {w : World} {base : Nat} {e : TypeId} {size : Nat} {v : Value} {n : Nat} {xs : List Value} (h : w.ownsRow base e size v n xs) : ∃ A cap, v = .slice A n cap := by
  rcases h.2 with ⟨rfl, rfl⟩ | ⟨g, cap, cur, rfl, _⟩
  · exact ⟨none, 0, rfl⟩
  · exact ⟨_, cap, rfl⟩

set_option maxHeartbeats 400000 in
theorem write_yes {base g gs : Nat} {S : List Sct} {P : List (Nat × Sct)} (w : World) (h : Dsk 62 65 w base g gs S P) (i : Nat) (hi : i < S.length) (s : Sct) (hP : P.length ≤ 100000) :
    Calls Try.prog 12 #[.pointer (some ⟨g, 0, none⟩), .int .i64 i, sv s] w fun e w' => e = .returned (.int .i64 0) ∧ Dsk 62 65 w' base g gs S (P ++ [(i, s)]) ∧ Turned 65 base g gs w w' := by
  obtain ⟨i65, hi65, hz65, hs65, hy65⟩ := Try.info65
  have hglt := h.lt
  obtain ⟨hglt, hgslt, hbg, hbgs⟩ := hglt
  have HD := hide (h.below (below_alloc (Below.refl _ _) (.cells (bytes s).toArray 36)))
  obtain ⟨pv, A, cap, rfl, h0, h1, hPr⟩ := dsk_cells (unhide HD)
  have hi' : (i : Int) < (S.length : Int) := by omega
  have HH := hide (has_yes _ (unhide HD) i hi)
  have hrs := secs_range (secs_box w 36 s)
  have HP := hide hPr
  have HS := hide h
  clear h hPr h0
  go_enter Try.func12, Try.ntmps12
  go_wp2_with (go_at_call 25; refine (unhide HH).mono ?_; rintro e w' ⟨rfl, rfl⟩)
  have hbel : Below w.heap.size w (w.alloc (.cells (bytes s).toArray 36)) := below_alloc (Below.refl _ _) _
  generalize w.alloc (.cells (bytes s).toArray 36) = w1 at *
  clear HH
  have hld := ldS_is w.heap.size 0 s w1.drew (by simpa using hrs)
  have hg1 : g < w1.heap.size := (unhide HD).lt.1
  have HD2 := hide ((unhide HD).drew.below (below_alloc (Below.refl _ _) (.cells (wcells (i, s)).toArray 65)))
  have HC2 : Hid ((w1.drew.alloc (.cells (wcells (i, s)).toArray 65)).cell? ⟨g, 1, none⟩ = some (.slice A P.length cap)) := by
    show _ = _
    rw [World.cell?_alloc_lt _ _ _ hg1]; exact h1
  have HP2 := hide (own_of_block (unhide HP) (w' := w1.drew.alloc (.cells (wcells (i, s)).toArray 65)) (fun k hk => Below.heap_alloc _ _ _ (by obtain ⟨_, cur, hc⟩ := own_block (unhide HP) hk; exact lt_of_get hc)))
  have HR2 := hide (row_box w1.drew 65 (i, s))
  have hbase : base ≤ w1.heap.size := by omega
  have HZ : Hid (base ≤ (w1.drew.alloc (.cells (wcells (i, s)).toArray 65)).heap.size) := by
    show _ ≤ _
    have : (w1.drew.alloc (.cells (wcells (i, s)).toArray 65)).heap.size = w1.heap.size + 1 := by simp
    omega
  clear hrs
  go_region_law ((refine step_append_row rfl _ _ 60 rfl base 65 i65 (wv (0, zeroS)) 65 72 Try.underlying60 hi65 hz65 hs65 hy65 (by rw [wv_cells, List.size_toArray, wcells_len]) (by omega) (by omega) (.slice A P.length cap) P.length (flatP P) rfl (unhide HP2) _ 1 1 (wcells (i, s)) rfl (by rw [wcells_len]) (unhide HR2) (wcells_one _) (by omega) (unhide HZ) ?_; intro v3 w3 hown3 hgrow3 hat3; obtain ⟨A3, cap3, rfl⟩ := own_shape hown3; obtain ⟨HF, hc3, hf3⟩ := dsk_pushed (by decide) (by decide) (by decide) (unhide HD2) (unhide HC2) hown3 hgrow3 hi))
  all_goals
    go_wp2
    go_ret
    exact ⟨rfl, HF.1, (Turned.of_below hbel).trans ((Turned.of_below (below_alloc (Below.drew (Below.refl _ _)) _)).trans HF.2)⟩

theorem write_no {base g gs : Nat} {S : List Sct} {P : List (Nat × Sct)} (w : World) (h : Dsk 62 65 w base g gs S P) (i : Int) (hi : i < 0 ∨ (S.length : Int) ≤ i) (s : Sct) :
    Calls Try.prog 12 #[.pointer (some ⟨g, 0, none⟩), .int .i64 i, sv s] w fun e w' => e = .returned (.int .i64 1) ∧ Below w.heap.size w w' := by
  have HD := hide (h.below (below_alloc (Below.refl _ _) (.cells (bytes s).toArray 36)))
  have HH := hide (has_no _ (unhide HD) i hi)
  clear hi
  go_enter Try.func12, Try.ntmps12
  go_wp2_with (go_at_call 25; refine (unhide HH).mono ?_; rintro e w' ⟨rfl, rfl⟩)
  go_ret
  exact ⟨rfl, below_alloc (Below.refl _ _) _⟩

theorem write_nil (w : World) (i : Int) (s : Sct) :
    Calls Try.prog 12 #[.pointer none, .int .i64 i, sv s] w fun e w' => e = .returned (.int .i64 1) ∧ Below w.heap.size w w' := by
  go_enter Try.func12, Try.ntmps12
  go_wp2_with (go_at_call 25; refine (has_nil _ i).mono ?_; rintro e w' ⟨rfl, rfl⟩)
  go_ret
  exact ⟨rfl, below_alloc (Below.refl _ _) _⟩
end Go.Proofs.Ytcakiohpkebmpaa
