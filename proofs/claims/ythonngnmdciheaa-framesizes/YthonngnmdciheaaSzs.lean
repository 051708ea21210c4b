/- FrameSizes: the walk. -/
import Derived.Test.YthonngnmdciheaaCds
namespace Go.Proofs.Ythonngnmdciheaa
open Go.RowKit
set_option linter.unusedVariables false
theorem sizes_no (f : Fr) (A : Option Addr) (c : Nat) (B : Option Addr) (n d : Nat) (w : World) (h : 2000 < f.bs.length ∨ 100 < n) : Calls Try.prog 6 #[.agg #[.int .u64 (f.dst : Int), .int .u64 (f.src : Int), .bool f.tag, .int .i64 f.prio, .int .i64 f.vid, .int .i64 f.kind, .slice A f.bs.length c], .slice B n d] w fun e w' => e = .returned (.bool true) ∧ Below w.heap.size w w' := by
  have HB : Hid (Below w.heap.size w (w.alloc (.cells #[.int .u64 (f.dst : Int), .int .u64 (f.src : Int), .bool f.tag, .int .i64 f.prio, .int .i64 f.vid, .int .i64 f.kind, .slice A f.bs.length c] 25))) := hide (below_alloc (Below.refl _ _) _)
  by_cases h1 : 2000 < f.bs.length
  · have h' : (2000 : Int) < (f.bs.length : Int) := by omega
    go_enter Try.func6, Try.ntmps6
    go_wp2_with (go_at_call 7; with_reducible refine (wakes_any _).mono ?_; rintro e w5 ⟨rfl, hb5⟩; have HB5 := hide hb5; clear hb5)
    go_ret
    exact ⟨rfl, below_then (unhide HB) (unhide HB5)⟩
  · have h' : ¬ (2000 : Int) < (f.bs.length : Int) := by omega
    have h'' : (100 : Int) < (n : Int) := by omega
    go_enter Try.func6, Try.ntmps6
    go_wp2_with (go_at_call 7; with_reducible refine (wakes_any _).mono ?_; rintro e w5 ⟨rfl, hb5⟩; have HB5 := hide hb5; clear hb5)
    go_ret
    exact ⟨rfl, below_then (unhide HB) (unhide HB5)⟩
/-- Where Encode refuses. -/
theorem sizes_ref (f : Fr) (hf : f.Fit) (hg : goodF f = false) (A : Option Addr) (c : Nat) (B : Option Addr) (n d : Nat) (w : World) (h1 : f.bs.length ≤ 2000) (h2 : n ≤ 100) : Calls Try.prog 6 #[.agg #[.int .u64 (f.dst : Int), .int .u64 (f.src : Int), .bool f.tag, .int .i64 f.prio, .int .i64 f.vid, .int .i64 f.kind, .slice A f.bs.length c], .slice B n d] w fun e w' => e = .returned (.bool true) ∧ Below w.heap.size w w' := by
  have HB : Hid (Below w.heap.size w (w.alloc (.cells #[.int .u64 (f.dst : Int), .int .u64 (f.src : Int), .bool f.tag, .int .i64 f.prio, .int .i64 f.vid, .int .i64 f.kind, .slice A f.bs.length c] 25))) := hide (below_alloc (Below.refl _ _) _)
  have K8 := hide (fun W => encode_no f hf hg A c W)
  have h' : ¬ (2000 : Int) < (f.bs.length : Int) := by omega
  have h'' : ¬ (100 : Int) < (n : Int) := by omega
  unfold EncO at *
  go_enter Try.func6, Try.ntmps6
  go_wp2_with (first
    | (go_at_call 8; (with_reducible refine (unhide K8 _).mono ?_); rintro e w2 ⟨B2, d2, rfl, hr2, hb2, _, _⟩; have HB2 := hide hb2; clear hb2)
    | (go_at_call 7; with_reducible refine (wakes_any _).mono ?_; rintro e w5 ⟨rfl, hb5⟩; have HB5 := hide hb5; clear hb5))
  go_ret
  exact ⟨rfl, below_then (unhide HB) (below_then (unhide HB2) (unhide HB5))⟩
/-- What is cut short is none. -/
theorem pars_cut (f : Fr) (k : Nat) (h : k < leastN f.tag) : parsN ((encB f).take k) = (fr0, 11) := by
  have hlen := encB_len f
  have hlt : ((encB f).take k).length = k := by rw [List.length_take, hlen]; omega
  unfold parsN
  rw [if_pos]
  cases ht : f.tag with
  | false => rw [ht] at h; simp [leastN] at h; left; omega
  | true =>
    rw [ht] at h; simp [leastN] at h
    by_cases h14 : k < 14
    · left; omega
    · right
      refine ⟨?_, by omega⟩
      have e : encB f = sixL f.dst ++ (sixL f.src ++ (129 :: 0 :: (twoB (tciN f) ++ (twoB f.kind.toNat ++ f.bs)))) := by simp [encB, tagB, ht]
      have h12 : ∀ j, j < k → ((encB f).take k).getD j 0 = (encB f).getD j 0 := by
        intro j hj
        rw [List.getD_eq_getElem?_getD, List.getD_eq_getElem?_getD, List.getElem?_take, if_pos hj]
      have a2 : at2 ((encB f).take k) 12 = 33024 := by
        show ((encB f).take k).getD 12 0 * 256 + ((encB f).take k).getD 13 0 = 33024
        rw [h12 12 (by omega), h12 13 (by omega), e]
        simp [sixL]
      unfold mkB; rw [a2]; rfl
/-- What was encoded is parsed as it was, whatever its length. -/
theorem parF_enc (f : Fr) (h1 : tagF f = true) (hk : kindF f.kind = true) (h5 : f.dst < 281474976710656) (h6 : f.src < 281474976710656) : parF (encB f) = f ∧ ¬ ((encB f).length < 14 ∨ (mkB (encB f) = true ∧ (encB f).length < 18)) := by
  have h23 : 0 ≤ f.kind ∧ f.kind ≤ 65535 := by have := hk; simp [kindF] at this; omega
  obtain ⟨h2, h3⟩ := h23
  have hlen := encB_len f
  have ed := fo_six f.dst h5
  have es := fo_six f.src h6
  obtain ⟨d, s, t, p, v, k, bs⟩ := f
  simp only at *
  cases t with
  | true =>
    obtain ⟨g1, g2, g3⟩ := tci_lt _ h1 rfl
    simp only at g1 g2 g3
    generalize hT : tciN ⟨d, s, true, p, v, k, bs⟩ = T at *
    have e : encB ⟨d, s, true, p, v, k, bs⟩ = sixL d ++ (sixL s ++ ([129, 0, T / 256, T % 256] ++ ([k.toNat / 256, k.toNat % 256] ++ bs))) := by simp [encB, tagB, twoB, hT]
    have hm : mkB (encB ⟨d, s, true, p, v, k, bs⟩) = true := by rw [e]; simp [mkB, at2, sixL]
    have ha : at2 (encB ⟨d, s, true, p, v, k, bs⟩) 14 = T := by rw [e]; simp [at2, sixL]; omega
    have hb : at2 (encB ⟨d, s, true, p, v, k, bs⟩) 16 = k.toNat := by rw [e]; simp [at2, sixL]; omega
    have hd1 : (encB ⟨d, s, true, p, v, k, bs⟩).take 6 = sixL d := by rw [e]; simp [sixL]
    have hd2 : ((encB ⟨d, s, true, p, v, k, bs⟩).drop 6).take 6 = sixL s := by rw [e]; simp [sixL]
    have hd3 : (encB ⟨d, s, true, p, v, k, bs⟩).drop 18 = bs := by rw [e]; simp [sixL]
    refine ⟨?_, by rw [hlen]; simp [leastN]; omega⟩
    simp only [parF, endN, hm, leastN, if_true, ha, hd1, hd2, ed, es]
    simp only [show 18 - 2 = 16 from rfl, hb, hd3, g2, g3]
    rw [show ((k.toNat : Nat) : Int) = k by omega]
  | false =>
    have hpv : p = 0 ∧ v = 0 := by simp [tagF] at h1; exact h1
    obtain ⟨rfl, rfl⟩ := hpv
    have hkn : k ≠ 33024 := by simp [kindF] at hk; omega
    have e : encB ⟨d, s, false, 0, 0, k, bs⟩ = sixL d ++ (sixL s ++ ([k.toNat / 256, k.toNat % 256] ++ bs)) := by simp [encB, tagB, twoB]
    have hb : at2 (encB ⟨d, s, false, 0, 0, k, bs⟩) 12 = k.toNat := by rw [e]; simp [at2, sixL]; omega
    have hm : mkB (encB ⟨d, s, false, 0, 0, k, bs⟩) = false := by unfold mkB; rw [hb]; simp; omega
    have hd1 : (encB ⟨d, s, false, 0, 0, k, bs⟩).take 6 = sixL d := by rw [e]; simp [sixL]
    have hd2 : ((encB ⟨d, s, false, 0, 0, k, bs⟩).drop 6).take 6 = sixL s := by rw [e]; simp [sixL]
    have hd3 : (encB ⟨d, s, false, 0, 0, k, bs⟩).drop 14 = bs := by rw [e]; simp [sixL]
    refine ⟨?_, by rw [hlen, hm]; simp [leastN]⟩
    simp only [parF, endN, hm, leastN, if_false, hd1, hd2, ed, es, Bool.false_eq_true]
    simp only [show 14 - 2 = 12 from rfl, hb, hd3]
    rw [show ((k.toNat : Nat) : Int) = k by omega]
/-- What stands behind belongs to Body. -/
theorem pars_more (f : Fr) (hg : goodF f = true) (xs : List Nat) : parsN (encB f ++ xs) = if f.bs.length + xs.length ≤ 1518 - leastN f.tag then (⟨f.dst, f.src, f.tag, f.prio, f.vid, f.kind, f.bs ++ xs⟩, 0) else (fr0, 11) := by
  have h := pars_enc f hg
  have e1 : encB f ++ xs = encB ⟨f.dst, f.src, f.tag, f.prio, f.vid, f.kind, f.bs ++ xs⟩ := by simp [encB, tagB, tciN]
  have hl2 : leastN f.tag = 14 ∨ leastN f.tag = 18 := by cases f.tag <;> simp [leastN]
  by_cases hc : f.bs.length + xs.length ≤ 1518 - leastN f.tag
  · rw [if_pos hc, e1]
    apply pars_enc
    simp [goodF] at hg ⊢
    refine ⟨hg.1, ?_, hg.2.2.1, by omega⟩
    have := hg.2.1
    simpa [tagF] using this
  · rw [if_neg hc, e1]
    obtain ⟨q1, q2, q3, q4, q5, q6⟩ := goodF_parts f hg
    have hk : kindF f.kind = true := by have := hg; simp [goodF] at this; exact this.2.2.1
    have hp := parF_enc ⟨f.dst, f.src, f.tag, f.prio, f.vid, f.kind, f.bs ++ xs⟩ (by simpa [tagF] using q1) hk q5 q6
    unfold parsN
    rw [if_neg hp.2, hp.1, if_neg]
    intro hh
    simp [goodF] at hh
    omega
theorem step_append_rowG {P : Program} {ops : Array Oper} {w : World} {o : Oper} {a : Act} {K : Act → World → Prop} {Q : Exit → Act → World → Prop} {E : Prop} (hw : Region.wanted o (yielded ops a.tmps) = true) (s x : Operand) (t : TypeId)
    (ho : o.op = .call { callee := .builtin .append, args := #[s, x], argTypes := #[t, t] })
    (base : Nat) (e : TypeId) (i : TypeInfo) (z : Value) (size bytes : Nat) (ht : P.underlying t = some (.slice e)) (hi : P.info? e = some i) (hz : i.zero = some z)
    (hsize : i.size = size) (hby : i.bytes = bytes) (hzs : z.cells.size = size) (hsz : 0 < size) (hb1 : 0 < bytes)
    (v : Value) (n : Nat) (xs : List Value) (hs : a.eval s = v) (hown : w.ownsRow base e size v n xs)
    (A : Option Addr) (m c : Nat) (vs : List Value) (hx : a.eval x = .slice A m c) (hl : vs.length = m * size) (hR : RowA w A vs) (h1 : ∀ u ∈ vs, u.oneCell' = true)
    (hbytes : (n + m) * bytes ≤ 140737488355328) (hbase : base ≤ w.heap.size)
    (h : ∀ v' w', w'.ownsRow base e size v' (n + m) (xs ++ vs) → w.grownBy w' v.ownBlock → (v'.ownBlock = v.ownBlock ∨ v'.ownBlock = some w.heap.size) → K (a.put o.dst v') w') :
    if Region.wanted o (yielded ops a.tmps) = true then o.wp P a w K Q else E := by
  rw [if_pos hw]
  exact wp_append_row s x t ho base e i z size bytes ht hi hz hsize hby hzs hsz hb1 v n xs hs hown A m c vs hx hl hR h1 hbytes hbase h
theorem own_litb {W : World} {g base : Nat} (h : W.heap[g]? = some (.cells #[] 5 (0, 0))) (hb : base ≤ g) : W.ownsRow base 5 1 (.slice (some ⟨g, 0, none⟩) 0 0) 0 [] :=
  ⟨rfl, .inr ⟨g, 0, #[], rfl, hb, h, Nat.le_refl _, Nat.zero_le _, rfl, rfl⟩⟩
set_option maxRecDepth 10000 in
set_option maxHeartbeats 8000000 in
theorem sizes_t_in (f : Fr) (hf : f.Fit) (hg : goodF f = true) (ht : f.tag = true) (A : Option Addr) (c : Nat) (X : Option Addr) (bs : List Nat) (cx : Nat) (w : World) (hA : RowA w A (u8s f.bs)) (hX : RowA w X (u8s bs)) (hx : ∀ x ∈ bs, x < 256) (hn : bs.length ≤ 100) (hcc : f.bs.length + bs.length ≤ 1518 - 18) : Calls Try.prog 6 #[.agg #[.int .u64 (f.dst : Int), .int .u64 (f.src : Int), .bool f.tag, .int .i64 f.prio, .int .i64 f.vid, .int .i64 f.kind, .slice A f.bs.length c], .slice X bs.length cx] w fun e w' => e = .returned (.bool true) ∧ Below w.heap.size w w' := by
  obtain ⟨_, _, _, hl4, _, _⟩ := goodF_parts f hg
  have hlt : leastN f.tag = 18 := by rw [ht]; rfl
  have hlen := encB_len f
  rw [hlt] at hlen
  have h' : ¬ (2000 : Int) < (f.bs.length : Int) := by omega
  have h'' : ¬ (100 : Int) < (bs.length : Int) := by omega
  have hble := encB_lt f hf hg
  have hpc := pars_cut f 17 (by rw [hlt]; decide)
  have hpm := pars_more f hg bs
  rw [hlt, if_pos hcc] at hpm
  have HB : Hid (Below w.heap.size w (w.alloc (.cells #[.int .u64 (f.dst : Int), .int .u64 (f.src : Int), .bool f.tag, .int .i64 f.prio, .int .i64 f.vid, .int .i64 f.kind, .slice A f.bs.length c] 25))) := hide (below_alloc (Below.refl _ _) _)
  have HX : Hid ((w.alloc (.cells #[.int .u64 (f.dst : Int), .int .u64 (f.src : Int), .bool f.tag, .int .i64 f.prio, .int .i64 f.vid, .int .i64 f.kind, .slice A f.bs.length c] 25)).heap[w.heap.size]? = some (.cells #[.int .u64 (f.dst : Int), .int .u64 (f.src : Int), .bool f.tag, .int .i64 f.prio, .int .i64 f.vid, .int .i64 f.kind, .slice A f.bs.length c] 25 (0, 0))) := hide (heap_alloc_new _ _)
  have K8 : Hid (∀ W, Below w.heap.size w W → Calls Try.prog 8 #[.agg #[.int .u64 (f.dst : Int), .int .u64 (f.src : Int), .bool f.tag, .int .i64 f.prio, .int .i64 f.vid, .int .i64 f.kind, .slice A f.bs.length c]] W fun e w' => ∃ b off d, e = .returned (.tuple #[.slice (some ⟨b, off, none⟩) (18 + f.bs.length) d, .int .i64 0]) ∧ RowA w' (some ⟨b, off, none⟩) (u8s (encB f)) ∧ Below W.heap.size W w' ∧ 18 + f.bs.length ≤ d ∧ d ≤ 9223372036854775807 ∧ (∀ W', Below w'.heap.size w' W' → RowA W' (some ⟨b, off, none⟩) (u8s ((encB f).take 17)))) := fun W hW => (encode_yes f hf hg A c W (rowA_below hA hW)).mono fun e w' ⟨B, d, he, hr, hb, h1, h2⟩ => by
    obtain ⟨b, off, rfl, hc⟩ := row_at hr (by omega)
    rw [hlen] at he h1
    exact ⟨b, off, d, he, hr, hb, h1, h2, fun W' hW' => by have := row_drop (hc W' hW') 0 17; simpa using this⟩
  have K11a : Hid (∀ W b off d, RowA W (some ⟨b, off, none⟩) (u8s ((encB f).take 17)) → 17 ≤ d → d ≤ 9223372036854775807 → Calls Try.prog 11 #[.slice (some ⟨b, off, none⟩) 17 d] W fun e w' => ∃ B1 d1, e = .returned (.tuple #[.agg #[.int .u64 (fr0.dst : Int), .int .u64 (fr0.src : Int), .bool fr0.tag, .int .i64 fr0.prio, .int .i64 fr0.vid, .int .i64 fr0.kind, .slice B1 fr0.bs.length d1], .int .i64 11]) ∧ RowA w' B1 (u8s fr0.bs) ∧ Below W.heap.size W w') := fun W b off d hr h1 h2 => by
    have hl0 : ((encB f).take 17).length = 17 := by rw [List.length_take, hlen]; omega
    have h := parse_any (some ⟨b, off, none⟩) d ((encB f).take 17) W (fun x h => hble x (List.mem_of_mem_take h)) hr (by omega) (by omega) h2
    rw [hpc, hl0] at h
    exact h
  have K11b : Hid (∀ W B d, RowA W B (u8s (encB f ++ bs)) → 18 + f.bs.length + bs.length ≤ d → d ≤ 9223372036854775807 → Calls Try.prog 11 #[.slice B (18 + f.bs.length + bs.length) d] W fun e w' => ∃ B7 d7, e = .returned (.tuple #[.agg #[.int .u64 (f.dst : Int), .int .u64 (f.src : Int), .bool true, .int .i64 f.prio, .int .i64 f.vid, .int .i64 f.kind, .slice B7 (f.bs.length + bs.length) d7], .int .i64 0]) ∧ RowA w' B7 (u8s (f.bs ++ bs)) ∧ Below W.heap.size W w') := fun W B d hr h1 h2 => by
    have hl0 : (encB f ++ bs).length = 18 + f.bs.length + bs.length := by rw [List.length_append, hlen]
    have h := parse_any B d (encB f ++ bs) W (fun x h => (List.mem_append.1 h).elim (hble x) (hx x)) hr (by omega) (by omega) h2
    rw [hpm, hl0] at h
    exact h.mono fun e w' ⟨B7, d7, he, hr7, hb7⟩ => ⟨B7, d7, by rw [he]; simp only [List.length_append, ht], hr7, hb7⟩
  have HRX := hide (fun W (hW : Below w.heap.size w W) => rowA_below hX hW)
  have HRA := hide (fun W (hW : Below w.heap.size w W) => rowA_below hA hW)
  obtain ⟨i0, hi, hz0, hz1, hz2⟩ := i5
  have HLE := hide hlen
  rw [ht] at HX HB K8
  obtain ⟨N, hN⟩ : ∃ N, N = 18 + f.bs.length := ⟨_, rfl⟩
  rw [← hN] at K8 K11b HLE
  have hN1 : ((N : Int) != 18 + (f.bs.length : Int)) = false := by rw [hN]; simp
  have hN2 : ¬ (N : Int) ≠ 18 + (f.bs.length : Int) := by rw [hN]; simp
  have hNl : N ≤ 3000 := by omega
  have hov : ¬ ((1500 : Int) < (f.bs.length : Int) + (bs.length : Int)) := by omega
  clear hA hX hx hf hg hlen hble hpc hpm hlt hN hcc
  go_enter Try.func6, Try.ntmps6
  go_upto_region 12 with (first
    | (go_at_call 8; go_loud ((with_reducible refine (unhide K8 _ (unhide HB)).mono ?_); rintro e w2 ⟨b, off, d2, rfl, hr2, hb2, hd1, hd2, hc2⟩; have hd13 : (17 : Int) ≤ (d2 : Int) := (by omega); have HR2 := hide hr2; have HB2 := hide (below_then (unhide HB) hb2); have HX2 := hide (heap_keep (unhide HX) hb2); have HD1 := hide hd1; have HD2 := hide hd2; have HC2 := hide (hc2 w2 (Below.refl _ _)); have y2 : w2.cell? ⟨w.heap.size, 2, none⟩ = some (.bool true) := (heap_cell (unhide HX2) 2).1; have y6 : w2.cell? ⟨w.heap.size, 6, none⟩ = some (.slice A f.bs.length c) := (heap_cell (unhide HX2) 6).1; clear hr2 hb2 hd1 hd2 hc2))
    | (go_at_call 11; go_loud ((with_reducible refine (unhide K11a _ _ _ _ (unhide HC2) (by have := unhide HD1; omega) (unhide HD2)).mono ?_); rintro e w3 ⟨B3, d3, rfl, hr3, hb3⟩; have HB3 := hide (below_alloc hb3 (.cells #[.int .u64 (fr0.dst : Int), .int .u64 (fr0.src : Int), .bool fr0.tag, .int .i64 fr0.prio, .int .i64 fr0.vid, .int .i64 fr0.kind, .slice B3 fr0.bs.length d3] 25)); clear hr3 hb3)))

  generalize w3.alloc (.cells #[.int .u64 (fr0.dst : Int), .int .u64 (fr0.src : Int), .bool fr0.tag, .int .i64 fr0.prio, .int .i64 fr0.vid, .int .i64 fr0.kind, .slice B3 fr0.bs.length d3] 25) = w4 at *
  have HB4 := hide (below_then (unhide HB2) (unhide HB3))
  have HX4 := hide (heap_keep (unhide HX2) (unhide HB3))
  have HR4 := hide (rowA_below (unhide HR2) (unhide HB3))
  clear y2 y6
  have z6 : w4.cell? ⟨w.heap.size, 6, none⟩ = some (.slice A f.bs.length c) := (heap_cell (unhide HX4) 6).1
  go_upto_region 17 with (first
    | (at_builtin; refine wpList_append_row rfl _ _ 23 rfl w4.heap.size 5 i0 (.int .u8 0) 1 1 Try.underlying23 hi hz0 hz1 hz2 rfl (by decide) (by decide) _ 0 [] rfl (own_lit0 w4) (some ⟨b, off, none⟩) N d2 (u8s (encB f)) rfl (by rw [u8s_len, unhide HLE]; omega) (rowA_below (unhide HR4) (below_alloc (Below.refl _ _) _)) (u8s_one _) (by omega) (by simp) ?_; intro v5 w5 h2 h3 _; rw [Nat.zero_add, List.nil_append] at h2; obtain ⟨B5, d5, rfl, _⟩ := own_row1 h2; have HO5 := hide h2; have HB5 := hide (below_base (below_alloc (Below.refl _ _) _ : Below w4.heap.size w4 _) h3 (fun k e => by cases e; exact Nat.le_refl _)); clear h2 h3)
    | (at_builtin; refine wpList_append_row rfl _ _ 23 rfl w4.heap.size 5 i0 (.int .u8 0) 1 1 Try.underlying23 hi hz0 hz1 hz2 rfl (by decide) (by decide) _ N (u8s (encB f)) rfl (unhide HO5) X bs.length cx (u8s bs) rfl (by rw [u8s_len]; omega) (unhide HRX _ (below_then (unhide HB4) (unhide HB5))) (u8s_one _) (by omega) ((unhide HB5).size) ?_; intro v6 w6 h2 h3 _; rw [← u8s_app] at h2; obtain ⟨B6, d6, rfl, hr6, hd1, hd2⟩ := own_row1c h2; have HR6 := hide hr6; have HD3 := hide hd1; have HD4 := hide hd2; have HB6 := hide (below_base (unhide HB5) h3 (fun k e => ((unhide HO5).lt k e).1)); clear h2 h3 hr6 hd1 hd2)
    | (go_at_call 11; go_loud ((with_reducible refine (unhide K11b _ _ _ (unhide HR6) (unhide HD3) (unhide HD4)).mono ?_); rintro e w7 ⟨B7, d7, rfl, hr7, hb7⟩; have HY7 := hide (heap_alloc_new w7 (.cells #[.int .u64 (f.dst : Int), .int .u64 (f.src : Int), .bool true, .int .i64 f.prio, .int .i64 f.vid, .int .i64 f.kind, .slice B7 (f.bs.length + bs.length) d7] 25)); have HR7 := hide (rowA_below hr7 (below_alloc (Below.refl _ _) (.cells #[.int .u64 (f.dst : Int), .int .u64 (f.src : Int), .bool true, .int .i64 f.prio, .int .i64 f.vid, .int .i64 f.kind, .slice B7 (f.bs.length + bs.length) d7] 25))); have HB7 := hide (below_alloc (below_then (unhide HB6) hb7) (.cells #[.int .u64 (f.dst : Int), .int .u64 (f.src : Int), .bool true, .int .i64 f.prio, .int .i64 f.vid, .int .i64 f.kind, .slice B7 (f.bs.length + bs.length) d7] 25)); have HX7 := hide (heap_keep (unhide HX4) (unhide HB7)); have x6 : (w7.alloc (.cells #[.int .u64 (f.dst : Int), .int .u64 (f.src : Int), .bool true, .int .i64 f.prio, .int .i64 f.vid, .int .i64 f.kind, .slice B7 (f.bs.length + bs.length) d7] 25)).cell? ⟨w.heap.size, 6, none⟩ = some (.slice A f.bs.length c) := (heap_cell (unhide HX7) 6).1; clear hr7 hb7)))
  generalize w7.alloc (.cells #[.int .u64 (f.dst : Int), .int .u64 (f.src : Int), .bool true, .int .i64 f.prio, .int .i64 f.vid, .int .i64 f.kind, .slice B7 (f.bs.length + bs.length) d7] 25) = w8 at *
  have HB8 := hide (below_then (unhide HB4) (unhide HB7))
  have HSK := hide (fun W (hW : Below w8.heap.size w8 W) => (⟨hW, (heap_cell (heap_keep (unhide HX7) hW) 1).1, (heap_cell (heap_keep (unhide HX7) hW) 6).1, (heap_cell (heap_keep (unhide HY7) hW) 1).1, (heap_cell (heap_keep (unhide HY7) hW) 6).1⟩ : Below w8.heap.size w8 W ∧ W.cell? ⟨w.heap.size, 1, none⟩ = some (.int .u64 (f.src : Int)) ∧ W.cell? ⟨w.heap.size, 6, none⟩ = some (.slice A f.bs.length c) ∧ W.cell? ⟨w7.heap.size, 1, none⟩ = some (.int .u64 (f.src : Int)) ∧ W.cell? ⟨w7.heap.size, 6, none⟩ = some (.slice B7 (f.bs.length + bs.length) d7)))
  have K15 := hide (fun W (hW : Below w8.heap.size w8 W) B d (hB : RowA W B (u8s (f.bs ++ bs))) => kbytes_same W B7 B d7 d (f.bs ++ bs) (rowA_below (unhide HR7) hW) hB)
  simp only [List.length_append] at K15
  go_region_held3 (fun W => Below w8.heap.size w8 W ∧ W.cell? ⟨w.heap.size, 1, none⟩ = some (.int .u64 (f.src : Int)) ∧ W.cell? ⟨w.heap.size, 6, none⟩ = some (.slice A f.bs.length c) ∧ W.cell? ⟨w7.heap.size, 1, none⟩ = some (.int .u64 (f.src : Int)) ∧ W.cell? ⟨w7.heap.size, 6, none⟩ = some (.slice B7 (f.bs.length + bs.length) d7))
    ((go_split_ands; refine unhide HSK _ ?_; (repeat (first | (with_reducible assumption) | (with_reducible exact Below.refl _ _) | (with_reducible refine Below.drew ?_) | (with_reducible refine below_drewN ?_ _) | (with_reducible refine below_alloc ?_ _)))))
    (first
      | (refine step_append_rowG rfl (.tmp 83) (.tmp 85) 23 rfl w8.heap.size 5 i0 (.int .u8 0) 1 1 Try.underlying23 hi hz0 hz1 hz2 rfl (by decide) (by decide) _ 0 [] rfl (own_litb (heap_alloc_new w8 _) (Nat.le_refl _)) _ f.bs.length _ (u8s f.bs) rfl (by rw [u8s_len]; omega) (unhide HRA _ (below_then (unhide HB8) (by (repeat (first | (with_reducible assumption) | (with_reducible exact Below.refl _ _) | (with_reducible refine Below.drew ?_) | (with_reducible refine below_drewN ?_ _) | (with_reducible refine below_alloc ?_ _)))))) (u8s_one _) (by omega) (Below.size (by (repeat (first | (with_reducible assumption) | (with_reducible exact Below.refl _ _) | (with_reducible refine Below.drew ?_) | (with_reducible refine below_drewN ?_ _) | (with_reducible refine below_alloc ?_ _))) : Below w8.heap.size w8 _)) ?_; intro va wa h2 h3 _; rw [Nat.zero_add, List.nil_append] at h2; obtain ⟨Ba, da, rfl, _⟩ := own_row1 h2; have HOa := hide h2; have HBa := hide (below_base (by (repeat (first | (with_reducible assumption) | (with_reducible exact Below.refl _ _) | (with_reducible refine Below.drew ?_) | (with_reducible refine below_drewN ?_ _) | (with_reducible refine below_alloc ?_ _))) : Below w8.heap.size w8 _) h3 (fun k e => by cases e; exact Nat.le_refl _)); have hba := unhide HBa; clear h2 h3)
      | (refine step_append_rowG rfl (.tmp 86) (.tmp 87) 23 rfl w8.heap.size 5 i0 (.int .u8 0) 1 1 Try.underlying23 hi hz0 hz1 hz2 rfl (by decide) (by decide) _ f.bs.length (u8s f.bs) rfl (own_below (unhide HOa) (by (repeat (first | (with_reducible assumption) | (with_reducible exact Below.refl _ _) | (with_reducible refine Below.drew ?_) | (with_reducible refine below_drewN ?_ _) | (with_reducible refine below_alloc ?_ _))) : Below wa.heap.size wa _)) _ bs.length _ (u8s bs) rfl (by rw [u8s_len]; omega) (unhide HRX _ (below_then (unhide HB8) (by (repeat (first | (with_reducible assumption) | (with_reducible exact Below.refl _ _) | (with_reducible refine Below.drew ?_) | (with_reducible refine below_drewN ?_ _) | (with_reducible refine below_alloc ?_ _)))))) (u8s_one _) (by omega) (Below.size (by (repeat (first | (with_reducible assumption) | (with_reducible exact Below.refl _ _) | (with_reducible refine Below.drew ?_) | (with_reducible refine below_drewN ?_ _) | (with_reducible refine below_alloc ?_ _))) : Below w8.heap.size w8 _)) ?_; intro vb wb h2 h3 _; rw [← u8s_app] at h2; obtain ⟨Bb, db, rfl, hrb⟩ := own_row1 h2; have HRb := hide hrb; have HBb := hide (below_base (by (repeat (first | (with_reducible assumption) | (with_reducible exact Below.refl _ _) | (with_reducible refine Below.drew ?_) | (with_reducible refine below_drewN ?_ _) | (with_reducible refine below_alloc ?_ _))) : Below w8.heap.size w8 _) h3 (fun k e => ((unhide HOa).lt k e).1)); have hbb := unhide HBb; clear h2 h3 hrb)
      | (go_at_call 15; (with_reducible refine (unhide K15 _ (by (repeat (first | (with_reducible assumption) | (with_reducible exact Below.refl _ _) | (with_reducible refine Below.drew ?_) | (with_reducible refine below_drewN ?_ _) | (with_reducible refine below_alloc ?_ _)))) _ _ (rowA_below (unhide HRb) (by (repeat (first | (with_reducible assumption) | (with_reducible exact Below.refl _ _) | (with_reducible refine Below.drew ?_) | (with_reducible refine below_drewN ?_ _) | (with_reducible refine below_alloc ?_ _)))))).mono ?_); rintro e wc ⟨rfl, rfl⟩)
      | (go_at_call 7; (with_reducible refine (wakes_any _).mono ?_); rintro e w9 ⟨rfl, hb9⟩; have hbd9 := below_then (by (repeat (first | (with_reducible assumption) | (with_reducible exact Below.refl _ _) | (with_reducible refine Below.drew ?_) | (with_reducible refine below_drewN ?_ _) | (with_reducible refine below_alloc ?_ _))) : Below w8.heap.size w8 _) hb9; clear hb9))
  all_goals
    go_wp2
    go_ret
    exact ⟨rfl, below_then (unhide HB8) (by assumption)⟩
set_option maxRecDepth 10000 in
set_option maxHeartbeats 8000000 in
theorem sizes_t_over (f : Fr) (hf : f.Fit) (hg : goodF f = true) (ht : f.tag = true) (A : Option Addr) (c : Nat) (X : Option Addr) (bs : List Nat) (cx : Nat) (w : World) (hA : RowA w A (u8s f.bs)) (hX : RowA w X (u8s bs)) (hx : ∀ x ∈ bs, x < 256) (hn : bs.length ≤ 100) (hcc : ¬ f.bs.length + bs.length ≤ 1518 - 18) : Calls Try.prog 6 #[.agg #[.int .u64 (f.dst : Int), .int .u64 (f.src : Int), .bool f.tag, .int .i64 f.prio, .int .i64 f.vid, .int .i64 f.kind, .slice A f.bs.length c], .slice X bs.length cx] w fun e w' => e = .returned (.bool true) ∧ Below w.heap.size w w' := by
  obtain ⟨_, _, _, hl4, _, _⟩ := goodF_parts f hg
  have hlt : leastN f.tag = 18 := by rw [ht]; rfl
  have hlen := encB_len f
  rw [hlt] at hlen
  have h' : ¬ (2000 : Int) < (f.bs.length : Int) := by omega
  have h'' : ¬ (100 : Int) < (bs.length : Int) := by omega
  have hble := encB_lt f hf hg
  have hpc := pars_cut f 17 (by rw [hlt]; decide)
  have hpm := pars_more f hg bs
  rw [hlt, if_neg hcc] at hpm
  have HB : Hid (Below w.heap.size w (w.alloc (.cells #[.int .u64 (f.dst : Int), .int .u64 (f.src : Int), .bool f.tag, .int .i64 f.prio, .int .i64 f.vid, .int .i64 f.kind, .slice A f.bs.length c] 25))) := hide (below_alloc (Below.refl _ _) _)
  have HX : Hid ((w.alloc (.cells #[.int .u64 (f.dst : Int), .int .u64 (f.src : Int), .bool f.tag, .int .i64 f.prio, .int .i64 f.vid, .int .i64 f.kind, .slice A f.bs.length c] 25)).heap[w.heap.size]? = some (.cells #[.int .u64 (f.dst : Int), .int .u64 (f.src : Int), .bool f.tag, .int .i64 f.prio, .int .i64 f.vid, .int .i64 f.kind, .slice A f.bs.length c] 25 (0, 0))) := hide (heap_alloc_new _ _)
  have K8 : Hid (∀ W, Below w.heap.size w W → Calls Try.prog 8 #[.agg #[.int .u64 (f.dst : Int), .int .u64 (f.src : Int), .bool f.tag, .int .i64 f.prio, .int .i64 f.vid, .int .i64 f.kind, .slice A f.bs.length c]] W fun e w' => ∃ b off d, e = .returned (.tuple #[.slice (some ⟨b, off, none⟩) (18 + f.bs.length) d, .int .i64 0]) ∧ RowA w' (some ⟨b, off, none⟩) (u8s (encB f)) ∧ Below W.heap.size W w' ∧ 18 + f.bs.length ≤ d ∧ d ≤ 9223372036854775807 ∧ (∀ W', Below w'.heap.size w' W' → RowA W' (some ⟨b, off, none⟩) (u8s ((encB f).take 17)))) := fun W hW => (encode_yes f hf hg A c W (rowA_below hA hW)).mono fun e w' ⟨B, d, he, hr, hb, h1, h2⟩ => by
    obtain ⟨b, off, rfl, hc⟩ := row_at hr (by omega)
    rw [hlen] at he h1
    exact ⟨b, off, d, he, hr, hb, h1, h2, fun W' hW' => by have := row_drop (hc W' hW') 0 17; simpa using this⟩
  have K11a : Hid (∀ W b off d, RowA W (some ⟨b, off, none⟩) (u8s ((encB f).take 17)) → 17 ≤ d → d ≤ 9223372036854775807 → Calls Try.prog 11 #[.slice (some ⟨b, off, none⟩) 17 d] W fun e w' => ∃ B1 d1, e = .returned (.tuple #[.agg #[.int .u64 (fr0.dst : Int), .int .u64 (fr0.src : Int), .bool fr0.tag, .int .i64 fr0.prio, .int .i64 fr0.vid, .int .i64 fr0.kind, .slice B1 fr0.bs.length d1], .int .i64 11]) ∧ RowA w' B1 (u8s fr0.bs) ∧ Below W.heap.size W w') := fun W b off d hr h1 h2 => by
    have hl0 : ((encB f).take 17).length = 17 := by rw [List.length_take, hlen]; omega
    have h := parse_any (some ⟨b, off, none⟩) d ((encB f).take 17) W (fun x h => hble x (List.mem_of_mem_take h)) hr (by omega) (by omega) h2
    rw [hpc, hl0] at h
    exact h
  have K11b : Hid (∀ W B d, RowA W B (u8s (encB f ++ bs)) → 18 + f.bs.length + bs.length ≤ d → d ≤ 9223372036854775807 → Calls Try.prog 11 #[.slice B (18 + f.bs.length + bs.length) d] W fun e w' => ∃ B7 d7, e = .returned (.tuple #[.agg #[.int .u64 (fr0.dst : Int), .int .u64 (fr0.src : Int), .bool fr0.tag, .int .i64 fr0.prio, .int .i64 fr0.vid, .int .i64 fr0.kind, .slice B7 fr0.bs.length d7], .int .i64 11]) ∧ RowA w' B7 (u8s fr0.bs) ∧ Below W.heap.size W w') := fun W B d hr h1 h2 => by
    have hl0 : (encB f ++ bs).length = 18 + f.bs.length + bs.length := by rw [List.length_append, hlen]
    have h := parse_any B d (encB f ++ bs) W (fun x h => (List.mem_append.1 h).elim (hble x) (hx x)) hr (by omega) (by omega) h2
    rw [hpm, hl0] at h
    exact h.mono fun e w' ⟨B7, d7, he, hr7, hb7⟩ => ⟨B7, d7, by exact he, hr7, hb7⟩
  have HRX := hide (fun W (hW : Below w.heap.size w W) => rowA_below hX hW)
  have HRA := hide (fun W (hW : Below w.heap.size w W) => rowA_below hA hW)
  obtain ⟨i0, hi, hz0, hz1, hz2⟩ := i5
  have HLE := hide hlen
  rw [ht] at HX HB K8
  obtain ⟨N, hN⟩ : ∃ N, N = 18 + f.bs.length := ⟨_, rfl⟩
  rw [← hN] at K8 K11b HLE
  have hN1 : ((N : Int) != 18 + (f.bs.length : Int)) = false := by rw [hN]; simp
  have hN2 : ¬ (N : Int) ≠ 18 + (f.bs.length : Int) := by rw [hN]; simp
  have hNl : N ≤ 3000 := by omega
  have hov : ((1500 : Int) < (f.bs.length : Int) + (bs.length : Int)) := by omega
  clear hA hX hx hf hg hlen hble hpc hpm hlt hN hcc
  go_enter Try.func6, Try.ntmps6
  go_upto_region 12 with (first
    | (go_at_call 8; go_loud ((with_reducible refine (unhide K8 _ (unhide HB)).mono ?_); rintro e w2 ⟨b, off, d2, rfl, hr2, hb2, hd1, hd2, hc2⟩; have hd13 : (17 : Int) ≤ (d2 : Int) := (by omega); have HR2 := hide hr2; have HB2 := hide (below_then (unhide HB) hb2); have HX2 := hide (heap_keep (unhide HX) hb2); have HD1 := hide hd1; have HD2 := hide hd2; have HC2 := hide (hc2 w2 (Below.refl _ _)); have y2 : w2.cell? ⟨w.heap.size, 2, none⟩ = some (.bool true) := (heap_cell (unhide HX2) 2).1; have y6 : w2.cell? ⟨w.heap.size, 6, none⟩ = some (.slice A f.bs.length c) := (heap_cell (unhide HX2) 6).1; clear hr2 hb2 hd1 hd2 hc2))
    | (go_at_call 11; go_loud ((with_reducible refine (unhide K11a _ _ _ _ (unhide HC2) (by have := unhide HD1; omega) (unhide HD2)).mono ?_); rintro e w3 ⟨B3, d3, rfl, hr3, hb3⟩; have HB3 := hide (below_alloc hb3 (.cells #[.int .u64 (fr0.dst : Int), .int .u64 (fr0.src : Int), .bool fr0.tag, .int .i64 fr0.prio, .int .i64 fr0.vid, .int .i64 fr0.kind, .slice B3 fr0.bs.length d3] 25)); clear hr3 hb3)))

  generalize w3.alloc (.cells #[.int .u64 (fr0.dst : Int), .int .u64 (fr0.src : Int), .bool fr0.tag, .int .i64 fr0.prio, .int .i64 fr0.vid, .int .i64 fr0.kind, .slice B3 fr0.bs.length d3] 25) = w4 at *
  have HB4 := hide (below_then (unhide HB2) (unhide HB3))
  have HX4 := hide (heap_keep (unhide HX2) (unhide HB3))
  have HR4 := hide (rowA_below (unhide HR2) (unhide HB3))
  clear y2 y6
  have z6 : w4.cell? ⟨w.heap.size, 6, none⟩ = some (.slice A f.bs.length c) := (heap_cell (unhide HX4) 6).1
  go_wp2_with (first
    | (at_builtin; refine wpList_append_row rfl _ _ 23 rfl w4.heap.size 5 i0 (.int .u8 0) 1 1 Try.underlying23 hi hz0 hz1 hz2 rfl (by decide) (by decide) _ 0 [] rfl (own_lit0 w4) (some ⟨b, off, none⟩) N d2 (u8s (encB f)) rfl (by rw [u8s_len, unhide HLE]; omega) (rowA_below (unhide HR4) (below_alloc (Below.refl _ _) _)) (u8s_one _) (by omega) (by simp) ?_; intro v5 w5 h2 h3 _; rw [Nat.zero_add, List.nil_append] at h2; obtain ⟨B5, d5, rfl, _⟩ := own_row1 h2; have HO5 := hide h2; have HB5 := hide (below_base (below_alloc (Below.refl _ _) _ : Below w4.heap.size w4 _) h3 (fun k e => by cases e; exact Nat.le_refl _)); clear h2 h3)
    | (at_builtin; refine wpList_append_row rfl _ _ 23 rfl w4.heap.size 5 i0 (.int .u8 0) 1 1 Try.underlying23 hi hz0 hz1 hz2 rfl (by decide) (by decide) _ N (u8s (encB f)) rfl (unhide HO5) X bs.length cx (u8s bs) rfl (by rw [u8s_len]; omega) (unhide HRX _ (below_then (unhide HB4) (unhide HB5))) (u8s_one _) (by omega) ((unhide HB5).size) ?_; intro v6 w6 h2 h3 _; rw [← u8s_app] at h2; obtain ⟨B6, d6, rfl, hr6, hd1, hd2⟩ := own_row1c h2; have HR6 := hide hr6; have HD3 := hide hd1; have HD4 := hide hd2; have HB6 := hide (below_base (unhide HB5) h3 (fun k e => ((unhide HO5).lt k e).1)); clear h2 h3 hr6 hd1 hd2)
    | (go_at_call 11; go_loud ((with_reducible refine (unhide K11b _ _ _ (unhide HR6) (unhide HD3) (unhide HD4)).mono ?_); rintro e w7 ⟨B7, d7, rfl, hr7, hb7⟩; have HY7 := hide (heap_alloc_new w7 (.cells #[.int .u64 (fr0.dst : Int), .int .u64 (fr0.src : Int), .bool fr0.tag, .int .i64 fr0.prio, .int .i64 fr0.vid, .int .i64 fr0.kind, .slice B7 fr0.bs.length d7] 25)); have HR7 := hide (rowA_below hr7 (below_alloc (Below.refl _ _) (.cells #[.int .u64 (fr0.dst : Int), .int .u64 (fr0.src : Int), .bool fr0.tag, .int .i64 fr0.prio, .int .i64 fr0.vid, .int .i64 fr0.kind, .slice B7 fr0.bs.length d7] 25))); have HB7 := hide (below_alloc (below_then (unhide HB6) hb7) (.cells #[.int .u64 (fr0.dst : Int), .int .u64 (fr0.src : Int), .bool fr0.tag, .int .i64 fr0.prio, .int .i64 fr0.vid, .int .i64 fr0.kind, .slice B7 fr0.bs.length d7] 25)); have HX7 := hide (heap_keep (unhide HX4) (unhide HB7)); have x6 : (w7.alloc (.cells #[.int .u64 (fr0.dst : Int), .int .u64 (fr0.src : Int), .bool fr0.tag, .int .i64 fr0.prio, .int .i64 fr0.vid, .int .i64 fr0.kind, .slice B7 fr0.bs.length d7] 25)).cell? ⟨w.heap.size, 6, none⟩ = some (.slice A f.bs.length c) := (heap_cell (unhide HX7) 6).1; clear hr7 hb7))
    | (go_at_call 7; with_reducible refine (wakes_any _).mono ?_; rintro e w9 ⟨rfl, hb9⟩; have HB9 := hide hb9; clear hb9))
  go_ret
  exact ⟨rfl, below_then (below_then (unhide HB4) (unhide HB7)) (unhide HB9)⟩
set_option maxRecDepth 10000 in
set_option maxHeartbeats 8000000 in
theorem sizes_f_in (f : Fr) (hf : f.Fit) (hg : goodF f = true) (ht : f.tag = false) (A : Option Addr) (c : Nat) (X : Option Addr) (bs : List Nat) (cx : Nat) (w : World) (hA : RowA w A (u8s f.bs)) (hX : RowA w X (u8s bs)) (hx : ∀ x ∈ bs, x < 256) (hn : bs.length ≤ 100) (hcc : f.bs.length + bs.length ≤ 1518 - 14) : Calls Try.prog 6 #[.agg #[.int .u64 (f.dst : Int), .int .u64 (f.src : Int), .bool f.tag, .int .i64 f.prio, .int .i64 f.vid, .int .i64 f.kind, .slice A f.bs.length c], .slice X bs.length cx] w fun e w' => e = .returned (.bool true) ∧ Below w.heap.size w w' := by
  obtain ⟨_, _, _, hl4, _, _⟩ := goodF_parts f hg
  have hlt : leastN f.tag = 14 := by rw [ht]; rfl
  have hlen := encB_len f
  rw [hlt] at hlen
  have h' : ¬ (2000 : Int) < (f.bs.length : Int) := by omega
  have h'' : ¬ (100 : Int) < (bs.length : Int) := by omega
  have hble := encB_lt f hf hg
  have hpc := pars_cut f 13 (by rw [hlt]; decide)
  have hpm := pars_more f hg bs
  rw [hlt, if_pos hcc] at hpm
  have HB : Hid (Below w.heap.size w (w.alloc (.cells #[.int .u64 (f.dst : Int), .int .u64 (f.src : Int), .bool f.tag, .int .i64 f.prio, .int .i64 f.vid, .int .i64 f.kind, .slice A f.bs.length c] 25))) := hide (below_alloc (Below.refl _ _) _)
  have HX : Hid ((w.alloc (.cells #[.int .u64 (f.dst : Int), .int .u64 (f.src : Int), .bool f.tag, .int .i64 f.prio, .int .i64 f.vid, .int .i64 f.kind, .slice A f.bs.length c] 25)).heap[w.heap.size]? = some (.cells #[.int .u64 (f.dst : Int), .int .u64 (f.src : Int), .bool f.tag, .int .i64 f.prio, .int .i64 f.vid, .int .i64 f.kind, .slice A f.bs.length c] 25 (0, 0))) := hide (heap_alloc_new _ _)
  have K8 : Hid (∀ W, Below w.heap.size w W → Calls Try.prog 8 #[.agg #[.int .u64 (f.dst : Int), .int .u64 (f.src : Int), .bool f.tag, .int .i64 f.prio, .int .i64 f.vid, .int .i64 f.kind, .slice A f.bs.length c]] W fun e w' => ∃ b off d, e = .returned (.tuple #[.slice (some ⟨b, off, none⟩) (14 + f.bs.length) d, .int .i64 0]) ∧ RowA w' (some ⟨b, off, none⟩) (u8s (encB f)) ∧ Below W.heap.size W w' ∧ 14 + f.bs.length ≤ d ∧ d ≤ 9223372036854775807 ∧ (∀ W', Below w'.heap.size w' W' → RowA W' (some ⟨b, off, none⟩) (u8s ((encB f).take 13)))) := fun W hW => (encode_yes f hf hg A c W (rowA_below hA hW)).mono fun e w' ⟨B, d, he, hr, hb, h1, h2⟩ => by
    obtain ⟨b, off, rfl, hc⟩ := row_at hr (by omega)
    rw [hlen] at he h1
    exact ⟨b, off, d, he, hr, hb, h1, h2, fun W' hW' => by have := row_drop (hc W' hW') 0 13; simpa using this⟩
  have K11a : Hid (∀ W b off d, RowA W (some ⟨b, off, none⟩) (u8s ((encB f).take 13)) → 13 ≤ d → d ≤ 9223372036854775807 → Calls Try.prog 11 #[.slice (some ⟨b, off, none⟩) 13 d] W fun e w' => ∃ B1 d1, e = .returned (.tuple #[.agg #[.int .u64 (fr0.dst : Int), .int .u64 (fr0.src : Int), .bool fr0.tag, .int .i64 fr0.prio, .int .i64 fr0.vid, .int .i64 fr0.kind, .slice B1 fr0.bs.length d1], .int .i64 11]) ∧ RowA w' B1 (u8s fr0.bs) ∧ Below W.heap.size W w') := fun W b off d hr h1 h2 => by
    have hl0 : ((encB f).take 13).length = 13 := by rw [List.length_take, hlen]; omega
    have h := parse_any (some ⟨b, off, none⟩) d ((encB f).take 13) W (fun x h => hble x (List.mem_of_mem_take h)) hr (by omega) (by omega) h2
    rw [hpc, hl0] at h
    exact h
  have K11b : Hid (∀ W B d, RowA W B (u8s (encB f ++ bs)) → 14 + f.bs.length + bs.length ≤ d → d ≤ 9223372036854775807 → Calls Try.prog 11 #[.slice B (14 + f.bs.length + bs.length) d] W fun e w' => ∃ B7 d7, e = .returned (.tuple #[.agg #[.int .u64 (f.dst : Int), .int .u64 (f.src : Int), .bool false, .int .i64 f.prio, .int .i64 f.vid, .int .i64 f.kind, .slice B7 (f.bs.length + bs.length) d7], .int .i64 0]) ∧ RowA w' B7 (u8s (f.bs ++ bs)) ∧ Below W.heap.size W w') := fun W B d hr h1 h2 => by
    have hl0 : (encB f ++ bs).length = 14 + f.bs.length + bs.length := by rw [List.length_append, hlen]
    have h := parse_any B d (encB f ++ bs) W (fun x h => (List.mem_append.1 h).elim (hble x) (hx x)) hr (by omega) (by omega) h2
    rw [hpm, hl0] at h
    exact h.mono fun e w' ⟨B7, d7, he, hr7, hb7⟩ => ⟨B7, d7, by rw [he]; simp only [List.length_append, ht], hr7, hb7⟩
  have HRX := hide (fun W (hW : Below w.heap.size w W) => rowA_below hX hW)
  have HRA := hide (fun W (hW : Below w.heap.size w W) => rowA_below hA hW)
  obtain ⟨i0, hi, hz0, hz1, hz2⟩ := i5
  have HLE := hide hlen
  rw [ht] at HX HB K8
  obtain ⟨N, hN⟩ : ∃ N, N = 14 + f.bs.length := ⟨_, rfl⟩
  rw [← hN] at K8 K11b HLE
  have hN1 : ((N : Int) != 14 + (f.bs.length : Int)) = false := by rw [hN]; simp
  have hN2 : ¬ (N : Int) ≠ 14 + (f.bs.length : Int) := by rw [hN]; simp
  have hNl : N ≤ 3000 := by omega
  have hov : ¬ ((1504 : Int) < (f.bs.length : Int) + (bs.length : Int)) := by omega
  clear hA hX hx hf hg hlen hble hpc hpm hlt hN hcc
  go_enter Try.func6, Try.ntmps6
  go_upto_region 12 with (first
    | (go_at_call 8; go_loud ((with_reducible refine (unhide K8 _ (unhide HB)).mono ?_); rintro e w2 ⟨b, off, d2, rfl, hr2, hb2, hd1, hd2, hc2⟩; have hd13 : (13 : Int) ≤ (d2 : Int) := (by omega); have HR2 := hide hr2; have HB2 := hide (below_then (unhide HB) hb2); have HX2 := hide (heap_keep (unhide HX) hb2); have HD1 := hide hd1; have HD2 := hide hd2; have HC2 := hide (hc2 w2 (Below.refl _ _)); have y2 : w2.cell? ⟨w.heap.size, 2, none⟩ = some (.bool false) := (heap_cell (unhide HX2) 2).1; have y6 : w2.cell? ⟨w.heap.size, 6, none⟩ = some (.slice A f.bs.length c) := (heap_cell (unhide HX2) 6).1; clear hr2 hb2 hd1 hd2 hc2))
    | (go_at_call 11; go_loud ((with_reducible refine (unhide K11a _ _ _ _ (unhide HC2) (by have := unhide HD1; omega) (unhide HD2)).mono ?_); rintro e w3 ⟨B3, d3, rfl, hr3, hb3⟩; have HB3 := hide (below_alloc hb3 (.cells #[.int .u64 (fr0.dst : Int), .int .u64 (fr0.src : Int), .bool fr0.tag, .int .i64 fr0.prio, .int .i64 fr0.vid, .int .i64 fr0.kind, .slice B3 fr0.bs.length d3] 25)); clear hr3 hb3)))

  generalize w3.alloc (.cells #[.int .u64 (fr0.dst : Int), .int .u64 (fr0.src : Int), .bool fr0.tag, .int .i64 fr0.prio, .int .i64 fr0.vid, .int .i64 fr0.kind, .slice B3 fr0.bs.length d3] 25) = w4 at *
  have HB4 := hide (below_then (unhide HB2) (unhide HB3))
  have HX4 := hide (heap_keep (unhide HX2) (unhide HB3))
  have HR4 := hide (rowA_below (unhide HR2) (unhide HB3))
  clear y2 y6
  have z6 : w4.cell? ⟨w.heap.size, 6, none⟩ = some (.slice A f.bs.length c) := (heap_cell (unhide HX4) 6).1
  go_upto_region 17 with (first
    | (at_builtin; refine wpList_append_row rfl _ _ 23 rfl w4.heap.size 5 i0 (.int .u8 0) 1 1 Try.underlying23 hi hz0 hz1 hz2 rfl (by decide) (by decide) _ 0 [] rfl (own_lit0 w4) (some ⟨b, off, none⟩) N d2 (u8s (encB f)) rfl (by rw [u8s_len, unhide HLE]; omega) (rowA_below (unhide HR4) (below_alloc (Below.refl _ _) _)) (u8s_one _) (by omega) (by simp) ?_; intro v5 w5 h2 h3 _; rw [Nat.zero_add, List.nil_append] at h2; obtain ⟨B5, d5, rfl, _⟩ := own_row1 h2; have HO5 := hide h2; have HB5 := hide (below_base (below_alloc (Below.refl _ _) _ : Below w4.heap.size w4 _) h3 (fun k e => by cases e; exact Nat.le_refl _)); clear h2 h3)
    | (at_builtin; refine wpList_append_row rfl _ _ 23 rfl w4.heap.size 5 i0 (.int .u8 0) 1 1 Try.underlying23 hi hz0 hz1 hz2 rfl (by decide) (by decide) _ N (u8s (encB f)) rfl (unhide HO5) X bs.length cx (u8s bs) rfl (by rw [u8s_len]; omega) (unhide HRX _ (below_then (unhide HB4) (unhide HB5))) (u8s_one _) (by omega) ((unhide HB5).size) ?_; intro v6 w6 h2 h3 _; rw [← u8s_app] at h2; obtain ⟨B6, d6, rfl, hr6, hd1, hd2⟩ := own_row1c h2; have HR6 := hide hr6; have HD3 := hide hd1; have HD4 := hide hd2; have HB6 := hide (below_base (unhide HB5) h3 (fun k e => ((unhide HO5).lt k e).1)); clear h2 h3 hr6 hd1 hd2)
    | (go_at_call 11; go_loud ((with_reducible refine (unhide K11b _ _ _ (unhide HR6) (unhide HD3) (unhide HD4)).mono ?_); rintro e w7 ⟨B7, d7, rfl, hr7, hb7⟩; have HY7 := hide (heap_alloc_new w7 (.cells #[.int .u64 (f.dst : Int), .int .u64 (f.src : Int), .bool false, .int .i64 f.prio, .int .i64 f.vid, .int .i64 f.kind, .slice B7 (f.bs.length + bs.length) d7] 25)); have HR7 := hide (rowA_below hr7 (below_alloc (Below.refl _ _) (.cells #[.int .u64 (f.dst : Int), .int .u64 (f.src : Int), .bool false, .int .i64 f.prio, .int .i64 f.vid, .int .i64 f.kind, .slice B7 (f.bs.length + bs.length) d7] 25))); have HB7 := hide (below_alloc (below_then (unhide HB6) hb7) (.cells #[.int .u64 (f.dst : Int), .int .u64 (f.src : Int), .bool false, .int .i64 f.prio, .int .i64 f.vid, .int .i64 f.kind, .slice B7 (f.bs.length + bs.length) d7] 25)); have HX7 := hide (heap_keep (unhide HX4) (unhide HB7)); have x6 : (w7.alloc (.cells #[.int .u64 (f.dst : Int), .int .u64 (f.src : Int), .bool false, .int .i64 f.prio, .int .i64 f.vid, .int .i64 f.kind, .slice B7 (f.bs.length + bs.length) d7] 25)).cell? ⟨w.heap.size, 6, none⟩ = some (.slice A f.bs.length c) := (heap_cell (unhide HX7) 6).1; clear hr7 hb7)))
  generalize w7.alloc (.cells #[.int .u64 (f.dst : Int), .int .u64 (f.src : Int), .bool false, .int .i64 f.prio, .int .i64 f.vid, .int .i64 f.kind, .slice B7 (f.bs.length + bs.length) d7] 25) = w8 at *
  have HB8 := hide (below_then (unhide HB4) (unhide HB7))
  have HSK := hide (fun W (hW : Below w8.heap.size w8 W) => (⟨hW, (heap_cell (heap_keep (unhide HX7) hW) 1).1, (heap_cell (heap_keep (unhide HX7) hW) 6).1, (heap_cell (heap_keep (unhide HY7) hW) 1).1, (heap_cell (heap_keep (unhide HY7) hW) 6).1⟩ : Below w8.heap.size w8 W ∧ W.cell? ⟨w.heap.size, 1, none⟩ = some (.int .u64 (f.src : Int)) ∧ W.cell? ⟨w.heap.size, 6, none⟩ = some (.slice A f.bs.length c) ∧ W.cell? ⟨w7.heap.size, 1, none⟩ = some (.int .u64 (f.src : Int)) ∧ W.cell? ⟨w7.heap.size, 6, none⟩ = some (.slice B7 (f.bs.length + bs.length) d7)))
  have K15 := hide (fun W (hW : Below w8.heap.size w8 W) B d (hB : RowA W B (u8s (f.bs ++ bs))) => kbytes_same W B7 B d7 d (f.bs ++ bs) (rowA_below (unhide HR7) hW) hB)
  simp only [List.length_append] at K15
  go_region_held3 (fun W => Below w8.heap.size w8 W ∧ W.cell? ⟨w.heap.size, 1, none⟩ = some (.int .u64 (f.src : Int)) ∧ W.cell? ⟨w.heap.size, 6, none⟩ = some (.slice A f.bs.length c) ∧ W.cell? ⟨w7.heap.size, 1, none⟩ = some (.int .u64 (f.src : Int)) ∧ W.cell? ⟨w7.heap.size, 6, none⟩ = some (.slice B7 (f.bs.length + bs.length) d7))
    ((go_split_ands; refine unhide HSK _ ?_; (repeat (first | (with_reducible assumption) | (with_reducible exact Below.refl _ _) | (with_reducible refine Below.drew ?_) | (with_reducible refine below_drewN ?_ _) | (with_reducible refine below_alloc ?_ _)))))
    (first
      | (refine step_append_rowG rfl (.tmp 83) (.tmp 85) 23 rfl w8.heap.size 5 i0 (.int .u8 0) 1 1 Try.underlying23 hi hz0 hz1 hz2 rfl (by decide) (by decide) _ 0 [] rfl (own_litb (heap_alloc_new w8 _) (Nat.le_refl _)) _ f.bs.length _ (u8s f.bs) rfl (by rw [u8s_len]; omega) (unhide HRA _ (below_then (unhide HB8) (by (repeat (first | (with_reducible assumption) | (with_reducible exact Below.refl _ _) | (with_reducible refine Below.drew ?_) | (with_reducible refine below_drewN ?_ _) | (with_reducible refine below_alloc ?_ _)))))) (u8s_one _) (by omega) (Below.size (by (repeat (first | (with_reducible assumption) | (with_reducible exact Below.refl _ _) | (with_reducible refine Below.drew ?_) | (with_reducible refine below_drewN ?_ _) | (with_reducible refine below_alloc ?_ _))) : Below w8.heap.size w8 _)) ?_; intro va wa h2 h3 _; rw [Nat.zero_add, List.nil_append] at h2; obtain ⟨Ba, da, rfl, _⟩ := own_row1 h2; have HOa := hide h2; have HBa := hide (below_base (by (repeat (first | (with_reducible assumption) | (with_reducible exact Below.refl _ _) | (with_reducible refine Below.drew ?_) | (with_reducible refine below_drewN ?_ _) | (with_reducible refine below_alloc ?_ _))) : Below w8.heap.size w8 _) h3 (fun k e => by cases e; exact Nat.le_refl _)); have hba := unhide HBa; clear h2 h3)
      | (refine step_append_rowG rfl (.tmp 86) (.tmp 87) 23 rfl w8.heap.size 5 i0 (.int .u8 0) 1 1 Try.underlying23 hi hz0 hz1 hz2 rfl (by decide) (by decide) _ f.bs.length (u8s f.bs) rfl (own_below (unhide HOa) (by (repeat (first | (with_reducible assumption) | (with_reducible exact Below.refl _ _) | (with_reducible refine Below.drew ?_) | (with_reducible refine below_drewN ?_ _) | (with_reducible refine below_alloc ?_ _))) : Below wa.heap.size wa _)) _ bs.length _ (u8s bs) rfl (by rw [u8s_len]; omega) (unhide HRX _ (below_then (unhide HB8) (by (repeat (first | (with_reducible assumption) | (with_reducible exact Below.refl _ _) | (with_reducible refine Below.drew ?_) | (with_reducible refine below_drewN ?_ _) | (with_reducible refine below_alloc ?_ _)))))) (u8s_one _) (by omega) (Below.size (by (repeat (first | (with_reducible assumption) | (with_reducible exact Below.refl _ _) | (with_reducible refine Below.drew ?_) | (with_reducible refine below_drewN ?_ _) | (with_reducible refine below_alloc ?_ _))) : Below w8.heap.size w8 _)) ?_; intro vb wb h2 h3 _; rw [← u8s_app] at h2; obtain ⟨Bb, db, rfl, hrb⟩ := own_row1 h2; have HRb := hide hrb; have HBb := hide (below_base (by (repeat (first | (with_reducible assumption) | (with_reducible exact Below.refl _ _) | (with_reducible refine Below.drew ?_) | (with_reducible refine below_drewN ?_ _) | (with_reducible refine below_alloc ?_ _))) : Below w8.heap.size w8 _) h3 (fun k e => ((unhide HOa).lt k e).1)); have hbb := unhide HBb; clear h2 h3 hrb)
      | (go_at_call 15; (with_reducible refine (unhide K15 _ (by (repeat (first | (with_reducible assumption) | (with_reducible exact Below.refl _ _) | (with_reducible refine Below.drew ?_) | (with_reducible refine below_drewN ?_ _) | (with_reducible refine below_alloc ?_ _)))) _ _ (rowA_below (unhide HRb) (by (repeat (first | (with_reducible assumption) | (with_reducible exact Below.refl _ _) | (with_reducible refine Below.drew ?_) | (with_reducible refine below_drewN ?_ _) | (with_reducible refine below_alloc ?_ _)))))).mono ?_); rintro e wc ⟨rfl, rfl⟩)
      | (go_at_call 7; (with_reducible refine (wakes_any _).mono ?_); rintro e w9 ⟨rfl, hb9⟩; have hbd9 := below_then (by (repeat (first | (with_reducible assumption) | (with_reducible exact Below.refl _ _) | (with_reducible refine Below.drew ?_) | (with_reducible refine below_drewN ?_ _) | (with_reducible refine below_alloc ?_ _))) : Below w8.heap.size w8 _) hb9; clear hb9))
  all_goals
    go_wp2
    go_ret
    exact ⟨rfl, below_then (unhide HB8) (by assumption)⟩
set_option maxRecDepth 10000 in
set_option maxHeartbeats 8000000 in
theorem sizes_f_over (f : Fr) (hf : f.Fit) (hg : goodF f = true) (ht : f.tag = false) (A : Option Addr) (c : Nat) (X : Option Addr) (bs : List Nat) (cx : Nat) (w : World) (hA : RowA w A (u8s f.bs)) (hX : RowA w X (u8s bs)) (hx : ∀ x ∈ bs, x < 256) (hn : bs.length ≤ 100) (hcc : ¬ f.bs.length + bs.length ≤ 1518 - 14) : Calls Try.prog 6 #[.agg #[.int .u64 (f.dst : Int), .int .u64 (f.src : Int), .bool f.tag, .int .i64 f.prio, .int .i64 f.vid, .int .i64 f.kind, .slice A f.bs.length c], .slice X bs.length cx] w fun e w' => e = .returned (.bool true) ∧ Below w.heap.size w w' := by
  obtain ⟨_, _, _, hl4, _, _⟩ := goodF_parts f hg
  have hlt : leastN f.tag = 14 := by rw [ht]; rfl
  have hlen := encB_len f
  rw [hlt] at hlen
  have h' : ¬ (2000 : Int) < (f.bs.length : Int) := by omega
  have h'' : ¬ (100 : Int) < (bs.length : Int) := by omega
  have hble := encB_lt f hf hg
  have hpc := pars_cut f 13 (by rw [hlt]; decide)
  have hpm := pars_more f hg bs
  rw [hlt, if_neg hcc] at hpm
  have HB : Hid (Below w.heap.size w (w.alloc (.cells #[.int .u64 (f.dst : Int), .int .u64 (f.src : Int), .bool f.tag, .int .i64 f.prio, .int .i64 f.vid, .int .i64 f.kind, .slice A f.bs.length c] 25))) := hide (below_alloc (Below.refl _ _) _)
  have HX : Hid ((w.alloc (.cells #[.int .u64 (f.dst : Int), .int .u64 (f.src : Int), .bool f.tag, .int .i64 f.prio, .int .i64 f.vid, .int .i64 f.kind, .slice A f.bs.length c] 25)).heap[w.heap.size]? = some (.cells #[.int .u64 (f.dst : Int), .int .u64 (f.src : Int), .bool f.tag, .int .i64 f.prio, .int .i64 f.vid, .int .i64 f.kind, .slice A f.bs.length c] 25 (0, 0))) := hide (heap_alloc_new _ _)
  have K8 : Hid (∀ W, Below w.heap.size w W → Calls Try.prog 8 #[.agg #[.int .u64 (f.dst : Int), .int .u64 (f.src : Int), .bool f.tag, .int .i64 f.prio, .int .i64 f.vid, .int .i64 f.kind, .slice A f.bs.length c]] W fun e w' => ∃ b off d, e = .returned (.tuple #[.slice (some ⟨b, off, none⟩) (14 + f.bs.length) d, .int .i64 0]) ∧ RowA w' (some ⟨b, off, none⟩) (u8s (encB f)) ∧ Below W.heap.size W w' ∧ 14 + f.bs.length ≤ d ∧ d ≤ 9223372036854775807 ∧ (∀ W', Below w'.heap.size w' W' → RowA W' (some ⟨b, off, none⟩) (u8s ((encB f).take 13)))) := fun W hW => (encode_yes f hf hg A c W (rowA_below hA hW)).mono fun e w' ⟨B, d, he, hr, hb, h1, h2⟩ => by
    obtain ⟨b, off, rfl, hc⟩ := row_at hr (by omega)
    rw [hlen] at he h1
    exact ⟨b, off, d, he, hr, hb, h1, h2, fun W' hW' => by have := row_drop (hc W' hW') 0 13; simpa using this⟩
  have K11a : Hid (∀ W b off d, RowA W (some ⟨b, off, none⟩) (u8s ((encB f).take 13)) → 13 ≤ d → d ≤ 9223372036854775807 → Calls Try.prog 11 #[.slice (some ⟨b, off, none⟩) 13 d] W fun e w' => ∃ B1 d1, e = .returned (.tuple #[.agg #[.int .u64 (fr0.dst : Int), .int .u64 (fr0.src : Int), .bool fr0.tag, .int .i64 fr0.prio, .int .i64 fr0.vid, .int .i64 fr0.kind, .slice B1 fr0.bs.length d1], .int .i64 11]) ∧ RowA w' B1 (u8s fr0.bs) ∧ Below W.heap.size W w') := fun W b off d hr h1 h2 => by
    have hl0 : ((encB f).take 13).length = 13 := by rw [List.length_take, hlen]; omega
    have h := parse_any (some ⟨b, off, none⟩) d ((encB f).take 13) W (fun x h => hble x (List.mem_of_mem_take h)) hr (by omega) (by omega) h2
    rw [hpc, hl0] at h
    exact h
  have K11b : Hid (∀ W B d, RowA W B (u8s (encB f ++ bs)) → 14 + f.bs.length + bs.length ≤ d → d ≤ 9223372036854775807 → Calls Try.prog 11 #[.slice B (14 + f.bs.length + bs.length) d] W fun e w' => ∃ B7 d7, e = .returned (.tuple #[.agg #[.int .u64 (fr0.dst : Int), .int .u64 (fr0.src : Int), .bool fr0.tag, .int .i64 fr0.prio, .int .i64 fr0.vid, .int .i64 fr0.kind, .slice B7 fr0.bs.length d7], .int .i64 11]) ∧ RowA w' B7 (u8s fr0.bs) ∧ Below W.heap.size W w') := fun W B d hr h1 h2 => by
    have hl0 : (encB f ++ bs).length = 14 + f.bs.length + bs.length := by rw [List.length_append, hlen]
    have h := parse_any B d (encB f ++ bs) W (fun x h => (List.mem_append.1 h).elim (hble x) (hx x)) hr (by omega) (by omega) h2
    rw [hpm, hl0] at h
    exact h.mono fun e w' ⟨B7, d7, he, hr7, hb7⟩ => ⟨B7, d7, by exact he, hr7, hb7⟩
  have HRX := hide (fun W (hW : Below w.heap.size w W) => rowA_below hX hW)
  have HRA := hide (fun W (hW : Below w.heap.size w W) => rowA_below hA hW)
  obtain ⟨i0, hi, hz0, hz1, hz2⟩ := i5
  have HLE := hide hlen
  rw [ht] at HX HB K8
  obtain ⟨N, hN⟩ : ∃ N, N = 14 + f.bs.length := ⟨_, rfl⟩
  rw [← hN] at K8 K11b HLE
  have hN1 : ((N : Int) != 14 + (f.bs.length : Int)) = false := by rw [hN]; simp
  have hN2 : ¬ (N : Int) ≠ 14 + (f.bs.length : Int) := by rw [hN]; simp
  have hNl : N ≤ 3000 := by omega
  have hov : ((1504 : Int) < (f.bs.length : Int) + (bs.length : Int)) := by omega
  clear hA hX hx hf hg hlen hble hpc hpm hlt hN hcc
  go_enter Try.func6, Try.ntmps6
  go_upto_region 12 with (first
    | (go_at_call 8; go_loud ((with_reducible refine (unhide K8 _ (unhide HB)).mono ?_); rintro e w2 ⟨b, off, d2, rfl, hr2, hb2, hd1, hd2, hc2⟩; have hd13 : (13 : Int) ≤ (d2 : Int) := (by omega); have HR2 := hide hr2; have HB2 := hide (below_then (unhide HB) hb2); have HX2 := hide (heap_keep (unhide HX) hb2); have HD1 := hide hd1; have HD2 := hide hd2; have HC2 := hide (hc2 w2 (Below.refl _ _)); have y2 : w2.cell? ⟨w.heap.size, 2, none⟩ = some (.bool false) := (heap_cell (unhide HX2) 2).1; have y6 : w2.cell? ⟨w.heap.size, 6, none⟩ = some (.slice A f.bs.length c) := (heap_cell (unhide HX2) 6).1; clear hr2 hb2 hd1 hd2 hc2))
    | (go_at_call 11; go_loud ((with_reducible refine (unhide K11a _ _ _ _ (unhide HC2) (by have := unhide HD1; omega) (unhide HD2)).mono ?_); rintro e w3 ⟨B3, d3, rfl, hr3, hb3⟩; have HB3 := hide (below_alloc hb3 (.cells #[.int .u64 (fr0.dst : Int), .int .u64 (fr0.src : Int), .bool fr0.tag, .int .i64 fr0.prio, .int .i64 fr0.vid, .int .i64 fr0.kind, .slice B3 fr0.bs.length d3] 25)); clear hr3 hb3)))

  generalize w3.alloc (.cells #[.int .u64 (fr0.dst : Int), .int .u64 (fr0.src : Int), .bool fr0.tag, .int .i64 fr0.prio, .int .i64 fr0.vid, .int .i64 fr0.kind, .slice B3 fr0.bs.length d3] 25) = w4 at *
  have HB4 := hide (below_then (unhide HB2) (unhide HB3))
  have HX4 := hide (heap_keep (unhide HX2) (unhide HB3))
  have HR4 := hide (rowA_below (unhide HR2) (unhide HB3))
  clear y2 y6
  have z6 : w4.cell? ⟨w.heap.size, 6, none⟩ = some (.slice A f.bs.length c) := (heap_cell (unhide HX4) 6).1
  go_wp2_with (first
    | (at_builtin; refine wpList_append_row rfl _ _ 23 rfl w4.heap.size 5 i0 (.int .u8 0) 1 1 Try.underlying23 hi hz0 hz1 hz2 rfl (by decide) (by decide) _ 0 [] rfl (own_lit0 w4) (some ⟨b, off, none⟩) N d2 (u8s (encB f)) rfl (by rw [u8s_len, unhide HLE]; omega) (rowA_below (unhide HR4) (below_alloc (Below.refl _ _) _)) (u8s_one _) (by omega) (by simp) ?_; intro v5 w5 h2 h3 _; rw [Nat.zero_add, List.nil_append] at h2; obtain ⟨B5, d5, rfl, _⟩ := own_row1 h2; have HO5 := hide h2; have HB5 := hide (below_base (below_alloc (Below.refl _ _) _ : Below w4.heap.size w4 _) h3 (fun k e => by cases e; exact Nat.le_refl _)); clear h2 h3)
    | (at_builtin; refine wpList_append_row rfl _ _ 23 rfl w4.heap.size 5 i0 (.int .u8 0) 1 1 Try.underlying23 hi hz0 hz1 hz2 rfl (by decide) (by decide) _ N (u8s (encB f)) rfl (unhide HO5) X bs.length cx (u8s bs) rfl (by rw [u8s_len]; omega) (unhide HRX _ (below_then (unhide HB4) (unhide HB5))) (u8s_one _) (by omega) ((unhide HB5).size) ?_; intro v6 w6 h2 h3 _; rw [← u8s_app] at h2; obtain ⟨B6, d6, rfl, hr6, hd1, hd2⟩ := own_row1c h2; have HR6 := hide hr6; have HD3 := hide hd1; have HD4 := hide hd2; have HB6 := hide (below_base (unhide HB5) h3 (fun k e => ((unhide HO5).lt k e).1)); clear h2 h3 hr6 hd1 hd2)
    | (go_at_call 11; go_loud ((with_reducible refine (unhide K11b _ _ _ (unhide HR6) (unhide HD3) (unhide HD4)).mono ?_); rintro e w7 ⟨B7, d7, rfl, hr7, hb7⟩; have HY7 := hide (heap_alloc_new w7 (.cells #[.int .u64 (fr0.dst : Int), .int .u64 (fr0.src : Int), .bool fr0.tag, .int .i64 fr0.prio, .int .i64 fr0.vid, .int .i64 fr0.kind, .slice B7 fr0.bs.length d7] 25)); have HR7 := hide (rowA_below hr7 (below_alloc (Below.refl _ _) (.cells #[.int .u64 (fr0.dst : Int), .int .u64 (fr0.src : Int), .bool fr0.tag, .int .i64 fr0.prio, .int .i64 fr0.vid, .int .i64 fr0.kind, .slice B7 fr0.bs.length d7] 25))); have HB7 := hide (below_alloc (below_then (unhide HB6) hb7) (.cells #[.int .u64 (fr0.dst : Int), .int .u64 (fr0.src : Int), .bool fr0.tag, .int .i64 fr0.prio, .int .i64 fr0.vid, .int .i64 fr0.kind, .slice B7 fr0.bs.length d7] 25)); have HX7 := hide (heap_keep (unhide HX4) (unhide HB7)); have x6 : (w7.alloc (.cells #[.int .u64 (fr0.dst : Int), .int .u64 (fr0.src : Int), .bool fr0.tag, .int .i64 fr0.prio, .int .i64 fr0.vid, .int .i64 fr0.kind, .slice B7 fr0.bs.length d7] 25)).cell? ⟨w.heap.size, 6, none⟩ = some (.slice A f.bs.length c) := (heap_cell (unhide HX7) 6).1; clear hr7 hb7))
    | (go_at_call 7; with_reducible refine (wakes_any _).mono ?_; rintro e w9 ⟨rfl, hb9⟩; have HB9 := hide hb9; clear hb9))
  go_ret
  exact ⟨rfl, below_then (below_then (unhide HB4) (unhide HB7)) (unhide HB9)⟩
end Go.Proofs.Ythonngnmdciheaa
