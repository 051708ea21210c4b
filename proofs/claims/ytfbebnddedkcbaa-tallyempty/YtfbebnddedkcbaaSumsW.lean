/- The walk of TallySums. -/
import Derived.Test.YtfbebnddedkcbaaHeads
import Derived.Test.YtfbebnddedkcbaaLists
namespace Go.Proofs.Ytfbebnddedkcbaa
open Go.RowKit
set_option linter.unusedVariables false
attribute [local go_sem ↓] Go.wp_at_zero Go.wp_at_succ

theorem Try.info26 : (Try.prog.info? 26).map (fun i => (i.zero, i.size, i.bytes)) = some (some (.slice none 0 0), 1, 24) := by kernel_rfl

theorem fair_each (n : Int) (hn : 0 ≤ n) (pss : List (List Int)) (h : fairFrom n pss = true) : ∀ p ∈ pss, p.length ≤ 20000 := by
  induction pss generalizing n with
  | nil => simp
  | cons q r ih =>
    simp only [fairFrom] at h
    split at h
    · cases h
    · rename_i hc
      intro p hp
      rcases List.mem_cons.1 hp with rfl | hp
      · omega
      · exact ih _ (by omega) h p hp

theorem fair_get {pss : List (List Int)} (h : fairB pss = true) (i : Nat) : (pss.getD i []).length ≤ 20000 ∧ pss.length ≤ 100 := by
  unfold fairB at h
  rw [Bool.and_eq_true] at h
  obtain ⟨h1, h2⟩ := h
  refine ⟨?_, of_decide_eq_true h2⟩
  rw [List.getD_eq_getElem?_getD]
  by_cases hi : i < pss.length
  · rw [List.getElem?_eq_getElem hi]; exact fair_each 0 (by omega) pss h1 _ (List.getElem_mem hi)
  · rw [List.getElem?_eq_none (by omega)]; simp

theorem partsA_below {w0 W : World} {a : Option Addr} {pss : List (List Int)} (h : PartsA w0 a pss) (hb : Below w0.heap.size w0 W) : PartsA W a pss := by
  intro hne
  obtain ⟨b, off, ha, hc⟩ := h hne
  refine ⟨b, off, ha, fun i hi => ?_⟩
  obtain ⟨a', cap', h1, h2⟩ := hc i hi
  exact ⟨a', cap', by rw [hb.cell (World.block_lt_of_cell? _ _ h1)]; exact h1, bysA_below h2 hb⟩

theorem own_below {w W : World} {base : Nat} {e : TypeId} {size : Nat} {v : Value} {n : Nat} {xs : List Value} (h : w.ownsRow base e size v n xs) (hb : Below w.heap.size w W) : W.ownsRow base e size v n xs := by
  obtain ⟨hl, h2⟩ := h
  refine ⟨hl, ?_⟩
  rcases h2 with h0 | ⟨g, cap, cur, hv, hbg, hg, r⟩
  · exact .inl h0
  · have hlt : g < w.heap.size := by
      rcases Nat.lt_or_ge g w.heap.size with h | h
      · exact h
      · rw [Array.getElem?_eq_none h] at hg; cases hg
    exact .inr ⟨g, cap, cur, hv, hbg, by rw [hb.block g hlt]; exact hg, r⟩

/-- 'append(rows, h..)' of headers that were just laid, onto a row of headers that the call owns. -/
theorem wpList_push {w0 W1 : World} {ops : Array Oper} {rest : List Oper} {o : Oper} {a : Act} {Q : Exit → Act → World → Prop} (hgd : o.guard = none) (s x : Operand)
    (ho : o.op = .call { callee := .builtin .append, args := #[s, x], argTypes := #[22, 22] }) (N : Nat) (hN : N = W1.heap.size)
    (v : Value) (n : Nat) (xs : List Value) (hs : a.eval s = v) (hown : W1.ownsRow w0.heap.size 26 1 v n xs) (m : Nat) (vs : List Value) (hx : a.eval x = .slice (some ⟨N, 0, none⟩) m m) (hl : vs.length = m)
    (hone : ∀ u ∈ vs, u.oneCell' = true) (hsmall : n + m ≤ 1000) (hw : Below w0.heap.size w0 W1)
    (h : ∀ v' W', W'.ownsRow w0.heap.size 26 1 v' (n + m) (xs ++ vs) → Below w0.heap.size w0 W' → (∀ g cap us, Blk W1 5 g cap us → Blk W' 5 g cap us) → wpList Try.prog ops Q rest (a.put o.dst v') W') :
    wpList Try.prog ops Q (o :: rest) a (W1.alloc (.cells vs.toArray 26)) := by
  subst hN
  obtain ⟨i0, hi, hz0, hz1, hz2⟩ := info_parts Try.info26
  have hown2 := own_below hown (below_alloc (Below.refl _ _) (.cells vs.toArray 26))
  refine wpList_append_row hgd s x 22 ho w0.heap.size 26 i0 (.slice none 0 0) 1 24 Try.underlying22 hi hz0 hz1 hz2 rfl (by decide) (by decide) v n xs hs hown2 _ m m vs hx (by omega)
    (fun _ => ⟨_, _, rfl, fun j u hj => by rw [Nat.zero_add, cell_at _ _ _ _ _ _ rfl]; simpa using hj⟩) hone (by omega) (by have := hw.size; simp; omega) ?_
  intro v' W' hown' hgrow hat
  refine h v' W' hown' ?_ ?_
  · exact (below_alloc hw _).grown hgrow (by have := hw.size; simp; omega) (fun k hk => (hown2.lt k hk).1)
  · intro g cap us hb
    exact blk_grown hown2 hgrow g cap us (hb.below (below_alloc (Below.refl _ _) _))

theorem partsA_drewN {w : World} {a : Option Addr} {pss : List (List Int)} (h : PartsA w a pss) (n : Nat) : PartsA (w.drewN n) a pss := by
  intro hne
  obtain ⟨b, off, ha, hc⟩ := h hne
  refine ⟨b, off, ha, fun i hi => ?_⟩
  obtain ⟨a', cap', h1, h2⟩ := hc i hi
  exact ⟨a', cap', h1, bysA_drew n h2⟩

set_option maxHeartbeats 400000 in
theorem sums_no (a : Option Addr) (pss : List (List Int)) (cap : Nat) (s : Int) (w : World) (hp : PartsA w a pss) (hB : Byts pss) (hl : pss.length ≤ maxLen) (hf : fairB pss = false) :
    Calls Try.prog 3 #[.slice a pss.length cap, .int .u32 s] w fun e w' => e = .returned (.bool true) ∧ Below w.heap.size w w' := by
  have F := hide (fair_any a pss cap w hp hB hl)
  rw [hf] at F
  clear hf
  go_enter Try.func3, Try.ntmps3
  go_wp2_with fail
  refine (unhide F).mono ?_
  rintro e w' ⟨rfl, rfl⟩
  go_wp2_with fail
  refine (wakes_any _).mono ?_
  rintro e w' ⟨rfl, hb⟩
  go_wp2
  go_ret
  exact ⟨rfl, hb⟩

set_option maxHeartbeats 1000000 in
theorem sums_walk (a : Option Addr) (pss : List (List Int)) (cap : Nat) (s : Int) (hs : 0 ≤ s ∧ s ≤ 4294967295) (w : World) (hp : PartsA w a pss) (hB : Byts pss) (hl : pss.length ≤ maxLen) (hf : fairB pss = true) :
    Calls Try.prog 3 #[.slice a pss.length cap, .int .u32 s] w fun e w' => e = .returned (.bool true) ∧ Below w.heap.size w w' := by
  have F := hide (fair_any a pss cap w hp hB hl)
  rw [hf] at F
  have hfg := fair_get hf
  clear hf
  have h100 := (hfg 0).2
  have HP := hide hp
  have HB := hide hB
  clear hp hB
  go_enter Try.func3, Try.ntmps3
  go_wp2_with fail
  refine (unhide F).mono ?_
  rintro e w' ⟨rfl, rfl⟩
  clear F
  go_wp2_with fail
  go_loopw [5, 6] (fun v i wr => ∃ (k : Nat) (hs : List Value), k ≤ pss.length ∧ i = .int .i64 k ∧ Below w'.heap.size w' wr ∧ wr.ownsRow w'.heap.size 26 1 v k hs ∧ Heads5 wr hs (pss.take k)) (fun _ i _ => pss.length - (intOf i).toNat)
  case atStart => exact ⟨0, [], Nat.zero_le _, rfl, Below.refl _ _, World.ownsRow_nil _ _ _ _, trivial⟩
  case round =>
    obtain ⟨k, hds, hk, rfl, hbel, hown, hheads⟩ := hrel
    by_cases hlt : k < pss.length
    · obtain ⟨b, off, rfl, hc⟩ := (unhide HP) (by rintro rfl; simp at hlt)
      obtain ⟨a', cap', hck0, hby⟩ := hc k hlt
      have hck : wr.cell? ⟨b, off + k, none⟩ = some (.slice a' (pss.getD k []).length cap') := by rw [hbel.cell (World.block_lt_of_cell? _ _ hck0)]; exact hck0
      obtain ⟨hB1, hB2⟩ := (unhide HB) k
      have h20 := (hfg k).1
      have HS := hide (takes_snoc pss k hlt)
      have hki : (k : Int) < (pss.length : Int) := by omega
      generalize pss.getD k [] = ps at *
      obtain ⟨A, capA, rfl, hrow, hlen⟩ := own_form hown
      have HO := hide hown
      have HH := hide hheads
      have HY := hide hby
      have hblt : b < wr.heap.size := World.block_lt_of_cell? _ _ hck
      clear hown hheads hby hc hck0
      go_wp2_with (first
        | (at_builtin; refine wpList_copy' (w0 := w') (W := wr) rfl _ _ rfl _ rfl rfl a' cap' ps rfl (unhide HY) hbel h20 ?_; intro g capg w1 hg hb1 hblk)
        | (at_builtin; refine wpList_push (w0 := w') (W1 := w1) rfl _ _ rfl _ rfl _ k hds rfl (own_below (unhide HO) hb1) 1 [.slice (some ⟨g, 0, none⟩) ps.length capg] rfl rfl (by simp [Value.oneCell']) (by omega) (below_then hbel hb1) ?_; intro v2 w2 hown2 hb2 hbl2))
      go_roundw
      case rel =>
        refine ⟨k + 1, hds ++ [.slice (some ⟨g, 0, none⟩) ps.length capg], by omega, by go_num, hb2, hown2, ?_⟩
        rw [unhide HS]
        exact heads5_app (heads5_mono hbl2 (heads5_mono (fun _ _ _ hh => hh.below hb1) (unhide HH))) ⟨⟨g, capg, rfl, hbl2 _ _ _ hblk⟩, trivial⟩
      case measure => simp [intOf]; omega
    · obtain rfl : k = pss.length := by omega
      rw [List.take_length] at hheads
      obtain ⟨A, capA, rfl, hrow, hlen⟩ := own_form hown
      have hpi := parts_heads hrow (heads5_a hheads)
      have hpp := partsA_below (unhide HP) hbel
      have hml : maxLen = 9223372036854775807 := rfl
      have hl2 := hl
      rw [hml] at hl
      clear hml hown hheads hrow
      by_cases h0 : pss.length = 0
      · obtain rfl : pss = [] := List.length_eq_zero_iff.1 h0
        clear h0
        go_wp2_with fail
        refine (sum_any A [] capA _ hpi (unhide HB) hl2).mono ?_
        rintro e W1 ⟨rfl, rfl⟩
        go_wp2_with fail
        refine (refsum_any a [] cap _ hpp (unhide HB) hl2).mono ?_
        rintro e W1 ⟨rfl, rfl⟩
        go_wp2_with fail
        refine (lists_same A a [] capA cap _ hpi hpp hl2).mono ?_
        rintro e W2 ⟨rfl, nl, hw2⟩
        have hb2 : Below w'.heap.size w' W2 := by rw [hw2]; exact below_drewN hbel _
        clear hw2
        go_wp2_with fail
        refine (wakes_any _).mono ?_
        rintro e W3 ⟨rfl, hb3⟩
        go_wp2_with fail
        go_ret
        exact ⟨rfl, below_then hb2 hb3⟩
      · have hz : (0 : Int) < (pss.length : Int) := by omega
        have hz' : 0 < pss.length := by omega
        obtain ⟨b1, off1, rfl, hc1⟩ := hpi (by rintro rfl; simp at h0)
        obtain ⟨b2, off2, rfl, hc2⟩ := hpp (by rintro rfl; simp at h0)
        obtain ⟨x1, c1, hx1, hy1⟩ := hc1 0 hz'
        obtain ⟨x2, c2, hx2, hy2⟩ := hc2 0 hz'
        obtain ⟨hB1, hB2⟩ := (unhide HB) 0
        rw [Nat.add_zero] at hx1 hx2
        have M1 := hide (fun n => more_any s hs x1 (pss.getD 0 []) c1 (wr.drewN n) (bysA_drew n hy1) hB1 hB2)
        have M2 := hide (fun n => refmore_any s hs x2 (pss.getD 0 []) c2 (wr.drewN n) (bysA_drew n hy2) hB1 hB2)
        generalize pss.getD 0 [] = ps at *
        clear hc1 hc2 hy1 hy2
        go_wp2_with fail
        go_quiet (first | (go_at_call 9; exact Calls.quiet_of_same (unhide M1 _)) | (go_at_call 10; exact Calls.quiet_of_same (unhide M2 _)))
        have hbel := below_drewN hbel nq
        have hpi := partsA_drewN hpi nq
        have hpp := partsA_drewN hpp nq
        generalize wr.drewN nq = wq at *
        go_wp2_with fail
        refine (sum_any _ pss capA _ hpi (unhide HB) hl2).mono ?_
        rintro e W1 ⟨rfl, rfl⟩
        go_wp2_with fail
        refine (refsum_any _ pss cap _ hpp (unhide HB) hl2).mono ?_
        rintro e W1 ⟨rfl, rfl⟩
        go_wp2_with fail
        refine (lists_same _ _ pss capA cap _ hpi hpp hl2).mono ?_
        rintro e W2 ⟨rfl, nl, hw2⟩
        have hb2 : Below w'.heap.size w' W2 := by rw [hw2]; exact below_drewN hbel _
        clear hw2
        go_wp2_with fail
        refine (wakes_any _).mono ?_
        rintro e W3 ⟨rfl, hb3⟩
        go_wp2_with fail
        go_ret
        exact ⟨rfl, below_then hb2 hb3⟩
end Go.Proofs.Ytfbebnddedkcbaa
