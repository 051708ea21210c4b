/- Contracts of the leaves: copies, bytes put together, what is blank, what is needed. -/
import Derived.Test.YtpaolllkpmkgkaaBys
import Derived.Lib.SliceRun
namespace Go.Proofs.Ytpaolllkpmkgkaa
open Go.RowKit
set_option linter.unusedVariables false
set_option maxRecDepth 4000

theorem blank_any (a : Option Addr) (bs : List Int) (cap : Nat) (w : World) (hb : BysA w a bs) (hB : Byt bs) (hl : bs.length ≤ 100000) :
    Calls Try.prog 68 #[.slice a bs.length cap] w fun e w' => e = .returned (.bool (bs.all (· == 0))) ∧ w' = w := by
  go_enter Try.func68, Try.ntmps68
  go_wp2
  go_loop [7] (fun i => ∃ k : Nat, k ≤ bs.length ∧ i = .int .i64 k ∧ ∀ j, j < k → bs.getD j 0 = 0) (fun i => bs.length - (intOf i).toNat)
  case atStart => exact ⟨0, Nat.zero_le _, rfl, fun j h => by omega⟩
  case round =>
    obtain ⟨k, hk, rfl, h0⟩ := hrel
    have H0 := hide h0
    clear h0
    by_cases hlt : k < bs.length
    · obtain ⟨b, off, rfl, hc⟩ := hb (by rintro rfl; simp at hlt)
      have hck := hc k hlt
      obtain ⟨x1, x2⟩ := hB k
      have HG : Hid (bs[k] = bs.getD k 0) := by show _ = _; rw [List.getD_eq_getElem?_getD, List.getElem?_eq_getElem hlt]; rfl
      generalize hx : bs.getD k 0 = x at *
      have HX := hide hx
      clear hc hb hB hx
      by_cases hx0 : x = 0
      · subst hx0
        go_wp2
        go_round
        case rel => exact ⟨k + 1, by omega, by go_num, fun j hj => by
          by_cases e : j = k
          · rw [e]; exact unhide HX
          · exact unhide H0 j (by omega)⟩
        case measure => simp [intOf]; omega
      · have HE : Hid (bs.all (· == 0) = false) := by
          show _ = _
          rw [List.all_eq_false]
          exact ⟨bs[k], List.getElem_mem hlt, by rw [unhide HG]; simpa using hx0⟩
        go_wp2
        go_ret
        exact ⟨ret_bool (unhide HE).symm, rfl⟩
    · have HE : Hid (bs.all (· == 0) = true) := by
        show _ = _
        rw [List.all_eq_true]
        intro x hx
        obtain ⟨j, hj, rfl⟩ := List.getElem_of_mem hx
        have := unhide H0 j (by omega)
        rw [List.getD_eq_getElem?_getD, List.getElem?_eq_getElem hj] at this
        simpa using this
      go_wp2
      go_ret
      exact ⟨ret_bool (unhide HE).symm, rfl⟩

def numL (bs : List Int) : Int := bs.foldl (fun v x => v * 256 + x) 0
theorem numL_snoc (bs : List Int) (x : Int) : numL (bs ++ [x]) = numL bs * 256 + x := by unfold numL; rw [List.foldl_append]; rfl
theorem numL_take (bs : List Int) (hB : Byt bs) : ∀ k, k ≤ bs.length → k ≤ 4 → 0 ≤ numL (bs.take k) ∧ numL (bs.take k) < (256 : Int) ^ k
  | 0, _, _ => by simp [numL]
  | k + 1, h, h4 => by
    obtain ⟨h1, h2⟩ := numL_take bs hB k (by omega) (by omega)
    rw [take_snoc bs k (by omega), numL_snoc]
    have := hB k
    rw [Int.pow_succ]
    omega

theorem pow_lt {v : Int} {k : Nat} (h : v < (256 : Int) ^ k) (hk : k ≤ 3) : v < 16777216 := by
  have : k = 0 ∨ k = 1 ∨ k = 2 ∨ k = 3 := by omega
  rcases this with rfl | rfl | rfl | rfl
  · simp at h; omega
  · simp at h; omega
  · rw [show (256 : Int) ^ 2 = 65536 from rfl] at h; omega
  · exact h
theorem num_any (a : Option Addr) (bs : List Int) (cap : Nat) (w : World) (hb : BysA w a bs) (hB : Byt bs) (hl : bs.length ≤ 4) :
    Calls Try.prog 48 #[.slice a bs.length cap] w fun e w' => e = .returned (.int .u32 (numL bs)) ∧ w' = w := by
  go_enter Try.func48, Try.ntmps48
  go_wp2
  go_loop [3, 4] (fun v i => ∃ k : Nat, k ≤ bs.length ∧ i = .int .i64 k ∧ v = .int .u32 (numL (bs.take k))) (fun _ i => bs.length - (intOf i).toNat)
  case atStart => exact ⟨0, Nat.zero_le _, rfl, rfl⟩
  case round =>
    obtain ⟨k, hk, rfl, rfl⟩ := hrel
    by_cases hlt : k < bs.length
    · obtain ⟨b, off, rfl, hc⟩ := hb (by rintro rfl; simp at hlt)
      have hck := hc k hlt
      obtain ⟨x1, x2⟩ := hB k
      have HS : Hid (numL (bs.take (k + 1)) = numL (bs.take k) * 256 + bs.getD k 0) := by show _ = _; rw [take_snoc bs k hlt, numL_snoc]
      obtain ⟨n1, n2⟩ := numL_take bs hB k (by omega) (by omega)
      have n3 : numL (bs.take k) < 16777216 := pow_lt n2 (by omega)
      generalize bs.getD k 0 = x at *
      generalize numL (bs.take k) = v at *
      clear hc hb hB n2
      go_wp2
      go_round
      case rel => exact ⟨k + 1, by omega, by go_num, by rw [HS.out]⟩
      case measure => simp [intOf]; omega
    · have HT : Hid (bs.take k = bs) := List.take_of_length_le (by omega)
      go_wp2
      go_ret
      exact ⟨ret_int (by rw [HT.out]), rfl⟩

theorem rfour_any (x : Int) (hx : 0 ≤ x ∧ x ≤ 4294967295) (w : World) :
    Calls Try.prog 64 #[.int .u32 x] w fun e w' => e = .returned (.slice (some ⟨w.heap.size, 0, none⟩) 4 4) ∧ w' = w.alloc (.cells #[.int .u8 (x / 16777216 % 256), .int .u8 (x / 65536 % 256), .int .u8 (x / 256 % 256), .int .u8 (x % 256)] 5) := by
  obtain ⟨h1, h2⟩ := hx
  have he : Hid (x / 16777216 % 256 = x / 16777216) := by show _ = _; omega
  go_enter Try.func64, Try.ntmps64
  go_wp2
  go_ret
  rw [he.out]
  exact ⟨rfl, rfl⟩

def needI (n : Int) : Int := if n < 0 ∨ 4000 < n then 0 else (n + 77) / 63
theorem need_any (n : Int) (hn : -9223372036854775808 ≤ n ∧ n ≤ 9223372036854775807) (w : World) :
    Calls Try.prog 16 #[.int .i64 n] w fun e w' => e = .returned (.int .i64 (needI n)) ∧ w' = w := by
  obtain ⟨n1, n2⟩ := hn
  by_cases h : n < 0
  · have HE : Hid (needI n = 0) := by show _ = _; unfold needI; rw [if_pos (.inl h)]
    go_enter Try.func16, Try.ntmps16
    go_wp2
    go_ret
    exact ⟨ret_int (unhide HE).symm, rfl⟩
  · by_cases h2 : 4000 < n
    · have HE : Hid (needI n = 0) := by show _ = _; unfold needI; rw [if_pos (.inr h2)]
      go_enter Try.func16, Try.ntmps16
      go_wp2
      go_ret
      exact ⟨ret_int (unhide HE).symm, rfl⟩
    · have HE : Hid (needI n = (n + 77) / 63) := by show _ = _; unfold needI; rw [if_neg (by omega)]
      go_enter Try.func16, Try.ntmps16
      go_wp2
      go_ret
      exact ⟨ret_int (by rw [unhide HE]; congr 1; omega), rfl⟩
theorem rneed_any (n : Int) (hn : -9223372036854775808 ≤ n ∧ n ≤ 9223372036854775807) (w : World) :
    Calls Try.prog 17 #[.int .i64 n] w fun e w' => e = .returned (.int .i64 (needI n)) ∧ w' = w := by
  obtain ⟨n1, n2⟩ := hn
  by_cases h : n < 0
  · have HE : Hid (needI n = 0) := by show _ = _; unfold needI; rw [if_pos (.inl h)]
    go_enter Try.func17, Try.ntmps17
    go_wp2
    go_ret
    exact ⟨ret_int (unhide HE).symm, rfl⟩
  · by_cases h2 : 4000 < n
    · have HE : Hid (needI n = 0) := by show _ = _; unfold needI; rw [if_pos (.inr h2)]
      go_enter Try.func17, Try.ntmps17
      go_wp2
      go_ret
      exact ⟨ret_int (unhide HE).symm, rfl⟩
    · have HE : Hid (needI n = (n + 77) / 63) := by show _ = _; unfold needI; rw [if_neg (by omega)]
      go_enter Try.func17, Try.ntmps17
      go_wp2
      go_ret
      exact ⟨ret_int (by rw [unhide HE]; congr 1; omega), rfl⟩

/-- A row of bytes that the call owns, as a value and as bytes. -/
theorem own_bys {w : World} {base : Nat} {v : Value} {bs : List Int} (h : w.ownsRow base 5 1 v bs.length (bs.map (Value.int .u8))) : ∃ A cap, v = .slice A bs.length cap ∧ BysA w A bs ∧ bs.length ≤ cap := by
  rcases h.2 with ⟨rfl, h0⟩ | ⟨g, cap, cur, rfl, hb, hg, hnc, hcm, hcs, htk⟩
  · obtain rfl : bs = [] := List.length_eq_zero_iff.1 h0
    exact ⟨none, 0, rfl, bysA_nil _ _, Nat.le_refl _⟩
  · refine ⟨_, cap, rfl, bys_rowA (Blk.row (e := 5) (cap := cap) ⟨cur, hg, by omega, by rw [h.1]; exact htk⟩), hnc⟩
/-- .. where there is one byte at least. -/
theorem own_bys1 {w : World} {base : Nat} {v : Value} {bs : List Int} (h : w.ownsRow base 5 1 v bs.length (bs.map (Value.int .u8))) (h1 : 0 < bs.length) : ∃ g cap, v = .slice (some ⟨g, 0, none⟩) bs.length cap ∧ base ≤ g ∧ BysA w (some ⟨g, 0, none⟩) bs ∧ bs.length ≤ cap := by
  rcases h.2 with ⟨rfl, h0⟩ | ⟨g, cap, cur, rfl, hb, hg, hnc, hcm, hcs, htk⟩
  · omega
  · refine ⟨g, cap, rfl, hb, bys_rowA (Blk.row (e := 5) (cap := cap) ⟨cur, hg, by omega, by rw [h.1]; exact htk⟩), hnc⟩

section
variable {ops : Array Oper} {rest : List Oper} {a : Act} {w : World} {Q : Exit → Act → World → Prop} {dst : Option Tmp} {ty : TypeId} {pos : String} {af : Array Edge}
/-- append of bytes onto a row of bytes that the call owns. -/
theorem wpList_appendB (s x : Operand) (base : Nat) (v : Value) (bs cs : List Int) (hs : a.eval s = v) (hown : w.ownsRow base 5 1 v bs.length (bs.map (Value.int .u8))) (A : Option Addr) (m c : Nat) (hm : m = cs.length) (hx : a.eval x = .slice A m c) (hA : BysA w A cs)
    (hlen : bs.length + cs.length ≤ 100000) (hbase : base ≤ w.heap.size)
    (h : ∀ v' w1, w1.ownsRow base 5 1 v' (bs ++ cs).length ((bs ++ cs).map (Value.int .u8)) → w.grownBy w1 v.ownBlock → wpList Try.prog ops Q rest (a.put dst v') w1) :
    wpList Try.prog ops Q (⟨dst, .call { callee := .builtin .append, args := #[s, x], argTypes := #[23, 23] }, ty, pos, af, none⟩ :: rest) a w := by
  subst hm
  obtain ⟨i, hi, hz, hz1, hz2⟩ := info_parts Try.info5
  refine wpList_append_row rfl s x 23 rfl base 5 i (.int .u8 0) 1 1 Try.underlying23 hi hz hz1 hz2 rfl (by decide) (by decide) v bs.length (bs.map (Value.int .u8)) hs hown A cs.length c (cs.map (Value.int .u8)) hx (by simp) (rowA_bys hA) (one_u8 cs) (by omega) hbase ?_
  intro v' w' h2 h3 _
  exact h v' w' (by rw [List.length_append, List.map_append]; exact h2) h3
end

set_option maxHeartbeats 400000 in
theorem clone_any (b off cap : Nat) (bs : List Int) (w : World) (hb : BysA w (some ⟨b, off, none⟩) bs) (hl : bs.length ≤ 100000) :
    Calls Try.prog 70 #[.slice (some ⟨b, off, none⟩) bs.length cap] w fun e w' => ∃ v, e = .returned v ∧ w'.ownsRow w.heap.size 5 1 v bs.length (bs.map (Value.int .u8)) ∧ Below w.heap.size w w' := by
  have HB := hide hb
  clear hb
  have hne : ∀ W : World, (binOp .eql 23 (.slice (some ⟨b, off, none⟩) bs.length cap) (.slice none 0 0)).run Try.prog W = .ok (.bool false) W := fun W => Lib.run_eql_slice_nil W 23 5 _ _ _ _ _ Try.underlying23
  have HL : Hid ((w.alloc (.cells #[] 5)).ownsRow w.heap.size 5 1 (.slice (some ⟨w.heap.size, 0, none⟩) 0 0) ([] : List Int).length (([] : List Int).map (Value.int .u8))) := World.ownsRow_lit w #[] 0 (Nat.le_refl _) (by simp) (by simp)
  have HA := hide (bysA_alloc (unhide HB) (.cells #[] 5))
  have HZ : Hid (w.heap.size ≤ (w.alloc (.cells #[] 5)).heap.size) := by show _ ≤ _; simp
  go_enter Try.func70, Try.ntmps70
  go_wp2_with ((with_reducible refine wpList_appendB _ _ w.heap.size (.slice (some ⟨w.heap.size, 0, none⟩) 0 0) [] bs ?_ (unhide HL) (some ⟨b, off, none⟩) bs.length cap ?_ ?_ (unhide HA) ?_ (unhide HZ) ?_); (focus rfl); (focus rfl); (focus rfl); (focus (simp; omega)); intro v' w1 h1 hg1)
  go_ret
  exact ⟨_, rfl, h1, (below_alloc (Below.refl _ _) _).grown hg1 (by simp) (fun k hk => by simp [Value.ownBlock] at hk; omega)⟩

set_option maxHeartbeats 400000 in
theorem grow_any (n : Nat) (h0 : 0 < n) (hn : n ≤ 100000) (w : World) :
    Calls Try.prog 74 #[.slice none 0 0, .int .i64 n] w fun e w' => ∃ v, e = .returned v ∧ w'.ownsRow w.heap.size 5 1 v 0 [] ∧ Below w.heap.size w w' := by
  obtain ⟨i, hi, hz, hz1, hz2⟩ := info_parts Try.info5
  have hr := Lib.run_append_nil_zeros (P := Try.prog) w 23 3 23 5 i (.int .u8 0) .i64 .i64 Try.underlying23 Try.underlying3 hi hz n h0 (by omega) (by omega) (by rw [hz2]; omega)
  have hge := grownCap_ge w n 0 5
  have hcm := grownCap_le_maxLen w n 0 5 (maxLen_ge _ (by omega))
  have HO : Hid ((w.drew.alloc (.cells (Builtin.zeroCells (Value.int .u8 0).cells n ++ Builtin.zeroCells (Value.int .u8 0).cells (grownCap w n 0 5 - n)) 5)).ownsRow w.heap.size 5 1 (.slice (some ⟨w.heap.size, 0, none⟩) 0 (grownCap w n 0 5)) 0 []) := by
    refine ⟨rfl, .inr ⟨_, _, _, rfl, Nat.le_refl _, heap_alloc_last w.drew _, Nat.zero_le _, hcm, ?_, rfl⟩⟩
    simp only [Array.size_append, size_zeroCells]
    show n * 1 + (grownCap w n 0 5 - n) * 1 = _
    omega
  have HB : Hid (Below w.heap.size w (w.drew.alloc (.cells (Builtin.zeroCells (Value.int .u8 0).cells n ++ Builtin.zeroCells (Value.int .u8 0).cells (grownCap w n 0 5 - n)) 5))) := below_alloc (Below.drew (Below.refl _ _)) _
  have hn0 : (0 : Int) < (n : Int) := by omega
  have hge' : ((n : Int)) ≤ ((grownCap w n 0 5 : Nat) : Int) := by omega
  generalize w.drew.alloc (.cells (Builtin.zeroCells (Value.int .u8 0).cells n ++ Builtin.zeroCells (Value.int .u8 0).cells (grownCap w n 0 5 - n)) 5) = W at *
  generalize grownCap w n 0 5 = c at *
  go_enter Try.func74, Try.ntmps74
  go_wp2_with (at_builtin; refine Lib.wpList_append_run _ rfl _ _ 23 3 rfl _ _ rfl rfl _ _ hr ?_)
  go_ret
  exact ⟨_, rfl, unhide HO, unhide HB⟩

theorem flat_take (pss : List (List Int)) (k : Nat) (h : k < pss.length) : (pss.take (k + 1)).flatten = (pss.take k).flatten ++ pss.getD k [] := by
  rw [takes_snoc pss k h, List.flatten_append]; simp
theorem flat_le (pss : List (List Int)) (k : Nat) : (pss.take k).flatten.length ≤ pss.flatten.length := by
  have := congrArg (fun l => l.flatten.length) (List.take_append_drop k pss)
  simp only [List.flatten_append, List.length_append] at this
  omega
theorem part_le (pss : List (List Int)) (k : Nat) : (pss.getD k []).length ≤ pss.flatten.length := by
  by_cases h : k < pss.length
  · have := flat_le pss (k + 1)
    rw [flat_take pss k h, List.length_append] at this
    omega
  · rw [List.getD_eq_getElem?_getD, List.getElem?_eq_none (by omega)]; simp

def flk (pss : List (List Int)) (k : Nat) : List Int := (pss.take k).flatten
theorem flk_all (pss : List (List Int)) : flk pss pss.length = pss.flatten := by unfold flk; rw [List.take_length]
theorem flk_succ (pss : List (List Int)) (k : Nat) (h : k < pss.length) : flk pss (k + 1) = flk pss k ++ pss.getD k [] := flat_take pss k h
theorem flk_le (pss : List (List Int)) (k : Nat) : (flk pss k).length ≤ (flk pss pss.length).length := by rw [flk_all]; exact flat_le pss k
theorem flk_part (pss : List (List Int)) (k : Nat) : (pss.getD k []).length ≤ (flk pss pss.length).length := by rw [flk_all]; exact part_le pss k

set_option maxHeartbeats 1000000 in
theorem concat_go (a : Option Addr) (pss : List (List Int)) (cap : Nat) (w : World) (hp : PartsA w a pss) (hB : Byts pss) (hl : pss.length ≤ 100) (h0 : 0 < (flk pss pss.length).length) (hf : (flk pss pss.length).length ≤ 10000) :
    Calls Try.prog 53 #[.slice a pss.length cap] w fun e w' => ∃ v, e = .returned v ∧ w'.ownsRow w.heap.size 5 1 v (flk pss pss.length).length ((flk pss pss.length).map (Value.int .u8)) ∧ Below w.heap.size w w' := by
  have HP := hide hp
  have HF := hide (flk_le pss)
  have HFT := hide (flk_succ pss)
  have HPL := hide (flk_part pss)
  clear hp
  go_enter Try.func53, Try.ntmps53
  go_wp2
  go_loop [3, 11] (fun s i => ∃ k : Nat, k ≤ pss.length ∧ i = .int .i64 k ∧ s = .int .i64 ((flk pss k).length : Int)) (fun _ i => pss.length - (intOf i).toNat)
  case atStart => exact ⟨0, Nat.zero_le _, rfl, rfl⟩
  case round =>
    obtain ⟨k, hk, rfl, rfl⟩ := hrel
    by_cases hlt : k < pss.length
    · obtain ⟨b, off, rfl, hc⟩ := (unhide HP) (by rintro rfl; simp at hlt)
      obtain ⟨a', cap', hck, hby⟩ := hc k hlt
      have h1 := unhide HF k
      have h2 := unhide HPL k
      have HS := hide (unhide HFT k hlt)
      generalize pss.getD k [] = ps at *
      have HSL : Hid ((flk pss (k + 1)).length = (flk pss k).length + ps.length) := by show _ = _; rw [unhide HS, List.length_append]
      generalize (flk pss k).length = n at *
      clear hc hby hB HS
      go_wp2
      go_round
      case rel => exact ⟨k + 1, by omega, by go_num, by rw [unhide HSL]; go_num⟩
      case measure => simp [intOf]; omega
    · obtain rfl : k = pss.length := by omega
      have h0' : (0 : Int) < ((flk pss pss.length).length : Int) := by omega
      go_wp2_with (go_at_call 74; refine (grow_any (flk pss pss.length).length h0 ?_ _).mono ?_; (focus omega); rintro e w1 ⟨v, rfl, hown, hb1⟩; have HO := hide hown; clear hown)
      go_loopw [6, 27] (fun v i wr => ∃ k : Nat, k ≤ pss.length ∧ i = .int .i64 k ∧ Below w.heap.size w wr ∧ wr.ownsRow w.heap.size 5 1 v (flk pss k).length ((flk pss k).map (Value.int .u8))) (fun _ i _ => pss.length - (intOf i).toNat)
      case atStart => exact ⟨0, Nat.zero_le _, rfl, hb1, unhide HO⟩
      case round =>
        obtain ⟨k, hk, rfl, hbel, hown⟩ := hrel
        obtain ⟨A, capA, rfl, hbys, hcapA⟩ := own_bys hown
        have HOW := hide hown
        clear hown hbys
        by_cases hlt : k < pss.length
        · obtain ⟨b, off, rfl, hc⟩ := (unhide HP) (by rintro rfl; simp at hlt)
          obtain ⟨a', cap', hck0, hby⟩ := hc k hlt
          have hck : wr.cell? ⟨b, off + k, none⟩ = some (.slice a' (pss.getD k []).length cap') := by rw [hbel.cell (World.block_lt_of_cell? _ _ hck0)]; exact hck0
          have HY := hide (bysA_below hby hbel)
          have h1 := unhide HF k
          have h2 := unhide HPL k
          have HS := hide (unhide HFT k hlt)
          generalize pss.getD k [] = ps at *
          clear hc hby hck0 hB
          go_wp2_with ((with_reducible refine wpList_appendB _ _ w.heap.size _ (flk pss k) ps ?_ (unhide HOW) a' ps.length cap' ?_ ?_ (unhide HY) ?_ hbel.size ?_); (focus rfl); (focus rfl); (focus rfl); (focus omega); intro v2 w2 hown2 hg2)
          have hob := unhide HOW
          have hbl : ∀ j, (Value.slice A (flk pss k).length capA).ownBlock = some j → w.heap.size ≤ j := fun j hj => (own_block hob hj).1
          have hb2 : Below w.heap.size w w2 := hbel.grown hg2 hbel.size hbl
          rw [← unhide HS] at hown2
          clear hob hbl hg2
          go_roundw
          case rel => exact ⟨k + 1, by omega, by go_num, hb2, hown2⟩
          case measure => simp [intOf]; omega
        · obtain rfl : k = pss.length := by omega
          go_wp2
          go_ret
          exact ⟨_, rfl, unhide HOW, hbel⟩
theorem concat_any (a : Option Addr) (pss : List (List Int)) (cap : Nat) (w : World) (hp : PartsA w a pss) (hB : Byts pss) (hl : pss.length ≤ 100) (h0 : 0 < pss.flatten.length) (hf : pss.flatten.length ≤ 10000) :
    Calls Try.prog 53 #[.slice a pss.length cap] w fun e w' => ∃ v, e = .returned v ∧ w'.ownsRow w.heap.size 5 1 v pss.flatten.length (pss.flatten.map (Value.int .u8)) ∧ Below w.heap.size w w' := by
  have := concat_go a pss cap w hp hB hl (by rw [flk_all]; exact h0) (by rw [flk_all]; exact hf)
  rw [flk_all] at this
  exact this
end Go.Proofs.Ytpaolllkpmkgkaa
