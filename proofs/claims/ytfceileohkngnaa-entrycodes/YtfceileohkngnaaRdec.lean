/- The reference's Decode. -/
import Derived.Test.YtfceileohkngnaaRdm
import Derived.Test.YtfceileohkngnaaRsame
import Derived.Deep.CutBlock
import Derived.Deep.RegionHeld3
namespace Go.Proofs.Ytfceileohkngnaa
open Go.RowKit
set_option linter.unusedVariables false
set_option maxRecDepth 4000

/-- What the reference's Decode tells. -/
def RGot (S : List Sct) (w : World) (x : Ending) (w' : World) : Prop :=
  (decS S = none ∧ x = .returned (.agg #[.int .i64 0, .int .u32 0, .int .u32 0, .slice none 0 0, .int .i64 0, .int .i64 11])) ∨
  ∃ y B c, decS S = some y ∧ x = .returned (.agg #[.int .i64 y.k, .int .u32 y.e, .int .u32 y.s, .slice B y.b.length c, .int .i64 (y.n : Int), .int .i64 0]) ∧ w'.ownsRow w.heap.size 5 1 (.slice B y.b.length c) y.b.length (y.b.map (Value.int .u8))

theorem join_snoc (S : List Sct) (k : Nat) (h : k < S.length) : joinL (S.take (k + 1)) = joinL (S.take k) ++ tail (S.getD k zeroS) := by
  rw [List.take_succ_eq_append_getElem h, List.getD_eq_getElem?_getD, List.getElem?_eq_getElem h]
  show List.flatMap tail _ = _
  rw [List.flatMap_append]
  show joinL _ ++ List.flatMap tail [S[k]] = _
  rw [show List.flatMap tail [S[k]] = tail S[k] by simp]
  rfl

theorem numL_two (l : List Int) (h : 2 ≤ l.length) : numL (l.take 2) = l.getD 0 0 * 256 + l.getD 1 0 := by
  match l, h with
  | a :: b :: r, _ => simp [numL]
theorem numL_four (l : List Int) (h : 4 ≤ l.length) : numL (l.take 4) = num4 l := by
  match l, h with
  | a :: b :: c :: d :: r, _ => simp [numL, num4]; omega

theorem own_litB0 (X : World) {base : Nat} (hb : base ≤ X.heap.size) : (X.alloc (.cells #[] 5)).ownsRow base 5 1 (.slice (some ⟨X.heap.size, 0, none⟩) 0 0) 0 [] :=
  ⟨rfl, .inr ⟨_, 0, #[], rfl, hb, heap_alloc_last _ _, Nat.le_refl _, by decide, rfl, rfl⟩⟩
/-- A cell of four, turned whole. -/
def quad (W : World) (n : Nat) (b0 b1 b2 b3 : Value) : World := (((W.setCell ⟨n, 0, none⟩ b0).setCell ⟨n, 1, none⟩ b1).setCell ⟨n, 2, none⟩ b2).setCell ⟨n, 3, none⟩ b3
theorem quad_heap {W : World} {n : Nat} {t : TypeId} {a0 a1 a2 a3 : Value} (h : W.heap[n]? = some (.cells #[a0, a1, a2, a3] t (0, 0))) (b0 b1 b2 b3 : Value) : (quad W n b0 b1 b2 b3).heap[n]? = some (.cells #[b0, b1, b2, b3] t (0, 0)) :=
  heap_set (heap_set (heap_set (heap_set h 0 b0) 1 b1) 2 b2) 3 b3
theorem quad_below {V W : World} {B n : Nat} (h : Below B V W) (hn : B ≤ n) (b0 b1 b2 b3 : Value) : Below B V (quad W n b0 b1 b2 b3) := by
  unfold quad
  exact (((h.setCell (p := ⟨n, 0, none⟩) hn b0).setCell (p := ⟨n, 1, none⟩) hn b1).setCell (p := ⟨n, 2, none⟩) hn b2).setCell (p := ⟨n, 3, none⟩) hn b3
theorem quad_block {W : World} {n b : Nat} (hb : b ≠ n) (b0 b1 b2 b3 : Value) : (quad W n b0 b1 b2 b3).heap[b]? = W.heap[b]? := by
  unfold quad
  rw [Below.heap_setCell _ _ _ _ hb, Below.heap_setCell _ _ _ _ hb, Below.heap_setCell _ _ _ _ hb, Below.heap_setCell _ _ _ _ hb]
theorem quad_own {W : World} {base : Nat} {e : TypeId} {v : Value} {k : Nat} {xs : List Value} (h : W.ownsRow base e 1 v k xs) {n : Nat} {t : TypeId} {c : Array Value} (hn : W.heap[n]? = some (.cells c t (0, 0))) (ht : t ≠ e) (b0 b1 b2 b3 : Value) : (quad W n b0 b1 b2 b3).ownsRow base e 1 v k xs := by
  obtain ⟨hl, h2⟩ := h
  refine ⟨hl, ?_⟩
  rcases h2 with h0 | ⟨g, cap, cur, hv, hbg, hg, r⟩
  · exact .inl h0
  · have hne : g ≠ n := by
      rintro rfl
      rw [hn] at hg
      injection hg with hg
      injection hg with h1 h2
      exact ht h2
    exact .inr ⟨g, cap, cur, hv, hbg, by rw [quad_block hne]; exact hg, r⟩
/-- A cell of six, turned whole. -/
def six (W : World) (n : Nat) (b0 b1 b2 b3 b4 b5 : Value) : World := (((((W.setCell ⟨n, 0, none⟩ b0).setCell ⟨n, 1, none⟩ b1).setCell ⟨n, 2, none⟩ b2).setCell ⟨n, 3, none⟩ b3).setCell ⟨n, 4, none⟩ b4).setCell ⟨n, 5, none⟩ b5
theorem six_heap {W : World} {n : Nat} {t : TypeId} {a0 a1 a2 a3 a4 a5 : Value} (h : W.heap[n]? = some (.cells #[a0, a1, a2, a3, a4, a5] t (0, 0))) (b0 b1 b2 b3 b4 b5 : Value) : (six W n b0 b1 b2 b3 b4 b5).heap[n]? = some (.cells #[b0, b1, b2, b3, b4, b5] t (0, 0)) :=
  heap_set (heap_set (heap_set (heap_set (heap_set (heap_set h 0 b0) 1 b1) 2 b2) 3 b3) 4 b4) 5 b5
theorem six_below {V W : World} {B n : Nat} (h : Below B V W) (hn : B ≤ n) (b0 b1 b2 b3 b4 b5 : Value) : Below B V (six W n b0 b1 b2 b3 b4 b5) := by
  unfold six
  exact ((((((h.setCell (p := ⟨n, 0, none⟩) hn b0).setCell (p := ⟨n, 1, none⟩) hn b1).setCell (p := ⟨n, 2, none⟩) hn b2).setCell (p := ⟨n, 3, none⟩) hn b3).setCell (p := ⟨n, 4, none⟩) hn b4).setCell (p := ⟨n, 5, none⟩) hn b5)
theorem six_block {W : World} {n b : Nat} (hb : b ≠ n) (b0 b1 b2 b3 b4 b5 : Value) : (six W n b0 b1 b2 b3 b4 b5).heap[b]? = W.heap[b]? := by
  unfold six
  rw [Below.heap_setCell _ _ _ _ hb, Below.heap_setCell _ _ _ _ hb, Below.heap_setCell _ _ _ _ hb, Below.heap_setCell _ _ _ _ hb, Below.heap_setCell _ _ _ _ hb, Below.heap_setCell _ _ _ _ hb]
theorem own_block_eq {w W : World} {base : Nat} {e : TypeId} {size : Nat} {v : Value} {n : Nat} {xs : List Value} (h : w.ownsRow base e size v n xs) (hb : ∀ g, base ≤ g → W.heap[g]? = w.heap[g]?) : W.ownsRow base e size v n xs := by
  obtain ⟨hl, h2⟩ := h
  refine ⟨hl, ?_⟩
  rcases h2 with h0 | ⟨g, cap, cur, hv, hbg, hg, r⟩
  · exact .inl h0
  · exact .inr ⟨g, cap, cur, hv, hbg, by rw [hb g hbg]; exact hg, r⟩

theorem heap_drewN {w : World} {n : Nat} {o : Obj} (h : w.heap[n]? = some o) (m : Nat) : (w.drewN m).heap[n]? = some o := h
attribute [local go_sem ↓] ldS_of
attribute [local go_sem] eql36 eqGuard36 sv_is
set_option maxRecDepth 100000 in
set_option maxHeartbeats 8000000 in
theorem rdec_join (A : Option Addr) (S : List Sct) (cap : Nat) (w : World) (hA : ScsA w A S) (hl : S.length ≤ 1000) (h0 : 0 < S.length) (h87 : (S.getD 0 zeroS).1.getD 0 0 = 87) :
    Calls Try.prog 10 #[.slice A S.length cap] w fun x w' => RGot S w x w' ∧ Below w.heap.size w w' := by
  have HB0 : Hid (Below w.heap.size w (w.alloc (.cells #[.int .i64 0, .int .u32 0, .int .u32 0, .slice none 0 0, .int .i64 0, .int .i64 0] 37))) := below_alloc (Below.refl _ _) _
  have HN0 : Hid ((w.alloc (.cells #[.int .i64 0, .int .u32 0, .int .u32 0, .slice none 0 0, .int .i64 0, .int .i64 0] 37)).heap[w.heap.size]? = some (.cells #[.int .i64 0, .int .u32 0, .int .u32 0, .slice none 0 0, .int .i64 0, .int .i64 0] 37 (0, 0))) := heap_alloc_last _ _
  have HA : Hid (ScsA (w.alloc (.cells #[.int .i64 0, .int .u32 0, .int .u32 0, .slice none 0 0, .int .i64 0, .int .i64 0] 37)) A S) := rowA_below hA (unhide HB0)
  have HM0 : Hid ((S.getD 0 zeroS).1.getD 0 0 = 87) := h87
  have hc : ∃ b off, A = some ⟨b, off, none⟩ ∧ (w.alloc (.cells #[.int .i64 0, .int .u32 0, .int .u32 0, .slice none 0 0, .int .i64 0, .int .i64 0] 37)).cell? ⟨b, off, none⟩ = some (.int .u8 87) := by
    obtain ⟨b, off, rfl, hr⟩ := (unhide HA).range (k := 0) (by omega)
    have := secs_cell (hr 0 _ (getD_some' S 0 (by omega))) 0 (by omega)
    rw [h87] at this
    exact ⟨b, off, rfl, by simpa using this⟩
  obtain ⟨b, off, rfl, hc0⟩ := hc
  have hx0 : ((87 : Int) != 87) = false := by decide
  have hl0 : ((S.length : Int) == 0) = false := beq_eq_false_iff_ne.2 (by omega)
  clear hA h87
  go_enter Try.func10, Try.ntmps10
  go_upto_block 0 with (fail)
  generalize w.alloc (.cells #[.int .i64 0, .int .u32 0, .int .u32 0, .slice none 0 0, .int .i64 0, .int .i64 0] 37) = w1 at *
  go_cut [3] from 400 (fun v w' => ∃ K, Led S K ∧ w'.ownsRow w1.heap.size 5 1 v (joinL (S.take K)).length ((joinL (S.take K)).map (Value.int .u8)) ∧ Below w1.heap.size w1 w')
  case first =>
    go_wp2
    go_loopw [3, 4] (fun v i wr => ∃ k : Nat, k ≤ S.length ∧ i = .int .i64 (k : Int) ∧ (∀ j, j < k → (S.getD j zeroS).1.getD 0 0 = markI j) ∧ wr.ownsRow w1.heap.size 5 1 v (joinL (S.take k)).length ((joinL (S.take k)).map (Value.int .u8)) ∧ Below w1.heap.size w1 wr) (fun _ i _ => S.length - (intOf i).toNat)
    case atStart => exact ⟨0, Nat.zero_le _, rfl, fun j hj => absurd hj (by omega), ⟨rfl, .inl ⟨rfl, rfl⟩⟩, Below.refl _ _⟩
    case round =>
      obtain ⟨k, hk, rfl, hm, ho, hbel⟩ := hrel
      obtain ⟨A7, c7, rfl, _, _⟩ := own_bys ho
      have HM := hide hm
      have HO := hide ho
      have HB := hide hbel
      clear hm ho hbel
      by_cases hlt : k < S.length
      · have hlt' : (k : Int) < (S.length : Int) := by omega
        obtain ⟨b', off', heq, hr⟩ := ScsA.range (rowA_below (unhide HA) (unhide HB)) hlt
        cases heq
        have hrk := hr k _ (getD_some' S k hlt)
        have hck := secs_cell hrk 0 (by omega)
        rw [Nat.add_zero] at hck
        have HRK := hide hrk
        have hjl : (joinL (S.take k)).length = 63 * k := by rw [joinL_len, List.length_take]; congr 1; omega
        have HJS := hide (join_snoc S k hlt)
        clear hr hrk
        have HTL : Hid (BysA wr (some ⟨b, off + k * 64 + 1, none⟩) (tail (S.getD k zeroS))) := tail_bys (unhide HRK)
        have htl : Hid (63 = (tail (S.getD k zeroS)).length) := (tail_len _).symm
        have HLL : Hid ((joinL (S.take k)).length + (tail (S.getD k zeroS)).length ≤ 100000) := by show _ ≤ _; rw [tail_len]; omega
        have HNX : Hid (∀ j, j < k + 1 → (S.getD k zeroS).1.getD 0 0 = markI k → (S.getD j zeroS).1.getD 0 0 = markI j) := fun j hj h => by
          by_cases hjk : j = k
          · rw [hjk]; exact h
          · exact unhide HM j (by omega)
        by_cases hk0 : k = 0
        · have hke : ((k : Int) == 0) = true := beq_iff_eq.2 (by omega)
          have HMK : Hid ((S.getD k zeroS).1.getD 0 0 = markI k) := by show _ = _; rw [hk0, unhide HM0]; rfl
          clear hck hk0
          generalize hbs : joinL (S.take k) = bs at *
          generalize htt : tail (S.getD k zeroS) = tt at *
          clear hbs htt
          go_wp2_with ((with_reducible refine wpList_appendB _ _ w1.heap.size (.slice A7 bs.length c7) bs tt ?_ (unhide HO) (some ⟨b, off + k * 64 + 1, none⟩) 63 63 ?_ ?_ (unhide HTL) ?_ (unhide HB).size ?_); (focus rfl); (focus exact unhide htl); (focus rfl); (focus exact unhide HLL); intro v7 w7 ho7 hg7; have HO7 := hide ho7; have HB7 := hide ((unhide HB).grown hg7 (unhide HB).size (fun j hj => (own_block (unhide HO) hj).1)); clear ho7 hg7)
          go_roundw
          case rel => exact ⟨k + 1, by omega, by go_num, fun j hj => unhide HNX j hj (unhide HMK), by rw [unhide HJS]; exact unhide HO7, unhide HB7⟩
          case measure => simp [intOf]; omega
        · have hke : ((k : Int) == 0) = false := beq_eq_false_iff_ne.2 (by omega)
          have hmk1 : markI k = 119 := by unfold markI; rw [if_neg hk0]
          by_cases hmk : (S.getD k zeroS).1.getD 0 0 = 119
          · have HMK : Hid ((S.getD k zeroS).1.getD 0 0 = markI k) := by show _ = _; rw [hmk1, hmk]
            rw [hmk] at hck
            clear hmk hmk1 hk0
            generalize hbs : joinL (S.take k) = bs at *
            generalize htt : tail (S.getD k zeroS) = tt at *
            clear hbs htt
            go_wp2_with ((with_reducible refine wpList_appendB _ _ w1.heap.size (.slice A7 bs.length c7) bs tt ?_ (unhide HO) (some ⟨b, off + k * 64 + 1, none⟩) 63 63 ?_ ?_ (unhide HTL) ?_ (unhide HB).size ?_); (focus rfl); (focus exact unhide htl); (focus rfl); (focus exact unhide HLL); intro v7 w7 ho7 hg7; have HO7 := hide ho7; have HB7 := hide ((unhide HB).grown hg7 (unhide HB).size (fun j hj => (own_block (unhide HO) hj).1)); clear ho7 hg7)
            go_roundw
            case rel => exact ⟨k + 1, by omega, by go_num, fun j hj => unhide HNX j hj (unhide HMK), by rw [unhide HJS]; exact unhide HO7, unhide HB7⟩
            case measure => simp [intOf]; omega
          · have hme : ((S.getD k zeroS).1.getD 0 0 == 119) = false := beq_eq_false_iff_ne.2 hmk
            have HLD : Hid (Led S k) := ⟨by omega, hk, unhide HM, .inr (by rw [hmk1]; exact hmk)⟩
            clear hmk hmk1 HNX
            generalize (S.getD k zeroS).1.getD 0 0 = mk at *
            go_wp2
            go_meet
            case rel => exact ⟨k, unhide HLD, unhide HO, unhide HB⟩
      · obtain rfl : k = S.length := by omega
        go_wp2
        go_meet
        case rel => exact ⟨_, ⟨by omega, Nat.le_refl _, unhide HM, .inl rfl⟩, unhide HO, unhide HB⟩
  obtain ⟨K, hLed, hown, hbel⟩ := hcut
  have hKl := hLed.le
  have hK1 := hLed.one
  have hjl : (joinL (S.take K)).length = 63 * K := by rw [joinL_len, List.length_take]; congr 1; omega
  obtain ⟨g, c7, rfl, hg, hy, hc7⟩ := own_bys1 hown (by omega)
  have HBW := hide hbel
  have HN1 := hide (rd_none1 hLed)
  have HN2 := hide (fun i => rd_none2 (i := i) hLed)
  have HSM := hide (rd_some hLed)
  have HBY := hide (joinL_byt (S.take K))
  have HY := hide hy
  clear hLed hown hy hbel
  generalize hbs : joinL (S.take K) = bs at *
  clear hbs
  have HLL : Hid (0 ≤ lenL bs ∧ lenL bs ≤ 65535) := by
    have h1 := unhide HBY 9
    have h2 := unhide HBY 10
    show _ ∧ _
    unfold lenL; omega
  obtain ⟨L, hL⟩ : ∃ L : Nat, lenL bs = L := ⟨(lenL bs).toNat, by have := unhide HLL; omega⟩
  have hL2 : (L : Int) ≤ 65535 := by have := unhide HLL; omega
  have HNU : Hid (∀ (lo n cc : Nat) (W : World), Below wc.heap.size wc W → lo + n ≤ bs.length → n ≤ 4 → Calls Try.prog 44 #[.slice (some ⟨g, lo, none⟩) n cc] W fun e w' => e = .returned (.int .u32 (numL ((bs.drop lo).take n))) ∧ w' = W) := fun lo n cc W hW h1 h2 => by
    have hn : ((bs.drop lo).take n).length = n := by rw [List.length_take, List.length_drop]; omega
    have hy := bys_take (bys_drop (bysA_below (unhide HY) hW) lo) n
    rw [Nat.zero_add] at hy
    have := num_any _ ((bs.drop lo).take n) cc W hy (byt_take (byt_drop (unhide HBY) _) _) (by omega)
    rw [hn] at this
    exact this
  have H9 : Hid (∀ (cc : Nat) (W : World), Below wc.heap.size wc W → Calls Try.prog 44 #[.slice (some ⟨g, 9, none⟩) 2 cc] W fun e w' => ∃ v, e = .returned v ∧ (v = .int .u32 (L : Int) ∧ w' = W)) := fun cc W hW => by
    refine (unhide HNU 9 2 cc W hW (by omega) (by omega)).mono ?_
    rintro e w' ⟨rfl, rfl⟩
    refine ⟨_, rfl, ?_, rfl⟩
    rw [numL_two _ (by rw [List.length_drop]; omega), ← hL]
    unfold lenL
    rw [List.getD_eq_getElem?_getD, List.getElem?_drop, List.getD_eq_getElem?_getD, List.getElem?_drop, ← List.getD_eq_getElem?_getD, ← List.getD_eq_getElem?_getD]
  have H1 : Hid (∀ (cc : Nat) (W : World), Below wc.heap.size wc W → Calls Try.prog 44 #[.slice (some ⟨g, 1, none⟩) 4 cc] W fun e w' => ∃ v, e = .returned v ∧ (v = .int .u32 (num4 (bs.drop 1)) ∧ w' = W)) := fun cc W hW => by
    refine (unhide HNU 1 4 cc W hW (by omega) (by omega)).mono ?_
    rintro e w' ⟨rfl, rfl⟩
    exact ⟨_, rfl, by rw [numL_four _ (by rw [List.length_drop]; omega)], rfl⟩
  have H5 : Hid (∀ (cc : Nat) (W : World), Below wc.heap.size wc W → Calls Try.prog 44 #[.slice (some ⟨g, 5, none⟩) 4 cc] W fun e w' => ∃ v, e = .returned v ∧ (v = .int .u32 (num4 (bs.drop 5)) ∧ w' = W)) := fun cc W hW => by
    refine (unhide HNU 5 4 cc W hW (by omega) (by omega)).mono ?_
    rintro e w' ⟨rfl, rfl⟩
    exact ⟨_, rfl, by rw [numL_four _ (by rw [List.length_drop]; omega)], rfl⟩
  have HND : Hid (∀ W : World, Calls Try.prog 14 #[.int .i64 (L : Int)] W fun e w' => e = .returned (.int .i64 (needI (L : Int))) ∧ w' = W) := fun W => rneed_any (L : Int) (by omega) W
  have HBL : Hid (bs.length = 63 * K) := hjl
  rw [hL] at HN1 HSM
  obtain ⟨nb, hnb⟩ : ∃ nb, bs.length = nb := ⟨_, rfl⟩
  have HNB := hide hnb
  rw [hnb] at hjl hc7 ⊢
  have q1 : ¬ c7 = 9 := by omega
  have q2 : (11 : Int) ≤ (c7 : Int) := by omega
  have HJL := hide hjl
  have HLE := hide hL
  clear hnb hL HNU HLL hjl
  go_upto_region 9 with (go_at_call 44; (with_reducible refine (unhide H9 _ _ (Below.refl _ _)).mono ?_); rintro e w' ⟨v, rfl, rfl, hw⟩; subst hw)
  have HN3 : Hid (w'.heap[w.heap.size]? = some (.cells #[.int .i64 0, .int .u32 0, .int .u32 0, .slice none 0 0, .int .i64 0, .int .i64 0] 37 (0, 0))) := ((unhide HBW).block _ (lt_of_get (unhide HN0))).trans (unhide HN0)
  have hlt0 := lt_of_get (unhide HN3)
  have hn3 := unhide HN3
  by_cases h4 : (4000 : Int) < (L : Int)
  · have HNO := hide (unhide HN1 (.inl h4))
    clear H1 H5 H9 HN1 HN2 HSM
    have z0 := (heap_cell hn3 0).1
    have z1 := (heap_cell hn3 1).1
    have z2 := (heap_cell hn3 2).1
    have z3 := (heap_cell hn3 3).1
    have z4 := (heap_cell hn3 4).1
    have z5 := (heap_cell hn3 5).1
    have f0 := (heap_cell hn3 0).2
    have f1 := (heap_cell hn3 1).2
    have f2 := (heap_cell hn3 2).2
    have f3 := (heap_cell hn3 3).2
    have f4 := (heap_cell hn3 4).2
    have f5 := (heap_cell hn3 5).2
    go_wp2
    exact ret_cell1 rfl rfl rfl (six_heap (unhide HN3) _ _ _ _ _ _) Try.underlying37 rfl (by kernel_rfl) ⟨.inl ⟨unhide HNO, rfl⟩, six_below (below_then (unhide HB0) (unhide HBW)) (Nat.le_refl _) _ _ _ _ _ _⟩
  · obtain ⟨N, hN, hN2, hN3⟩ : ∃ N : Nat, needI (L : Int) = (N : Int) ∧ N ≤ 64 ∧ N = (L + 77) / 63 := by
      refine ⟨(L + 77) / 63, ?_, by omega, rfl⟩
      unfold needI; rw [if_neg (by omega)]; omega
    rw [hN] at HND HN1
    have HN3' := hide hN3
    clear hN hN3
    by_cases hk : (nb : Int) < 63 * (N : Int)
    · have HNO := hide (unhide HN1 (.inr (by have := unhide HJL; omega)))
      clear H1 H5 H9 HN1 HN2 HSM
      have z0 := (heap_cell hn3 0).1
      have z1 := (heap_cell hn3 1).1
      have z2 := (heap_cell hn3 2).1
      have z3 := (heap_cell hn3 3).1
      have z4 := (heap_cell hn3 4).1
      have z5 := (heap_cell hn3 5).1
      have f0 := (heap_cell hn3 0).2
      have f1 := (heap_cell hn3 1).2
      have f2 := (heap_cell hn3 2).2
      have f3 := (heap_cell hn3 3).2
      have f4 := (heap_cell hn3 4).2
      have f5 := (heap_cell hn3 5).2
      go_wp2_with (go_at_call 14; (with_reducible refine (unhide HND _).mono ?_); rintro e w9 ⟨rfl, hw⟩; subst hw)
      exact ret_cell1 rfl rfl rfl (six_heap (unhide HN3) _ _ _ _ _ _) Try.underlying37 rfl (by kernel_rfl) ⟨.inl ⟨unhide HNO, rfl⟩, six_below (below_then (unhide HB0) (unhide HBW)) (Nat.le_refl _) _ _ _ _ _ _⟩
    · go_upto_region 11 with (go_at_call 14; (with_reducible refine (unhide HND _).mono ?_); rintro e w9 ⟨rfl, hw⟩; subst hw)
      obtain ⟨b0, hb0⟩ : ∃ b0, bs.getD 0 0 = b0 := ⟨_, rfl⟩
      obtain ⟨e1, he1⟩ : ∃ e1, num4 (bs.drop 1) = e1 := ⟨_, rfl⟩
      obtain ⟨s5, hs5⟩ : ∃ s5, num4 (bs.drop 5) = s5 := ⟨_, rfl⟩
      obtain ⟨bo, hbo⟩ : ∃ bo, (bs.drop 11).take L = bo := ⟨_, rfl⟩
      have HBO : Hid (bo.length = L) := by
        show _ = _
        rw [← hbo, List.length_take, List.length_drop, unhide HNB]; have := unhide HJL; have := unhide HN3'; have : (63 * N : Int) ≤ nb := by omega
        omega
      have HX : Hid (∀ W : World, Below w9.heap.size w9 W → W.cell? ⟨g, 0, none⟩ = some (.int .u8 b0) ∧ g < W.heap.size ∧ RowA W (some ⟨g, 11, none⟩) (bo.map (Value.int .u8))) := fun W hW => by
        have hy := bysA_below (unhide HY) hW
        have hy2 := bys_take (bys_drop hy 11) L
        rw [Nat.zero_add, hbo] at hy2
        have hne : bs ≠ [] := by intro e; rw [e] at HNB; have := unhide HNB; have := unhide HJL; simp at *; omega
        obtain ⟨g', o', e', hc⟩ := hy hne
        cases e'
        have := hc 0 (List.length_pos_iff.2 hne)
        rw [hb0] at this
        exact ⟨this, World.block_lt_of_cell? _ _ this, rowA_bys hy2⟩
      have hb8 := unhide HBY 0
      rw [hb0] at hb8 HSM
      rw [he1] at H1 HSM
      rw [hs5] at H5 HSM
      have HEB : Hid (entB bs = entL b0 e1 s5 bo) := by
        show _ = _
        unfold entB
        rw [unhide HLE, Int.toNat_natCast, hb0, he1, hs5, hbo]
      rw [unhide HEB] at HSM HN2
      rw [Int.toNat_natCast, hbo] at HSM
      have HEL1 : Hid (0 ≤ e1 ∧ e1 ≤ 4294967295) := by rw [← he1]; exact num4_lim (byt_drop (unhide HBY) _)
      have HSL1 : Hid (0 ≤ s5 ∧ s5 ≤ 4294967295) := by rw [← hs5]; exact num4_lim (byt_drop (unhide HBY) _)
      have HBB : Hid (Byt bo) := by rw [← hbo]; exact byt_take (byt_drop (unhide HBY) _) _
      obtain ⟨y0, gl0, _⟩ := unhide HX w9 (Below.refl _ _)
      obtain ⟨i5, hi5, hz5, hs5', hy5⟩ := info_parts Try.info5
      have p1 : ¬ c7 = 1 := by have := unhide HJL; omega
      have p5 : ¬ c7 = 5 := by have := unhide HJL; omega
      have p11 : ¬ c7 = 11 := by have := unhide HJL; omega
      have p12 : (11 : Int) + (L : Int) ≤ (c7 : Int) := by have := unhide HJL; have := unhide HN3'; omega
      have hnb0 : (0 : Int) < (nb : Int) := by have := unhide HJL; omega
      have hnbn : 0 < nb := by omega
      have r5 : (5 : Int) ≤ (c7 : Int) := by omega
      have r9 : (9 : Int) ≤ (c7 : Int) := by omega
      obtain ⟨M, hM⟩ : ∃ M, 11 + L = M := ⟨_, rfl⟩
      have HML : Hid (M - 11 = L) := by show _ = _; omega
      have hwM : IntKind.i64.wrap (11 + (L : Int)) = (M : Int) := by rw [IntKind.wrap_i64]; omega
      have r11 : (11 : Int) ≤ (M : Int) := by omega
      have r12 : (0 : Int) ≤ (M : Int) := by omega
      have r13 : (M : Int) ≤ (c7 : Int) := by omega
      have h4' : (0 : Int) ≤ (L : Int) := by omega
      have HNBX : Hid (63 ≤ nb) := by have := unhide HJL; show _ ≤ _; omega
      have HZ := hide (fun (W : World) => heap_alloc_last W (.cells #[.int .i64 0, .int .u32 0, .int .u32 0, .slice none 0 0] 33))
      have HBa : Hid (Below w9.heap.size w9 ((w9.alloc (.cells #[.int .i64 0, .int .u32 0, .int .u32 0, .slice none 0 0] 33)).alloc (.cells #[] 5)).drew) := Below.drew (below_alloc (below_alloc (Below.refl _ _) _) _)
      have HBb : Hid (Below w9.heap.size w9 ((w9.alloc (.cells #[] 5)).alloc (.cells #[.int .i64 0, .int .u32 0, .int .u32 0, .slice none 0 0] 33)).drew) := Below.drew (below_alloc (below_alloc (Below.refl _ _) _) _)
      have HBc : Hid (Below w9.heap.size w9 (w9.alloc (.cells #[] 5)).drew) := Below.drew (below_alloc (Below.refl _ _) _)
      have hsz1 : (w9.alloc (.cells #[.int .i64 0, .int .u32 0, .int .u32 0, .slice none 0 0] 33)).heap.size = w9.heap.size + 1 := by simp
      have hsz2 : (w9.alloc (.cells #[] 5)).heap.size = w9.heap.size + 1 := by simp
      have HOa : Hid (((w9.alloc (.cells #[.int .i64 0, .int .u32 0, .int .u32 0, .slice none 0 0] 33)).alloc (.cells #[] 5)).drew.ownsRow w9.heap.size 5 1 (.slice (some ⟨w9.heap.size + 1, 0, none⟩) 0 0) 0 []) := by
        have := own_litB0 (w9.alloc (.cells #[.int .i64 0, .int .u32 0, .int .u32 0, .slice none 0 0] 33)) (base := w9.heap.size) (by omega)
        rw [hsz1] at this
        exact this
      have HOb : Hid (((w9.alloc (.cells #[] 5)).alloc (.cells #[.int .i64 0, .int .u32 0, .int .u32 0, .slice none 0 0] 33)).drew.ownsRow w9.heap.size 5 1 (.slice (some ⟨w9.heap.size, 0, none⟩) 0 0) 0 []) := own_below (own_litB0 w9 (Nat.le_refl _)) (Below.drew (below_alloc (Below.refl _ _) _))
      have HOc : Hid ((w9.alloc (.cells #[] 5)).drew.ownsRow w9.heap.size 5 1 (.slice (some ⟨w9.heap.size, 0, none⟩) 0 0) 0 []) := own_litB0 w9 (Nat.le_refl _)
      have HZa : Hid (((w9.alloc (.cells #[.int .i64 0, .int .u32 0, .int .u32 0, .slice none 0 0] 33)).alloc (.cells #[] 5)).drew.heap[w9.heap.size]? = some (.cells #[.int .i64 0, .int .u32 0, .int .u32 0, .slice none 0 0] 33 (0, 0))) := by
        have h1 := unhide HZ w9
        exact ((below_alloc (Below.refl _ _) (.cells #[] 5)).block _ (lt_of_get h1)).trans h1
      have HZb : Hid (((w9.alloc (.cells #[] 5)).alloc (.cells #[.int .i64 0, .int .u32 0, .int .u32 0, .slice none 0 0] 33)).drew.heap[w9.heap.size + 1]? = some (.cells #[.int .i64 0, .int .u32 0, .int .u32 0, .slice none 0 0] 33 (0, 0))) := by
        have h1 := unhide HZ (w9.alloc (.cells #[] 5))
        rw [hsz2] at h1
        exact h1
      clear hsz1 hsz2 HZ
      have HLM : Hid ((bo.map (Value.int .u8)).length = (M - 11) * 1) := by show _ = _; rw [List.length_map, unhide HBO, unhide HML, Nat.mul_one]
      have HBD : Hid ((0 + (M - 11)) * 1 ≤ 140737488355328) := by show _ ≤ _; have := unhide HML; omega
      have HOC : Hid (∀ (v : Value) (W : World), W.ownsRow w9.heap.size 5 1 v (0 + (M - 11)) ([] ++ bo.map (Value.int .u8)) → ∃ A c, v = .slice A L c ∧ W.ownsRow w9.heap.size 5 1 (.slice A L c) L (bo.map (Value.int .u8))) := fun v W h => by
        rw [Nat.zero_add, List.nil_append, unhide HML] at h
        obtain ⟨A, c, rfl, _, _⟩ := own_form h
        exact ⟨A, c, rfl, h⟩
      have HFW : Hid (∀ (X w5 : World) (v5 : Value) (gq : Nat), Below w9.heap.size w9 X → w9.heap.size ≤ gq → X.grownBy w5 (some gq) → w5.ownsRow w9.heap.size 5 1 v5 (0 + (M - 11)) ([] ++ bo.map (Value.int .u8)) →
          (∃ A c, v5 = .slice A L c ∧ w5.ownsRow w9.heap.size 5 1 (.slice A L c) L (bo.map (Value.int .u8))) ∧ Below w9.heap.size w9 w5 ∧ ∀ q c, X.heap[q]? = some (.cells c 33 (0, 0)) → q ≠ gq → w5.heap[q]? = some (.cells c 33 (0, 0))) := fun X w5 v5 gq hX hq hg ho =>
        ⟨unhide HOC _ _ ho, hX.grown hg hX.size (fun j hj => by cases hj; exact hq), fun q c h1 h2 => (hg.block q (lt_of_get h1) (fun e => h2 (Option.some.inj e))).trans h1⟩
      have HNK2 : Hid (N ≤ K) := by have := unhide HJL; show _ ≤ _; omega
      have HNK : Hid (N ≤ S.length) := by have := unhide HJL; show _ ≤ _; omega
      have HL4 : Hid (L ≤ 4000) := by show _ ≤ _; omega
      have HKEEP : Hid (∀ W : World, Below w9.heap.size w9 W → Below w9.heap.size w9 W ∧ W.cell? ⟨g, 0, none⟩ = some (.int .u8 b0)) := fun W hW => ⟨hW, (unhide HX W hW).1⟩
      have hwb : IntKind.i64.wrap b0 = b0 := by rw [IntKind.wrap_i64]; omega
      clear hb0 he1 hs5 hbo H9 HND HJL h4 hk hM p12
      go_cut [6] from 400 (fun v w' => ∃ q A5 c5, v = .pointer (some ⟨q, 0, none⟩) ∧ w'.heap[q]? = some (.cells #[.int .i64 b0, .int .u32 e1, .int .u32 s5, .slice A5 L c5] 33 (0, 0)) ∧ w'.ownsRow w9.heap.size 5 1 (.slice A5 L c5) L (bo.map (Value.int .u8)) ∧ Below w9.heap.size w9 w')
      case first =>
        go_region_held3 (fun W => Below w9.heap.size w9 W ∧ W.cell? ⟨g, 0, none⟩ = some (.int .u8 b0)) ((go_split_ands; refine unhide HKEEP _ ?_; (repeat (first | (with_reducible assumption) | (with_reducible exact Below.refl _ _) | (with_reducible exact unhide HB5) | (with_reducible refine Below.drew ?_) | (with_reducible refine below_drewN ?_ _) | (with_reducible refine below_alloc ?_ _) | (with_reducible refine below_set ?_ _ _ _ (by omega)))))) (first
          | (go_at_call 44; go_split_ands; (with_reducible refine (unhide H1 _ _ ?_).mono ?_); (focus (repeat (first | (with_reducible assumption) | (with_reducible exact Below.refl _ _) | (with_reducible exact unhide HB5) | (with_reducible refine Below.drew ?_) | (with_reducible refine below_drewN ?_ _) | (with_reducible refine below_alloc ?_ _) | (with_reducible refine below_set ?_ _ _ _ (by omega))))); rintro x w12 ⟨v, rfl, rfl, rfl⟩)
          | (go_at_call 44; go_split_ands; (with_reducible refine (unhide H5 _ _ ?_).mono ?_); (focus (repeat (first | (with_reducible assumption) | (with_reducible exact Below.refl _ _) | (with_reducible exact unhide HB5) | (with_reducible refine Below.drew ?_) | (with_reducible refine below_drewN ?_ _) | (with_reducible refine below_alloc ?_ _) | (with_reducible refine below_set ?_ _ _ _ (by omega))))); rintro x w12 ⟨v, rfl, rfl, rfl⟩)
          | ((with_reducible refine step_append_row ?_ (.tmp 70) (.tmp 74) 23 ?_ w9.heap.size 5 i5 (.int .u8 0) 1 1 Try.underlying23 hi5 hz5 hs5' hy5 ?_ (by decide) (by decide) (.slice (some ⟨w9.heap.size + 1, 0, none⟩) 0 0) 0 [] ?_ ?own (some ⟨g, 11, none⟩) (M - 11) (c7 - 11) (bo.map (Value.int .u8)) ?_ (unhide HLM) ?_ (one_u8 _) (unhide HBD) ?_ ?_); (case own => with_reducible exact unhide HOa); (focus rfl); (focus rfl); (focus rfl); (focus rfl); (focus rfl); (focus (with_reducible exact (unhide HX _ (unhide HBa)).2.2)); (focus (with_reducible exact (unhide HBa).size)); intro v5 w5 ho5 hg5 _; obtain ⟨⟨A5, c5, rfl, ho5'⟩, hb5, hq5⟩ := unhide HFW _ w5 _ (w9.heap.size + 1) (unhide HBa) (by omega) hg5 ho5; have HO5 := hide ho5'; have HB5 := hide hb5; obtain ⟨y5, gl5, _⟩ := unhide HX w5 hb5; have hz5 := hq5 (w9.heap.size) _ (unhide HZa) (by omega); have HZ5 := hide hz5; have k0 := (heap_cell hz5 0).1; have k1 := (heap_cell hz5 1).1; have k2 := (heap_cell hz5 2).1; have k3 := (heap_cell hz5 3).1; have l0 := (heap_cell hz5 0).2; have l1 := (heap_cell hz5 1).2; have l2 := (heap_cell hz5 2).2; have l3 := (heap_cell hz5 3).2; have hzl := lt_of_get hz5; clear hz5; clear ho5 hg5 ho5' hb5 hq5)
          | ((with_reducible refine step_append_row ?_ (.tmp 70) (.tmp 74) 23 ?_ w9.heap.size 5 i5 (.int .u8 0) 1 1 Try.underlying23 hi5 hz5 hs5' hy5 ?_ (by decide) (by decide) (.slice (some ⟨w9.heap.size, 0, none⟩) 0 0) 0 [] ?_ ?own (some ⟨g, 11, none⟩) (M - 11) (c7 - 11) (bo.map (Value.int .u8)) ?_ (unhide HLM) ?_ (one_u8 _) (unhide HBD) ?_ ?_); (case own => with_reducible exact unhide HOb); (focus rfl); (focus rfl); (focus rfl); (focus rfl); (focus rfl); (focus (with_reducible exact (unhide HX _ (unhide HBb)).2.2)); (focus (with_reducible exact (unhide HBb).size)); intro v5 w5 ho5 hg5 _; obtain ⟨⟨A5, c5, rfl, ho5'⟩, hb5, hq5⟩ := unhide HFW _ w5 _ (w9.heap.size) (unhide HBb) (by omega) hg5 ho5; have HO5 := hide ho5'; have HB5 := hide hb5; obtain ⟨y5, gl5, _⟩ := unhide HX w5 hb5; have hz5 := hq5 (w9.heap.size + 1) _ (unhide HZb) (by omega); have HZ5 := hide hz5; have k0 := (heap_cell hz5 0).1; have k1 := (heap_cell hz5 1).1; have k2 := (heap_cell hz5 2).1; have k3 := (heap_cell hz5 3).1; have l0 := (heap_cell hz5 0).2; have l1 := (heap_cell hz5 1).2; have l2 := (heap_cell hz5 2).2; have l3 := (heap_cell hz5 3).2; have hzl := lt_of_get hz5; clear hz5; clear ho5 hg5 ho5' hb5 hq5)
          | ((with_reducible refine step_append_row ?_ (.tmp 70) (.tmp 74) 23 ?_ w9.heap.size 5 i5 (.int .u8 0) 1 1 Try.underlying23 hi5 hz5 hs5' hy5 ?_ (by decide) (by decide) (.slice (some ⟨w9.heap.size, 0, none⟩) 0 0) 0 [] ?_ ?own (some ⟨g, 11, none⟩) (M - 11) (c7 - 11) (bo.map (Value.int .u8)) ?_ (unhide HLM) ?_ (one_u8 _) (unhide HBD) ?_ ?_); (case own => with_reducible exact unhide HOc); (focus rfl); (focus rfl); (focus rfl); (focus rfl); (focus rfl); (focus (with_reducible exact (unhide HX _ (unhide HBc)).2.2)); (focus (with_reducible exact (unhide HBc).size)); intro v5 w5 ho5 hg5 _; obtain ⟨⟨A5, c5, rfl, ho5'⟩, hb5, hq5⟩ := unhide HFW _ w5 _ (w9.heap.size) (unhide HBc) (by omega) hg5 ho5; have HO5 := hide ho5'; have HB5 := hide hb5; obtain ⟨y5, gl5, _⟩ := unhide HX w5 hb5; clear ho5 hg5 ho5' hb5 hq5))
        all_goals
          go_wp2
          go_meet
          case rel => first
            | exact ⟨_, A5, c5, rfl, quad_heap (unhide HZ5) _ _ _ _, quad_own (unhide HO5) (unhide HZ5) (by decide) _ _ _ _, quad_below (unhide HB5) (by omega) _ _ _ _⟩
            | exact ⟨_, A5, c5, rfl, heap_alloc_last _ _, own_below (unhide HO5) (below_alloc (Below.refl _ _) _), below_alloc (unhide HB5) _⟩
      obtain ⟨q, A5, c5, rfl, hq, ho, hb⟩ := hcut
      have HQ := hide hq
      have HO6 := hide ho
      have HB6 := hide hb
      have x0 := (heap_cell hq 0).1
      have x1 := (heap_cell hq 1).1
      have x2 := (heap_cell hq 2).1
      have x3 := (heap_cell hq 3).1
      have hql := lt_of_get hq
      have HN4 := hide (((unhide HB6).block _ (lt_of_get (unhide HN3))).trans (unhide HN3))
      clear hq ho hb H1 H5 hn3 HX HNBX
      have HEN : Hid (Calls Try.prog 8 #[.agg #[.int .i64 b0, .int .u32 e1, .int .u32 s5, .slice A5 L c5]] wc fun x w' => ∃ g2 c2, x = .returned (.tuple #[.slice (some ⟨g2, 0, none⟩) N c2, .int .i64 0]) ∧ ScsA w' (some ⟨g2, 0, none⟩) (cutS (entL b0 e1 s5 bo)) ∧ Below wc.heap.size wc w') := by
        have ho' := unhide HO6
        have hbl := unhide HBO
        have hy5' : BysA wc A5 bo := by
          rw [← hbl] at ho'
          obtain ⟨A, c, he, hy, _⟩ := own_bys ho'
          cases he
          exact hy
        have hcl : (cutS (entL b0 e1 s5 bo)).length = N := by rw [cutS_len, pieces_ent, hbl, unhide HN3']
        have := rencode_ok b0 e1 s5 hb8 (unhide HEL1) (unhide HSL1) A5 bo c5 (by have := unhide HL4; omega) (unhide HBB) wc hy5'
        rw [hbl] at this
        refine this.mono ?_
        rintro x w' ⟨v, rfl, ho2, hb2⟩
        obtain ⟨Ao, co, rfl, hso, _⟩ := own_scs ho2
        rw [hcl]
        have hN0 : 0 < N := by have := unhide HN3'; omega
        obtain ⟨b', off', he, _⟩ := ScsA.range hso (k := 0) (by omega)
        rcases ho2.2 with ⟨_, h0⟩ | ⟨g', cap', cur, hv, _⟩
        · omega
        · cases hv
          exact ⟨_, _, rfl, hso, hb2⟩
      have HEL : Hid ((cutS (entL b0 e1 s5 bo)).length = N) := by
        show _ = _
        rw [cutS_len, pieces_ent, unhide HBO, unhide HN3']
      generalize cutS (entL b0 e1 s5 bo) = T at *
      go_upto_block 2 with (go_at_call 8; (with_reducible refine (unhide HEN).mono ?_); rintro e w10 ⟨g2, c2, rfl, ht, hb⟩; have HT := hide ht; have HB10 := hide hb; clear ht hb)
      have HA10 := hide (rowA_below (unhide HA) (below_then (unhide HBW) (below_then (unhide HB6) (unhide HB10))))
      have HN5 := hide (((unhide HB10).block _ (lt_of_get (unhide HN4))).trans (unhide HN4))
      have HO10 := hide (own_below (unhide HO6) (unhide HB10))
      have HQ10 := hide (((unhide HB10).block _ hql).trans (unhide HQ))
      have HB11 := hide (below_then (unhide HB6) (unhide HB10))
      clear x0 x1 x2 x3 hql HEN HQ HB6 HB10 HO6 HN4 HBa HBb HBc HOa HOb HOc HZa HZb HFW HOC HLM HBD HY y0 hlt0 HN3
      go_wp2
      go_loopw [9] (fun i wr => ∃ k m : Nat, k ≤ N ∧ i = .int .i64 k ∧ wr = w10.drewN m ∧ ∀ j, j < k → S.getD j zeroS = T.getD j zeroS) (fun i _ => N - (intOf i).toNat)
      case atStart => exact ⟨0, 0, Nat.zero_le _, rfl, rfl, fun j hj => absurd hj (by omega)⟩
      case round =>
        obtain ⟨k, m, hk, rfl, rfl, hall⟩ := hrel
        have HAL := hide hall
        have hq := heap_drewN (unhide HQ10) m
        have hn5 := heap_drewN (unhide HN5) m
        have HN6 := hide hn5
        have HOm := hide (own_below (unhide HO10) (below_drewN (Below.refl _ _) m))
        have HBm := hide (below_drewN (unhide HB11) m)
        clear hall
        by_cases hlt : k < N
        · obtain ⟨bA, oA, eA, hcA⟩ := (scsA_drewN (unhide HA10) m).range (k := k) (by have := unhide HNK; omega)
          obtain ⟨bT, oT, eT, hcT⟩ := (scsA_drewN (unhide HT) m).range (k := k) (by rw [unhide HEL]; exact hlt)
          cases eA
          cases eT
          have v1 : ∀ q, (ldS (.pointer (some ⟨g2, 0 + k * 64, none⟩))).run Try.prog ((w10.drewN m).drewN q) = .ok (.agg (bytes (T.getD k zeroS)).toArray) ((w10.drewN m).drewN q) := fun q => ldS_is g2 (0 + k * 64) _ _ (hcT k _ (getD_some' T k (by rw [unhide HEL]; exact hlt)))
          have v2 : ∀ q, (ldS (.pointer (some ⟨b, off + k * 64, none⟩))).run Try.prog ((w10.drewN m).drewN q) = .ok (.agg (bytes (S.getD k zeroS)).toArray) ((w10.drewN m).drewN q) := fun q => ldS_is b (off + k * 64) _ _ (hcA k _ (getD_some' S k (by have := unhide HNK; omega)))
          rw [Nat.zero_add] at v1
          have hlt' : (k : Int) < (N : Int) := by omega
          have hlt2 : (k : Int) < (S.length : Int) := by have := unhide HNK; omega
          have HDR : Hid (∀ q, (w10.drewN m).drewN q = w10.drewN (m + q)) := fun q => World.drewN_drewN _ _ _
          by_cases heq : T.getD k zeroS = S.getD k zeroS
          · have HNX : Hid (∀ j, j < k + 1 → S.getD j zeroS = T.getD j zeroS) := fun j hj => by
              by_cases hjk : j = k
              · rw [hjk, heq]
              · exact unhide HAL j (by omega)
            rw [heq] at v1
            generalize S.getD k zeroS = t at *
            generalize w10.drewN m = W at *
            clear hcA hcT heq
            go_wp2
            go_quiet (fail)
            go_wp2
            go_roundw
            case rel => exact ⟨k + 1, _, by omega, by go_num, unhide HDR _, unhide HNX⟩
            case measure => simp [intOf]; omega
          · have HNO := hide (unhide HN2 k (by rw [unhide HEL]; exact hlt) (fun e => heq e.symm))
            generalize S.getD k zeroS = t at *
            generalize T.getD k zeroS = t2 at *
            clear hcA hcT
            have z0 := (heap_cell hn5 0).1
            have z1 := (heap_cell hn5 1).1
            have z2 := (heap_cell hn5 2).1
            have z3 := (heap_cell hn5 3).1
            have z4 := (heap_cell hn5 4).1
            have z5 := (heap_cell hn5 5).1
            have f0 := (heap_cell hn5 0).2
            have f1 := (heap_cell hn5 1).2
            have f2 := (heap_cell hn5 2).2
            have f3 := (heap_cell hn5 3).2
            have f4 := (heap_cell hn5 4).2
            have f5 := (heap_cell hn5 5).2
            have HBW2 := hide (below_then (below_then (unhide HB0) (unhide HBW)) (unhide HBm))
            generalize w10.drewN m = W at *
            go_wp2
            go_quiet (fail)
            go_wp2
            exact ret_cell1 rfl rfl rfl (six_heap (heap_drewN (unhide HN6) _) _ _ _ _ _ _) Try.underlying37 rfl (by kernel_rfl) ⟨.inl ⟨unhide HNO, rfl⟩, six_below (below_drewN (unhide HBW2) _) (Nat.le_refl _) _ _ _ _ _ _⟩
        · obtain rfl : k = N := by omega
          have HSO := hide (unhide HSM (by have := unhide HL4; omega) (by rw [unhide HEL]; exact unhide HNK2) (fun j hj => unhide HAL j (by rw [unhide HEL] at hj; exact hj)))
          have x0 := (heap_cell hq 0).1
          have x1 := (heap_cell hq 1).1
          have x2 := (heap_cell hq 2).1
          have x3 := (heap_cell hq 3).1
          have z0 := (heap_cell hn5 0).1
          have z1 := (heap_cell hn5 1).1
          have z2 := (heap_cell hn5 2).1
          have z3 := (heap_cell hn5 3).1
          have z4 := (heap_cell hn5 4).1
          have z5 := (heap_cell hn5 5).1
          have f0 := (heap_cell hn5 0).2
          have f1 := (heap_cell hn5 1).2
          have f2 := (heap_cell hn5 2).2
          have f3 := (heap_cell hn5 3).2
          have f4 := (heap_cell hn5 4).2
          have f5 := (heap_cell hn5 5).2
          have HBW2 := hide (below_then (below_then (unhide HB0) (unhide HBW)) (unhide HBm))
          generalize w10.drewN m = W at *
          go_wp2
          have hbl := unhide HBO
          have htl := unhide HEL
          have hl0' := lt_of_get (unhide HN0)
          have hl1' := (unhide HBW).size
          exact ret_cell1 rfl rfl rfl (six_heap (unhide HN6) _ _ _ _ _ _) Try.underlying37 rfl (by kernel_rfl) ⟨.inr ⟨_, A5, c5, unhide HSO, by rw [hbl, htl], by rw [hbl]; exact own_mono (own_block_eq (unhide HOm) (fun g' hg' => six_block (by omega) _ _ _ _ _ _)) (by omega)⟩, six_below (unhide HBW2) (Nat.le_refl _) _ _ _ _ _ _⟩
end Go.Proofs.Ytfceileohkngnaa
