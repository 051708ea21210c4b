/- The reference's Append. -/
import Derived.Test.YtfceileohkngnaaRjr
import Derived.Test.YtfceileohkngnaaMH
namespace Go.Proofs.Ytfceileohkngnaa
open Go.RowKit
set_option linter.unusedVariables false
set_option maxRecDepth 4000

/-- Nothing has turned but the blocks of a reference's disk, its journal's own and, from base on, rows of its pending writes. -/
structure TurnR (base g gs j : Nat) (w w' : World) : Prop where
  os : w'.os = w.os
  tape : w'.tape = w.tape
  output : w'.output = w.output
  size : w.heap.size ≤ w'.heap.size
  block : ∀ b, b < w.heap.size → b ≠ g → b ≠ gs → b ≠ j → (b < base ∨ ∀ cur fr, w.heap[b]? ≠ some (.cells cur 117 fr)) → w'.heap[b]? = w.heap[b]?
theorem TurnR.of_turned {base g gs j : Nat} {w w' : World} (h : Turned 117 base g gs w w') : TurnR base g gs j w w' := ⟨h.os, h.tape, h.output, h.size, fun b h1 h2 h3 _ h5 => h.block b h1 h2 h3 h5⟩
theorem TurnR.of_below {base g gs j : Nat} {w w' : World} (h : Below w.heap.size w w') : TurnR base g gs j w w' := .of_turned (.of_below h)
theorem TurnR.trans {base g gs j : Nat} {a b c : World} (h : TurnR base g gs j a b) (k : TurnR base g gs j b c) : TurnR base g gs j a c := by
  refine ⟨k.os.trans h.os, k.tape.trans h.tape, k.output.trans h.output, Nat.le_trans h.size k.size, fun i hi h1 h2 h3 h4 => ?_⟩
  have e := h.block i hi h1 h2 h3 h4
  rw [k.block i (Nat.lt_of_lt_of_le hi h.size) h1 h2 h3 (by rw [e]; exact h4), e]
theorem TurnR.set {base g gs j : Nat} {w w' : World} (h : TurnR base g gs j w w') (i : Nat) (u : Value) : TurnR base g gs j w (w'.setCell ⟨j, i, none⟩ u) :=
  ⟨h.os, h.tape, h.output, by simp only [World.setCell, Array.size_modify]; exact h.size, fun b h1 h2 h3 h4 h5 => by rw [Below.heap_setCell _ _ _ _ (show b ≠ j from h4)]; exact h.block b h1 h2 h3 h4 h5⟩
theorem TurnR.below {base g gs j : Nat} {w w' : World} (h : TurnR base g gs j w w') (hb : base ≤ w.heap.size) (h1 : base ≤ g) (h2 : base ≤ gs) (h3 : base ≤ j) : Below base w w' :=
  ⟨h.os, h.tape, h.output, h.size, fun k hk => h.block k (by omega) (by omega) (by omega) (by omega) (.inl hk)⟩
theorem Rj.turned {base gd gs : Nat} {w w' : World} {j g fr tt : Nat} {ep : Int} {Al : Option Addr} {n cl en : Nat} (h : Rj w j g fr tt ep Al n cl en) (ht : Turned 117 base gd gs w w') (h1 : j ≠ gd) (h2 : j ≠ gs) : Rj w' j g fr tt ep Al n cl en := by
  unfold Rj at h ⊢
  rw [ht.block j (lt_of_get h) h1 h2 (.inr (fun cur fr' e => by rw [h] at e; cases e))]; exact h
theorem Rj.ne {w : World} {base g gs : Nat} {S : List Sct} {P : List (Nat × Sct)} (h : Dsk 74 117 w base g gs S P) {j g' fr tt : Nat} {ep : Int} {Al : Option Addr} {n cl en : Nat} (hj : Rj w j g' fr tt ep Al n cl en) : j ≠ g ∧ j ≠ gs := by
  obtain ⟨pv, hg, h1, h2, hS, hP, h3, h4⟩ := h
  unfold Rj at hj
  refine ⟨?_, ?_⟩
  · rintro rfl; rw [hj] at hg; cases hg
  · rintro rfl
    obtain ⟨⟨cur, hs, _⟩, _⟩ := hS
    rw [hj] at hs; cases hs

attribute [local go_sem ↓] ldS_of
/-- The loop of the reference's Append: all sectors are written. -/
theorem wr_over (S : List Sct) (at_ : Nat) (T : List Sct) (hl : at_ + T.length ≤ S.length) : flushS S (wrP at_ T T.length) = overS S at_ T := by
  refine List.ext_getElem? (fun i => ?_)
  by_cases hi : i < S.length
  · rw [over_get S at_ T hl i hi, flush_get _ _ _ hi, wr_read]
  · rw [List.getElem?_eq_none (by rw [flushS_len]; omega), List.getElem?_eq_none (by rw [over_len _ _ _ hl]; omega)]
theorem own_lit23 (w : World) : (w.alloc (.cells #[] 23)).ownsRow w.heap.size 23 1 (.slice (some ⟨w.heap.size, 0, none⟩) 0 0) 0 [] :=
  ⟨rfl, .inr ⟨_, 0, #[], rfl, Nat.le_refl _, heap_alloc_last _ _, Nat.le_refl _, Nat.zero_le _, rfl, rfl⟩⟩
theorem own_lit5 (w : World) : (w.alloc (.cells #[] 5)).ownsRow w.heap.size 5 1 (.slice (some ⟨w.heap.size, 0, none⟩) 0 0) ([] : List Int).length (([] : List Int).map (Value.int .u8)) :=
  ⟨rfl, .inr ⟨_, 0, #[], rfl, Nat.le_refl _, heap_alloc_last _ _, Nat.le_refl _, Nat.zero_le _, rfl, rfl⟩⟩

section
variable {ops : Array Oper} {rest : List Oper} {a : Act} {w : World} {Q : Exit → Act → World → Prop} {dst : Option Tmp} {ty : TypeId} {pos : String} {af : Array Edge}
theorem wpList_appendH (s x : Operand) (base : Nat) (v : Value) (n : Nat) (xs : List Value) (hs : a.eval s = v) (hown : w.ownsRow base 23 1 v n xs) (A : Option Addr) (m c : Nat) (vs : List Value) (hm : m = vs.length) (hx : a.eval x = .slice A m c) (hT : RowA w A vs) (h1 : ∀ u ∈ vs, u.oneCell' = true)
    (hlen : n + m ≤ 100000) (hbase : base ≤ w.heap.size)
    (h : ∀ v' w1, w1.ownsRow base 23 1 v' (n + m) (xs ++ vs) → w.grownBy w1 v.ownBlock → wpList Try.prog ops Q rest (a.put dst v') w1) :
    wpList Try.prog ops Q (⟨dst, .call { callee := .builtin .append, args := #[s, x], argTypes := #[58, 58] }, ty, pos, af, none⟩ :: rest) a w := by
  subst hm
  obtain ⟨i', hi', hz0, hz1, hz2⟩ := info_parts Try.info23
  obtain ⟨v', w', hr, h2, h3, h4⟩ := run_append_row (P := Try.prog) (w := w) base 58 ty 23 i' (.slice none 0 0) 1 24 Try.underlying58 hi' hz0 hz1 hz2 rfl (by omega) v n xs hown A vs.length c vs (by omega) hT h1 (by omega) (by omega) hbase
  refine wpList_val (v := v') (w' := w') rfl ?_ (h v' w' h2 h3)
  unfold execOp
  simp only [resolve, invoke, builtin, Sem.run_bind, Sem.run_pure, Result.andThen_ok, List.map_toArray, List.map_cons, List.map_nil, hs, hx, hr]
end

/-- The entries of a reference's journal in memory: a row of headers, each of a row of bytes. -/
def Ls (w : World) (Al : Option Addr) (hs : List Value) (L : List (List Int)) : Prop := (hs = [] ∨ ∃ gA cA, Al = some ⟨gA, 0, none⟩ ∧ Blk w 23 gA cA hs) ∧ HeadsB w hs L
theorem Ls.row {w : World} {Al : Option Addr} {hs : List Value} {L : List (List Int)} (h : Ls w Al hs L) : RowA w Al hs := by
  rcases h.1 with rfl | ⟨gA, cA, rfl, hb⟩
  · exact rowA_nil _ _
  · exact hb.row
theorem Ls.mono {w w' : World} {Al : Option Addr} {hs : List Value} {L : List (List Int)} (h : Ls w Al hs L) (k5 : ∀ g c vs, Blk w 5 g c vs → Blk w' 5 g c vs) (k23 : ∀ g c vs, Blk w 23 g c vs → Blk w' 23 g c vs) : Ls w' Al hs L :=
  ⟨h.1.imp id (fun ⟨gA, cA, e, hb⟩ => ⟨gA, cA, e, k23 _ _ _ hb⟩), headsB_mono k5 h.2⟩
theorem Ls.below {w w' : World} {Al : Option Addr} {hs : List Value} {L : List (List Int)} (h : Ls w Al hs L) (hb : Below w.heap.size w w') : Ls w' Al hs L := h.mono (fun g c vs k => k.below hb) (fun g c vs k => k.below hb)
theorem headsA_one : ∀ {w : World} {hs : List Value} {ps : List (List Int)}, HeadsA w hs ps → ∀ u ∈ hs, u.oneCell' = true
  | _, [], [], _, u, hu => by cases hu
  | w, h :: hs, p :: ps, ⟨⟨a, c, e, _⟩, r⟩, u, hu => by
    rcases List.mem_cons.1 hu with rfl | hu
    · subst e; rfl
    · exact headsA_one r u hu
theorem blk_turned {w w' : World} {base g gs : Nat} {S : List Sct} {P : List (Nat × Sct)} (hd : Dsk 74 117 w base g gs S P) (ht : Turned 117 base g gs w w') {e : TypeId} (h1 : e ≠ 74) (h2 : e ≠ 75) (h3 : e ≠ 117) : ∀ q c vs, Blk w e q c vs → Blk w' e q c vs := by
  intro q c vs hb
  have hlt := hb.lt
  obtain ⟨cur, hq, r⟩ := hb
  obtain ⟨pv, hg, _, _, hS, _⟩ := hd
  obtain ⟨⟨cur2, hs, _⟩, _⟩ := hS
  refine ⟨cur, ?_, r⟩
  rw [ht.block q hlt (by rintro rfl; rw [hq] at hg; cases hg; exact h1 rfl) (by rintro rfl; rw [hq] at hs; cases hs; exact h2 rfl) (.inr (fun c' f' e' => by rw [hq] at e'; cases e'; exact h3 rfl))]
  exact hq
theorem own_blk23 {w : World} {base : Nat} {v : Value} {n : Nat} {xs : List Value} (h : w.ownsRow base 23 1 v n xs) : ∃ A c, v = .slice A n c ∧ (xs = [] ∨ ∃ gA cA, A = some ⟨gA, 0, none⟩ ∧ Blk w 23 gA cA xs) := by
  obtain ⟨hl, h2⟩ := h
  rcases h2 with ⟨rfl, h0⟩ | ⟨g, cap, cur, rfl, hb, hg, hnc, hcm, hcs, htk⟩
  · exact ⟨none, 0, by rw [h0], .inl (List.length_eq_zero_iff.1 (by omega))⟩
  · exact ⟨_, cap, rfl, .inr ⟨g, cur.size, rfl, cur, hg, rfl, by rw [show xs.length = n * 1 by omega]; exact htk⟩⟩

theorem Dsk.set_o {tD tW t : TypeId} {w : World} {base g gs : Nat} {S : List Sct} {P : List (Nat × Sct)} (h : Dsk tD tW w base g gs S P) {j : Nat} {c : Array Value} (hj : w.heap[j]? = some (.cells c t (0, 0))) (h1 : t ≠ tD) (h2 : t ≠ 75) (h3 : t ≠ tW) (i : Nat) (u : Value) : Dsk tD tW (w.setCell ⟨j, i, none⟩ u) base g gs S P := by
  obtain ⟨pv, hg, b1, b2, hS, hP, b3, b4⟩ := h
  have n1 : g ≠ j := by rintro rfl; rw [hj] at hg; cases hg; exact h1 rfl
  have n2 : gs ≠ j := by
    rintro rfl
    obtain ⟨⟨cur, hs, _⟩, _⟩ := hS
    rw [hj] at hs; cases hs; exact h2 rfl
  refine ⟨pv, by rw [Below.heap_setCell _ _ _ _ n1]; exact hg, b1, b2, hS.of_block (Below.heap_setCell _ _ _ _ n2), own_of_block hP (fun k hk => Below.heap_setCell _ _ _ _ ?_), b3, b4⟩
  intro e
  obtain ⟨_, cur, hc⟩ := own_block hP hk
  rw [show k = j from e, hj] at hc
  cases hc
  exact h3 rfl
theorem blk_setj {w : World} {j : Nat} {c : Array Value} {t e : TypeId} (hj : w.heap[j]? = some (.cells c t (0, 0))) (h : t ≠ e) (i : Nat) (u : Value) : ∀ q k vs, Blk w e q k vs → Blk (w.setCell ⟨j, i, none⟩ u) e q k vs := by
  rintro q k vs ⟨cur, hq, r⟩
  refine ⟨cur, ?_, r⟩
  rw [Below.heap_setCell _ _ _ _ (show q ≠ j from by rintro rfl; rw [hq] at hj; cases hj; exact h rfl)]
  exact hq
theorem bysA_safe {w w' : World} {base g gs : Nat} {A : Option Addr} {b : List Int} (h : BysA w A b) (hs : b ≠ [] → ∀ q off, A = some ⟨q, off, none⟩ → Safe 117 w base g gs q) (ht : Turned 117 base g gs w w') : BysA w' A b := by
  by_cases h0 : b = []
  · subst h0; exact bysA_nil _ _
  · exact bys_rowA (rowA_block (rowA_bys h) (fun q off e => ht.block q (hs h0 q off e).1 (hs h0 q off e).2.1 (hs h0 q off e).2.2.1 (hs h0 q off e).2.2.2))
theorem safe_below {w w' : World} {base g gs q : Nat} (h : Safe 117 w base g gs q) (hb : Below w.heap.size w w') : Safe 117 w' base g gs q :=
  ⟨Nat.lt_of_lt_of_le h.1 hb.size, h.2.1, h.2.2.1, by rw [hb.block q h.1]; exact h.2.2.2⟩

set_option maxRecDepth 100000 in
set_option maxHeartbeats 8000000 in
theorem rappend_ok {base g gs : Nat} {S : List Sct} {w : World} (hd : Dsk 74 117 w base g gs S []) {j fr tt : Nat} {ep : Int} {Al : Option Addr} {L : List (List Int)} {cl en : Nat} (hj : Rj w j g fr tt ep Al L.length cl en) (A : Option Addr) (b : List Int) (hs : List Value) (hLs : Ls w Al hs L) (hAs : b ≠ [] → ∀ q off, A = some ⟨q, off, none⟩ → Safe 117 w base g gs q) (hep : 0 ≤ ep ∧ ep ≤ 4294967295) (h1 : en ≤ tt) (h2 : tt ≤ S.length) (hn : L.length ≤ 800) (cap : Nat) (hA : BysA w A b) (hB : Byt b) (hl : b.length ≤ 4000) (hfit : (b.length + 77) / 63 ≤ tt - en) :
    Calls Try.prog 22 #[.pointer (some ⟨j, 0, none⟩), .slice A b.length cap] w fun e w' => e = .returned (.int .i64 0) ∧ Dsk 74 117 w' base g gs (overS S en (entS ep L.length b)) [] ∧ (∃ Al' cl' hs', Rj w' j g fr tt ep Al' (L.length + 1) cl' (en + (entS ep L.length b).length) ∧ Ls w' Al' hs' (L ++ [b])) ∧ TurnR base g gs j w w' := by
  have hS : S.length ≤ 4096 := by obtain ⟨_, _, _, _, _, _, _, h'⟩ := hd; exact h'
  have hel := entS_len ep L.length b
  have HSE := hide (rsectors_ok hj hep h1 (by omega) (by omega) A b cap hA hB hl hfit)
  have HNE := hide (hj.ne hd)
  have HOV := hide (wr_over S en (entS ep L.length b) (by rw [hel]; omega))
  rw [← hel] at hfit
  have hT0 : 0 < (entS ep L.length b).length := by rw [hel]; omega
  generalize entS ep L.length b = T at *
  have HD := hide hd
  have HJ := hide hj
  have HLS := hide hLs
  have HAS := hide hAs
  have HA := hide hA
  have hdl := hd.lt
  have HDL := hide hdl
  have hlen : Hid (en + T.length ≤ S.length) := by show _ ≤ _; omega
  clear hd hj hLs hAs hA hB hel hdl hep
  go_enter Try.func22, Try.ntmps22
  go_wp2_with (go_at_call 34; (with_reducible refine (unhide HSE).mono ?_); rintro e w2 ⟨q, c, rfl, ho2, hb2⟩; have HO2 := hide ho2; have HB2 := hide hb2; clear ho2 hb2)
  have hq := own_block (unhide HO2) (g := q) rfl
  obtain ⟨hq1, cur, hq2⟩ := hq
  have HSF : Hid (Safe 117 w2 base g gs q) := ⟨lt_of_get hq2, by have := (unhide HDL).1; omega, by have := (unhide HDL).2.1; omega, .inr (fun cur' fr e => by rw [hq2] at e; cases e)⟩
  obtain ⟨A', c', e', hsc, hcc⟩ := own_scs (unhide HO2)
  cases e'
  have HSC := hide hsc
  have HD2 := hide ((unhide HD).below (unhide HB2))
  have HJ2 := hide ((unhide HJ).below (unhide HB2))
  clear hsc hq2
  go_loopw [7] (fun i wr => ∃ k : Nat, k ≤ T.length ∧ i = .int .i64 k ∧ Dsk 74 117 wr base g gs S (wrP en T k) ∧ Turned 117 base g gs w2 wr) (fun i _ => T.length - (intOf i).toNat)
  case atStart => exact ⟨0, Nat.zero_le _, rfl, unhide HD2, Turned.refl _ _ _ _ _⟩
  case round =>
    obtain ⟨k, hk, rfl, hdk, htk⟩ := hrel
    have HDK := hide hdk
    have HTK := hide htk
    have hjk := (unhide HJ2).turned htk (unhide HNE).1 (unhide HNE).2
    obtain ⟨c0, c1, c2, c3, c4, c5⟩ := hjk.cells
    have HJK := hide hjk
    clear hdk htk
    by_cases hlt : k < T.length
    · have hsk := getD_some' T k hlt
      obtain ⟨b', off', e', hr⟩ := (unhide HSC).range (k := k) hlt
      cases e'
      have hrk := range_of_block (hr k _ hsk) ((unhide HTK).block q (unhide HSF).1 (unhide HSF).2.1 (unhide HSF).2.2.1 (unhide HSF).2.2.2)
      rw [Nat.zero_add] at hrk
      have HWS := hide (wrP_succ en T k)
      have HWL := hide (wrP_len en T k)
      generalize T.getD k zeroS = sk at *
      have hld := ldS_is q (k * 64) sk wr.drew hrk
      have HWR : Hid (∀ W : World, Below wr.heap.size wr W → Calls Try.prog 51 #[.pointer (some ⟨g, 0, none⟩), .int .i64 ((en : Int) + (k : Int)), .agg (bytes sk).toArray] W fun e w' => e = .returned (.int .i64 0) ∧ Dsk 74 117 w' base g gs S (wrP en T k ++ [(en + k, sk)]) ∧ Turned 117 base g gs W w') := fun W hW => by
        have := rwrite_yes W ((unhide HDK).below hW) (en + k) (by have := unhide hlen; omega) sk (by rw [unhide HWL]; omega)
        rw [show ((en + k : Nat) : Int) = (en : Int) + (k : Int) by omega] at this
        exact this
      have hlt' : (k : Int) < (T.length : Int) := by omega
      have hwrap : IntKind.i64.wrap ((en : Int) + (k : Int)) = (en : Int) + (k : Int) := by rw [IntKind.wrap_i64]; omega
      have hjl := lt_of_get (unhide HJK)
      clear hr hrk hsk
      go_wp2
      go_region_with (go_at_call 51; (with_reducible refine (unhide HWR _ ?_).mono ?_); (focus (repeat (first | assumption | exact Below.refl _ _ | (with_reducible refine Below.drew ?_) | (with_reducible refine below_alloc ?_ _)))); rintro e w3 ⟨rfl, hd3, ht3⟩)
      all_goals
        go_wp2
        go_roundw
        case rel => exact ⟨k + 1, by omega, by go_num, by rw [unhide HWS]; exact hd3, (unhide HTK).trans ((Turned.of_below (Below.drew (Below.refl _ _))).trans ht3)⟩
        case measure => simp [intOf]; omega
    · obtain rfl : k = T.length := by omega
      have HWL := hide (wrP_len en T T.length)
      have HFL := hide (rflush_any wr (unhide HDK) (by rw [unhide HWL]; omega))
      rw [unhide HOV] at HFL
      have hL0 := headsB_len (unhide HLS).2
      have HL0 := hide hL0
      have hjl := lt_of_get (unhide HJK)
      clear hL0
      go_wp2_with (first
        | (go_at_call 52; (with_reducible refine (unhide HFL).mono ?_); rintro e w4 ⟨rfl, hd4, ht4⟩; have hj4 := (unhide HJK).turned ht4 (unhide HNE).1 (unhide HNE).2; have ht24 := (unhide HTK).trans ht4; have HT4 := hide ht24; have hL4 := ((unhide HLS).below (unhide HB2)).mono (blk_turned (unhide HD2) ht24 (by decide) (by decide) (by decide)) (blk_turned (unhide HD2) ht24 (by decide) (by decide) (by decide)); have HL4 := hide hL4; have HD4 := hide hd4; have HJ4 := hide hj4; have z4 := (heap_cell hj4 4).1; have z5 := (heap_cell hj4 5).1; have hjl4 := lt_of_get hj4; have HOL := hide (headsA_one (headsB_a hL4.2)); have HLA := hide (Ls.row (hL4.below (below_alloc (Below.refl _ _) (.cells #[] 23)))); have HY4 := hide (bysA_safe (bysA_below (unhide HA) (unhide HB2)) (fun h0 q' off' e' => safe_below (unhide HAS h0 q' off' e') (unhide HB2)) ht24); clear hd4 ht4 hj4 ht24 hL4)
        | ((with_reducible refine wpList_appendH _ _ w4.heap.size (.slice (some ⟨w4.heap.size, 0, none⟩) 0 0) 0 [] ?_ (own_lit23 w4) Al L.length cl hs ?_ ?_ (unhide HLA) (unhide HOL) ?_ ?_ ?_); (focus rfl); (focus (exact (unhide HL0).symm)); (focus rfl); (focus omega); (focus (simp)); intro v6 w6 ho6 hg6; have HB6 := hide ((below_alloc (Below.refl w4.heap.size w4) (.cells #[] 23)).grown hg6 (by simp) (fun j' hj' => by simp [Value.ownBlock] at hj'; omega)); have HO6 := hide ho6; have HY6 := hide (bysA_alloc (bysA_below (unhide HY4) (unhide HB6)) (.cells #[] 5)); clear ho6 hg6)
        | ((with_reducible refine wpList_appendB _ _ w6.heap.size (.slice (some ⟨w6.heap.size, 0, none⟩) 0 0) [] b ?_ (own_lit5 w6) A b.length cap ?_ ?_ (unhide HY6) ?_ ?_ ?_); (focus rfl); (focus rfl); (focus rfl); (focus (simp; omega)); (focus (simp)); intro v7 w7 ho7 hg7; rw [List.nil_append] at ho7; obtain ⟨A7, c7, rfl, _, _⟩ := own_bys ho7; have HB7 := hide ((below_alloc (Below.refl w6.heap.size w6) (.cells #[] 5)).grown hg7 (by simp) (fun j' hj' => by simp [Value.ownBlock] at hj'; omega)); have HO7 := hide ho7; have HO67 := hide (own_below (unhide HO6) (below_alloc (unhide HB7) (.cells #[.slice A7 b.length c7] 23))); clear ho7 hg7)
        | ((with_reducible refine wpList_appendH _ _ w4.heap.size v6 (0 + L.length) ([] ++ hs) ?_ (unhide HO67) (some ⟨w7.heap.size, 0, none⟩) 1 1 [.slice A7 b.length c7] ?_ ?_ ?_ ?_ ?_ ?_ ?_); (focus rfl); (focus rfl); (focus rfl); (focus (exact fun _ => ⟨_, _, rfl, fun j' u' hu' => by rw [Nat.zero_add, cell_at _ _ _ _ _ _ rfl]; simpa using hu'⟩)); (focus (intro u hu; rw [List.mem_singleton] at hu; subst hu; rfl)); (focus omega); (focus (exact (below_alloc (below_then (unhide HB6) (unhide HB7)) _).size)); intro v8 w8 ho8 hg8; have hb8 := (below_alloc (below_then (unhide HB6) (unhide HB7)) (.cells #[.slice A7 b.length c7] 23)).grown hg8 (below_alloc (below_then (unhide HB6) (unhide HB7)) (.cells #[.slice A7 b.length c7] 23)).size (fun j' hj' => (own_block (unhide HO67) hj').1); have HB8 := hide hb8; have hn7 : HeadsB w8 [.slice A7 b.length c7] [b] := headsB_mono (blk_grown (unhide HO67) hg8) (headsB_below (below_alloc (Below.refl _ _) (.cells #[.slice A7 b.length c7] 23)) (headsB_own (unhide HO7))); obtain ⟨A8, c8, e8, hk8⟩ := own_blk23 ho8; subst e8; have HN8 := hide (show Ls w8 A8 (hs ++ [.slice A7 b.length c7]) (L ++ [b]) from ⟨by simpa using hk8, headsB_app ((unhide HL4).below hb8).2 hn7⟩); have hj8 := (unhide HJ4).below hb8; have HJ8 := hide hj8; have m5 := (heap_cell hj8 5).1; have m4 := (heap_cell hj8 4).1; have n5 := (heap_cell hj8 5).2; have n4 := (heap_cell hj8 4).2; have hjl8 := lt_of_get hj8; clear ho8 hg8 hn7 hk8 hj8 hb8))
      go_ret
      have s1 := heap_set (unhide HJ8) 4 (.slice A8 (L.length + 1) c8)
      refine ⟨rfl, ?_, ⟨A8, c8, hs ++ [.slice A7 b.length c7], ?_, ?_⟩, ?_⟩
      · exact (((unhide HD4).below (unhide HB8)).set_o (unhide HJ8) (by decide) (by decide) (by decide) _ _).set_o s1 (by decide) (by decide) (by decide) _ _
      · unfold Rj
        exact heap_set s1 5 (.int .i64 ((en : Int) + (T.length : Int)))
      · exact ((unhide HN8).mono (blk_setj (unhide HJ8) (by decide) _ _) (blk_setj (unhide HJ8) (by decide) _ _)).mono (blk_setj s1 (by decide) _ _) (blk_setj s1 (by decide) _ _)
      · exact ((((TurnR.of_below (unhide HB2)).trans (.of_turned (unhide HT4))).trans (.of_below (unhide HB8))).set _ _).set _ _
end Go.Proofs.Ytfceileohkngnaa
