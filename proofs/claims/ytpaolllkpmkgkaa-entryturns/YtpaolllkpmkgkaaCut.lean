/- Contract: cut, the sectors of bytes. -/
import Derived.Test.YtpaolllkpmkgkaaChunk
import Derived.Test.YtpaolllkpmkgkaaLaws
import Derived.Maps.AppendAt
namespace Go.Proofs.Ytpaolllkpmkgkaa
open Go.RowKit Go.Shelf
set_option linter.unusedVariables false
attribute [local go_sem] Oper.semAt_some

theorem mark_any (i : Nat) (hi : i ≤ 100000) (w : World) : Calls Try.prog 60 #[.int .i64 i] w fun e w' => e = .returned (.int .u8 (markI i)) ∧ w' = w := by
  by_cases h : i = 0
  · subst h
    go_enter Try.func60, Try.ntmps60
    go_wp2
    go_ret
    exact ⟨rfl, rfl⟩
  · have h' : ¬ (i : Int) = 0 := by omega
    have hm : Hid (markI i = 119) := by show _ = _; unfold markI; rw [if_neg h]
    go_enter Try.func60, Try.ntmps60
    go_wp2
    go_ret
    exact ⟨ret_int (by rw [hm.out]), rfl⟩

theorem boxed_pushed {W4 w5 : World} {n₀ B : Nat} {t e : TypeId} {size : Nat} {v v' : Value} {k m : Nat} {xs ys : List Value} (hv : Boxed W4 B t v) (hte : t ≠ e) (hrow : W4.ownsRow n₀ e size v k xs) (hown' : w5.ownsRow n₀ e size v' m ys) (hgrow : W4.grownBy w5 v.ownBlock) (hn : n₀ ≤ W4.heap.size) (hB : n₀ ≤ B) :
    Boxed w5 B t v ∧ Boxed (w5.setCell ⟨B, 0, none⟩ v') B t v' ∧ (w5.setCell ⟨B, 0, none⟩ v').ownsRow n₀ e size v' m ys ∧ KeepsOthers W4 (w5.setCell ⟨B, 0, none⟩ v') ∧ Below n₀ W4 (w5.setCell ⟨B, 0, none⟩ v') ∧
      ∀ B' t' u, Boxed W4 B' t' u → t' ≠ e → B' ≠ B → Boxed (w5.setCell ⟨B, 0, none⟩ v') B' t' u := by
  have hv1 : Boxed w5 B t v := hv.kept hgrow (hv.not_row hte hrow)
  have hblk : ∀ j, v.ownBlock = some j → n₀ ≤ j ∧ ∃ cur, W4.heap[j]? = some (.cells cur e (0, 0)) := fun j hj => own_block hrow hj
  refine ⟨hv1, hv1.set v', hown'.kept (grownBy_setCell' w5 B v') (.inr (hv1.not_row hte hown').symm), ?_, ?_, ?_⟩
  · refine (KeepsOthers.of_grownBy hgrow fun j o ej hj => ?_).trans (KeepsOthers.setCell _ _ _)
    obtain ⟨_, cur, hc⟩ := hblk j ej
    rw [hc] at hj; cases hj; rfl
  · exact ((Below.refl n₀ W4).grown hgrow hn fun j ej => (hblk j ej).1).setCell (p := ⟨B, 0, none⟩) hB v'
  · intro B' t' u hb ht hne
    exact (hb.kept hgrow (hb.not_row ht hrow)).other hne v'
theorem boxed_below {W W' : World} {B : Nat} {t : TypeId} {v : Value} (h : Boxed W B t v) (hb : Below W.heap.size W W') : Boxed W' B t v := (hb.block B h.lt).trans h
theorem keeps_below {W W' : World} (hb : Below W.heap.size W W') : KeepsOthers W W' := ⟨hb.size, fun k o hk _ => (hb.block k (Array.getElem?_eq_some_iff.1 hk).1).trans hk⟩

set_option maxHeartbeats 1000000 in
theorem chunk_in (F : Fence) (n : Nat) (h25 : F.fn 59) (hro : F.round = none) (a : Option Addr) (len cap : Nat) (w : World) :
    CallsIn F n Try.prog 59 #[.slice a len cap, .int .i64 63] w fun e w' => e = .returned (.func (.func 76) #[] #[.pointer (some ⟨w.heap.size, 0, none⟩), .pointer (some ⟨w.heap.size + 1, 0, none⟩)]) ∧ w' = (w.alloc (.cells #[.slice a len cap] 23)).alloc (.cells #[.int .i64 63] 3) := by
  refine callsIn_of_wp Try.func59 rfl h25 ?_ hro
  simp only [Try.ntmps59, List.size_toArray, List.length_cons, List.length_nil, Nat.reduceAdd, Nat.reduceSub, Array.replicate_succ, Array.replicate_zero, List.push_toArray, List.append_toArray, List.nil_append, List.cons_append]
  gi_wp2
  go_ret
  exact ⟨rfl, rfl⟩

theorem chunk_stops (F : Fence) (n : Nat) (h38 : F.fn 76) (hro : F.round = none) (hn : 1 ≤ n) (Bs Bn b off len cap : Nat) (hlen : len ≤ 100000) (hcap : len ≤ cap) (w : World) (hb1 : Bs < w.heap.size) (hb2 : Bn < w.heap.size)
    (hc : w.cell? ⟨Bs, 0, none⟩ = some (.slice (some ⟨b, off, none⟩) len cap)) (hc2 : w.cell? ⟨Bn, 0, none⟩ = some (.int .i64 63)) :
    SeqStopsK F n Try.prog 76 #[.pointer (some ⟨Bs, 0, none⟩), .pointer (some ⟨Bn, 0, none⟩)] (fun k : Nat => #[pieceV b off len k]) (Two Bs Bn) (fun ys => ys = List.range (pieces len)) (fun _ => True) (pieces len) w := fun l J Jx W hW hA _ hY h0 => by
  have hc' := (hW.cell (p := ⟨Bs, 0, none⟩) hb1).trans hc
  have hc2' := (hW.cell (p := ⟨Bn, 0, none⟩) hb2).trans hc2
  have hp : pieces len = (len + 62) / 63 := rfl
  refine (chunk1_in F n h38 hro hn l Bs Bn b off len cap (pieces len) hlen hcap (by omega) (by omega) J Jx hY W hc' hc2' h0 ?_).mono ?_
  · intro pre W1 hJ
    exact hA pre W1 W1.drew none hJ ⟨rfl, rfl, rfl, Nat.le_refl _, fun _ _ _ => rfl⟩ (fun r e => by cases e)
  · rintro e W' ⟨he, hj | ⟨pre, hj⟩⟩
    · exact ⟨he, .inl ⟨_, rfl, hj⟩⟩
    · exact ⟨he, .inr ⟨pre, trivial, hj⟩⟩

set_option maxRecDepth 100000 in
set_option maxHeartbeats 2000000 in
theorem cut_any (b off cap : Nat) (bs : List Int) (w : World) (hB : Byt bs) (h1 : 0 < bs.length) (hl : bs.length ≤ 5000) (hcap : bs.length ≤ cap) (hb : BysA w (some ⟨b, off, none⟩) bs) :
    Calls Try.prog 41 #[.slice (some ⟨b, off, none⟩) bs.length cap] w fun e w' => ∃ v, e = .returned v ∧ w'.ownsRow w.heap.size 44 64 v (cutS bs).length (flatS (cutS bs)) ∧ Below w.heap.size w w' := by
  obtain ⟨i44, hi44, hz44'⟩ := Try.zero44
  obtain ⟨i44', hi44', hz0, hz1, hz2⟩ := info_parts Try.info44
  obtain rfl : i44' = i44 := by rw [hi44'] at hi44; exact (Option.some.inj hi44)
  clear hi44' hz0
  refine (callsIn_wide (n := 5)).1 ?_
  have HB := hide hB
  have HBS := hide hb
  obtain ⟨K, HK, hK1, hK2⟩ : ∃ K, Hid (K = pieces bs.length) ∧ bs.length ≤ 63 * K ∧ 63 * K < bs.length + 63 := ⟨_, rfl, by unfold pieces; omega, by unfold pieces; omega⟩
  clear hB hb
  refine callsIn_of_wp_marks Try.func41 rfl trivial ?_ rfl
  simp only [Try.ntmps41, List.size_toArray, List.length_cons, List.length_nil, Nat.reduceAdd, Nat.reduceSub, Array.replicate_succ, Array.replicate_zero, List.push_toArray, List.append_toArray, List.nil_append, List.cons_append]
  gi_wp2_with (first
    | (gi_at_make; refine wpListIn_make_own _ rfl _ _ 26 rfl w.heap.size 44 i44' (sv zeroS) 64 Try.underlying26 hi44 hz44' hz1 _ _ _ K rfl rfl (by omega) (by rw [hz2]; omega) (maxLen_ge _ (by omega)) (Nat.le_refl _) ?_; intro w1 hown1 hgrow1)
    | (refine ⟨trivial, ?_⟩; gi_at_call 59; refine (chunk_in Fence.wide _ trivial rfl _ _ _ _).mono ?_; rintro e w' ⟨rfl, rfl⟩))
  have hsz1 : w.heap.size ≤ w1.heap.size := hgrow1.size
  have hbel1 : Below w.heap.size w w1 := (Below.refl _ _).grown hgrow1 (Nat.le_refl _) (fun k e => by cases e)
  obtain ⟨w2, hw2⟩ : ∃ w2, w1.alloc (.cells #[.slice (some ⟨w.heap.size, 0, none⟩) 0 K] 26) = w2 := ⟨_, rfl⟩
  obtain ⟨w3, hw3⟩ : ∃ w3, (w2.alloc (.cells #[.slice (some ⟨b, off, none⟩) bs.length cap] 23)).alloc (.cells #[.int .i64 63] 3) = w3 := ⟨_, rfl⟩
  have hs2 : w2.heap.size = w1.heap.size + 1 := by rw [← hw2]; simp
  have hs3 : w3.heap.size = w1.heap.size + 3 := by rw [← hw3]; simp; omega
  have bO : Boxed w3 w1.heap.size 26 (.slice (some ⟨w.heap.size, 0, none⟩) 0 K) := by rw [← hw3, ← hw2]; exact ((Boxed.new w1 26 _).alloc _).alloc _
  have bS : Boxed w3 w2.heap.size 23 (.slice (some ⟨b, off, none⟩) bs.length cap) := by rw [← hw3]; exact (Boxed.new w2 23 _).alloc _
  have bN : Boxed w3 (w2.heap.size + 1) 3 (.int .i64 63) := by
    rw [← hw3]
    have := Boxed.new (w2.alloc (.cells #[.slice (some ⟨b, off, none⟩) bs.length cap] 23)) 3 (.int .i64 63)
    rwa [World.size_alloc] at this
  have hbel3 : Below w.heap.size w w3 := by
    rw [← hw3, ← hw2]
    exact below_alloc (below_alloc (below_alloc hbel1 _) _) _
  have hr3 : w3.ownsRow w.heap.size 44 64 (.slice (some ⟨w.heap.size, 0, none⟩) 0 K) 0 [] := by
    rw [← hw3, ← hw2]
    exact ((hown1.alloc _).alloc _).alloc _
  rw [hw2, hw3]
  rw [hs2] at bS bN
  have hblt : b < w.heap.size := by
    obtain ⟨b', off', e, hc⟩ := (unhide HBS) (by intro e; rw [e] at h1; simp at h1)
    cases e
    exact World.block_lt_of_cell? _ _ (hc 0 h1)
  have hbys : ∀ (W : World) (k : Nat), Below w.heap.size w W → BysA W (some ⟨b, off + 63 * k, none⟩) (chunk bs k) := by
    intro W k hW hne
    obtain ⟨b', off', e, hc⟩ := (unhide HBS) (by intro e; rw [e] at h1; simp at h1)
    cases e
    refine ⟨b, off + 63 * k, rfl, fun j hj => ?_⟩
    rw [chunk_len] at hj
    rw [chunk_getD, if_pos (by omega), Nat.add_assoc, hW.cell (p := ⟨b, off + (63 * k + j), none⟩) hblt]
    exact hc (63 * k + j) (by omega)
  have HY := hide hbys
  clear hbys
  have hstops := chunk_stops Fence.wide 4 trivial rfl (by omega) (w1.heap.size + 1) (w1.heap.size + 1 + 1) b off bs.length cap (by omega) hcap w3 (by omega) (by omega) bS.cell bN.cell
  have HKK := unhide HK
  rw [← HKK] at hstops
  clear HKK
  refine wpIn_rangeFunc_ownG rfl (by omega) (gf := 76) (lb := #[.pointer (some ⟨w1.heap.size + 1, 0, none⟩), .pointer (some ⟨w1.heap.size + 1 + 1, 0, none⟩)]) rfl trivial (enters_of Try.func76 (by kernel_rfl) rfl)
    hstops Two.trans
    (fun W l o o' hlt hl ho _ => ⟨(grownBy_putObj' W l o').block _ (by have := (Array.getElem?_eq_some_iff.1 hl).1; omega) (fun e => by cases e; omega), (grownBy_putObj' W l o').block _ (by have := (Array.getElem?_eq_some_iff.1 hl).1; omega) (fun e => by cases e; omega)⟩)
    (Below.refl _ _) (fun _ => rfl)
    (fun pre W => (∃ v, Boxed W w1.heap.size 26 v ∧ W.ownsRow w.heap.size 44 64 v (cutF bs pre).length (flatS (cutF bs pre)) ∧ True) ∧ Below w.heap.size w W ∧ Boxed W (w1.heap.size + 1) 23 (.slice (some ⟨b, off, none⟩) bs.length cap) ∧ Boxed W (w1.heap.size + 1 + 1) 3 (.int .i64 63))
    (fun _ _ _ => False)
    (OwnFrom.and (Own.from (holdsRow_own w.heap.size w1.heap.size 26 44 64 (fun pre => (cutF bs pre).length) (fun pre => flatS (cutF bs pre)) (fun _ _ => True)) _) (OwnFrom.and (ownFrom_below (Nat.le_refl _) (by omega)) (OwnFrom.and (Own.from (boxed_own _ _ (fun _ => _)) _) (Own.from (boxed_own _ _ (fun _ => _)) _))))
    (fun _ _ _ _ _ hs _ _ => hs)
    ⟨⟨_, bO, hr3, trivial⟩, hbel3, bS, bN⟩
    (fun k => { tmps := #[.slice (some ⟨b, off, none⟩) bs.length cap, undef, .slice none 0 0, .pointer (some ⟨w1.heap.size, 0, none⟩), pieceV b off bs.length k, undef, .slice (some ⟨b, off, none⟩) bs.length cap, .int .i64 bs.length, .int .i64 ((bs.length : Int) + 63), .int .i64 ((bs.length : Int) + 63 - 1), .int .i64 (((bs.length : Int) + 63 - 1) / 63), .slice (some ⟨w.heap.size, 0, none⟩) 0 K, .slice (some ⟨b, off, none⟩) bs.length cap,
      .func (.func 76) #[] #[.pointer (some ⟨w1.heap.size + 1, 0, none⟩), .pointer (some ⟨w1.heap.size + 1 + 1, 0, none⟩)], pieceV b off bs.length k, undef, undef, undef, undef, undef, undef, undef, undef, undef, undef, undef, undef], defers := [] }) ?assign ?body ?done ?stop
  case assign =>
    intro l x W K hK
    gi_wp2
    exact hK
  case body =>
    rintro l pre k W ⟨⟨v, hv, hrow, _⟩, hBW, hS, hN⟩ hlt
    have hpl := cutF_len bs pre
    obtain ⟨A, c, rfl⟩ : ∃ A c, v = .slice A pre.length c := by
      rw [hpl] at hrow
      rcases hrow.2 with ⟨rfl, h0⟩ | ⟨g, cap, cur, rfl, _⟩
      · exact ⟨none, 0, by rw [h0]⟩
      · exact ⟨_, cap, rfl⟩
    have hc := hv.cell
    have HR := hide hrow
    have hsW := hBW.size
    have HL := hide hpl
    have hpk : pieceV b off bs.length k = .slice (some ⟨b, off + 63 * k, none⟩) (chunk bs k).length (chunk bs k).length := by rw [chunk_len]; rfl
    rw [hpk]
    have hcl : (chunk bs k).length ≤ 63 := by rw [chunk_len]; omega
    clear hrow hpl hpk
    have hBl : w.heap.size ≤ w1.heap.size := hsz1
    gi_wp2_with (first
      | (refine ⟨trivial, ?_⟩; gi_at_call 60; refine (CallsIn.inRound l (callsIn_wide.2 (mark_any pre.length (by omega) _))).mono ?_; rintro e w' ⟨rfl, rfl⟩)
      | ((with_reducible refine wpListIn_build1 _ (markI pre.length) (markI_lim _) ?_ ?_); (focus rfl))
      | (with_reducible refine wpListIn_allocS ?_; intro W1 hg1 hs1 hS1; have HB1 := hide ((Below.refl _ w').grown hg1 (Nat.le_refl _) (fun k e => by cases e)))
      | ((with_reducible refine wpListIn_storeS _ _ w'.heap.size zeroS (mkS [markI pre.length]) ?_ ?_ hS1 ?_); (focus rfl); (focus rfl); intro W2 hg2 hS2; have HB2 := hide ((unhide HB1).grown hg2 (unhide HB1).size (fun k e => by cases e; exact Nat.le_refl _)))
      | (have hA2 := unhide HY W2 k (below_then hBW (unhide HB2)); have hB2 := chunk_byt (unhide HB) k; (with_reducible refine wpListIn_copyS _ _ w'.heap.size 63 (some ⟨b, off + 63 * k, none⟩) (chunk bs k).length (chunk bs k) (markI pre.length) hcl hB2 (markI_lim _) ?_ (chunk bs k).length ?_ ?_ hA2 hS2 ?_); (focus rfl); (focus rfl); (focus rfl); intro W3 hg3 hS3; have HB3 := hide ((unhide HB2).grown hg3 (unhide HB2).size (fun k e => by cases e; exact Nat.le_refl _)); have hc3 := (boxed_below hv (unhide HB3)).cell)
      | ((with_reducible refine wpListIn_loadS _ w'.heap.size 0 (secOf pre.length (chunk bs k)) ?_ (secs_range hS3) ?_); (focus rfl))
      | ((with_reducible refine wpListIn_bslS _ (secOf pre.length (chunk bs k)) ?_ ?_); (focus rfl); intro W4 hg4 hR4; have HB4 := hide ((unhide HB3).grown hg4 (unhide HB3).size (fun k e => by cases e)))
      | ((with_reducible refine wpListIn_appendS _ _ w.heap.size _ (cutF bs pre) [secOf pre.length (chunk bs k)] ?_ (own_below (unhide HR) (unhide HB4)) _ 1 1 rfl ?_ (by unfold ScsA; rw [flatS_one]; exact hR4) (by rw [unhide HL]; simp; omega) (by have := (unhide HB4).size; omega) ?_); (focus rfl); (focus rfl); intro v' W5 hown5 hgrow5; obtain ⟨hv5, hv6, hr6, hk6, hb6, hx6⟩ := boxed_pushed (boxed_below hv (unhide HB4)) (by decide) (own_below (unhide HR) (unhide HB4)) hown5 hgrow5 (by have := (unhide HB4).size; omega) hBl; have hc5 := hv5.cell; have hf5 := hv5.frozen; rw [List.length_append] at hown5; obtain ⟨g', cap', rfl⟩ := ownsRow_succ hown5))
    have hS6 := hx6 _ _ _ (boxed_below hS (unhide HB4)) (by decide) (by omega)
    have hN6 := hx6 _ _ _ (boxed_below hN (unhide HB4)) (by decide) (by omega)
    refine ⟨((keeps_below (unhide HB4)).trans hk6).from _, ⟨(show _ = _ from hS6).trans (show _ = _ from hS).symm, (show _ = _ from hN6).trans (show _ = _ from hN).symm⟩, ⟨_, hv6, ?_, trivial⟩, (below_then hBW (unhide HB4)).trans hb6, hS6, hN6⟩
    rw [cutF_snoc]
    exact hr6
  case done =>
    rintro D ys W hD rfl ⟨⟨v, hv, hrow, _⟩, hBW, hS, hN⟩ hK
    have hc := hv.cell
    have HR := hide hrow
    clear hrow
    gi_wp2
    refine ⟨by simp, .inl ⟨_, _, rfl, run_takeDeferred hK, ?_⟩⟩
    have hrow := unhide HR
    rw [unhide HK, cutF_all] at hrow
    exact ⟨_, results_tmp rfl _ _ _, v, rfl, ownsRow_putObj hrow _ hK rfl, hBW.trans (belowK_b (w := w) (Nat.le_refl _) W D _ _ (by omega) hK rfl rfl)⟩
  case stop =>
    rintro D c pre W _ _ h _
    exact h.elim
end Go.Proofs.Ytpaolllkpmkgkaa
