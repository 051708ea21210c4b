/- The reference's Encode. -/
import Derived.Test.YthonngnmdciheaaEnc
import Derived.Test.YthonngnmdciheaaRg
namespace Go.Proofs.Ythonngnmdciheaa
open Go.RowKit
set_option linter.unusedVariables false
theorem own_rowS {w : World} {base : Nat} {a : Addr} {m n c : Nat} {xs : List Value} (h : w.ownsRow base 5 1 (.slice (some a) m c) n xs) : RowA w (some a) xs := by
  obtain ⟨A, cap, he, hr⟩ := own_row1 h
  cases he
  exact hr
theorem rbytes_own (n : Nat) (w : World) : Calls Try.prog 25 #[.int .u64 n] w fun e w' => ∃ N, e = .returned (.slice (some ⟨N, 0, none⟩) 6 6) ∧ w'.ownsRow w.heap.size 5 1 (.slice (some ⟨N, 0, none⟩) 6 6) 6 (u8s (sixL n)) ∧ Below w.heap.size w w' :=
  (rbytes_any n w).mono fun e w' ⟨he, hw⟩ => by
    subst hw
    exact ⟨_, he, ⟨rfl, .inr ⟨_, 6, lay n 6, rfl, Nat.le_refl _, heap_alloc_new _ _, Nat.le_refl _, by decide, rfl, rfl⟩⟩, below_alloc (Below.refl _ _) _⟩
theorem rencode_no (f : Fr) (hf : f.Fit) (hg : goodF f = false) (A : Option Addr) (c : Nat) (w : World) : Calls Try.prog 10 #[.agg #[.int .u64 (f.dst : Int), .int .u64 (f.src : Int), .bool f.tag, .int .i64 f.prio, .int .i64 f.vid, .int .i64 f.kind, .slice A f.bs.length c]] w fun e w' => EncO e [] 11 w w' := by
  have G := hide (fun W => rfgood_any f hf A c W)
  rw [hg] at G
  have HB : Hid (Below w.heap.size w (w.alloc (.cells #[.int .u64 (f.dst : Int), .int .u64 (f.src : Int), .bool f.tag, .int .i64 f.prio, .int .i64 f.vid, .int .i64 f.kind, .slice A f.bs.length c] 25))) := hide (below_alloc (Below.refl _ _) _)
  go_enter Try.func10, Try.ntmps10
  go_wp2_with (go_at_call 14; (with_reducible refine (unhide G _).mono ?_); rintro e w1 ⟨rfl, hb1⟩; have HB1 := hide hb1; clear hb1)
  go_ret2
  exact ⟨none, 0, rfl, rowA_nil _ _, below_then (unhide HB) (unhide HB1), Nat.le_refl _, Nat.zero_le _⟩
set_option maxHeartbeats 8000000 in
theorem rencode_yes (f : Fr) (hf : f.Fit) (hg : goodF f = true) (A : Option Addr) (c : Nat) (w : World) (hA : RowA w A (u8s f.bs)) : Calls Try.prog 10 #[.agg #[.int .u64 (f.dst : Int), .int .u64 (f.src : Int), .bool f.tag, .int .i64 f.prio, .int .i64 f.vid, .int .i64 f.kind, .slice A f.bs.length c]] w fun e w' => EncO e (encB f) 0 w w' := by
  obtain ⟨p1, p2, p3, p4, _, _⟩ := goodF_parts f hg
  have G := hide (fun W => rfgood_any f hf A c W)
  rw [hg] at G
  have KK := hide (fun W => rtwo_row' f.kind.toNat (by omega) W)
  rw [show ((f.kind.toNat : Nat) : Int) = f.kind by omega] at KK
  have HB : Hid (Below w.heap.size w (w.alloc (.cells #[.int .u64 (f.dst : Int), .int .u64 (f.src : Int), .bool f.tag, .int .i64 f.prio, .int .i64 f.vid, .int .i64 f.kind, .slice A f.bs.length c] 25))) := hide (below_alloc (Below.refl _ _) _)
  have HA := hide (fun W (hW : Below w.heap.size w W) => rowA_below hA hW)
  have BD := hide (fun W => rbytes_own f.dst W)
  have BS := hide (fun W => rbytes_own f.src W)
  have HX : Hid ((w.alloc (.cells #[.int .u64 (f.dst : Int), .int .u64 (f.src : Int), .bool f.tag, .int .i64 f.prio, .int .i64 f.vid, .int .i64 f.kind, .slice A f.bs.length c] 25)).heap[w.heap.size]? = some (.cells #[.int .u64 (f.dst : Int), .int .u64 (f.src : Int), .bool f.tag, .int .i64 f.prio, .int .i64 f.vid, .int .i64 f.kind, .slice A f.bs.length c] 25 (0, 0))) := hide (heap_alloc_new _ _)
  have HX1 := hide (fun w1 (h : Below (w.alloc (.cells #[.int .u64 (f.dst : Int), .int .u64 (f.src : Int), .bool f.tag, .int .i64 f.prio, .int .i64 f.vid, .int .i64 f.kind, .slice A f.bs.length c] 25)).heap.size (w.alloc (.cells #[.int .u64 (f.dst : Int), .int .u64 (f.src : Int), .bool f.tag, .int .i64 f.prio, .int .i64 f.vid, .int .i64 f.kind, .slice A f.bs.length c] 25)) w1) => heap_keep (unhide HX) h)
  obtain ⟨i0, hi, hz0, hz1, hz2⟩ := i5
  have P1 := hide p1
  clear p1 hA
  go_enter Try.func10, Try.ntmps10
  go_wp2_with (go_at_call 14; (with_reducible refine (unhide G _).mono ?_); rintro e w1 ⟨rfl, hb1⟩; have HC1 := hide (unhide HX1 _ hb1); have HB1 := hide hb1; clear hb1)
  have HSK := hide (fr_keep (unhide HC1))
  have HB1' := hide (below_then (unhide HB) (unhide HB1))
  go_cut [4] from 5 (fun va w' => ∃ g d, va = .slice (some ⟨g, 0, none⟩) 12 d ∧ w'.ownsRow w1.heap.size 5 1 (.slice (some ⟨g, 0, none⟩) 12 d) 12 (u8s (sixL f.dst ++ sixL f.src)) ∧ Below w1.heap.size w1 w')
  case first =>
    go_region_held3 (fun W => Below w1.heap.size w1 W ∧ W.cell? ⟨w.heap.size, 0, none⟩ = some (.int .u64 (f.dst : Int)) ∧ W.cell? ⟨w.heap.size, 1, none⟩ = some (.int .u64 (f.src : Int)))
      ((go_split_ands; refine (fun hW => ⟨hW, (unhide HSK _ hW).2.1, (unhide HSK _ hW).2.2.1⟩ : ∀ {W}, Below w1.heap.size w1 W → Below w1.heap.size w1 W ∧ W.cell? ⟨w.heap.size, 0, none⟩ = some (.int .u64 (f.dst : Int)) ∧ W.cell? ⟨w.heap.size, 1, none⟩ = some (.int .u64 (f.src : Int))) ?_; (repeat (first | (with_reducible assumption) | (with_reducible exact Below.refl _ _) | (with_reducible refine Below.drew ?_) | (with_reducible refine below_drewN ?_ _) | (with_reducible refine below_alloc ?_ _)))))
      (first
        | (go_at_call 25; (with_reducible refine (unhide BD _).mono ?_); rintro e wa ⟨N1, rfl, hr1, hba⟩; have HR1 := hide hr1; have HA1 := hide (below_then (by (repeat (first | (with_reducible assumption) | (with_reducible exact Below.refl _ _) | (with_reducible refine Below.drew ?_) | (with_reducible refine below_drewN ?_ _) | (with_reducible refine below_alloc ?_ _))) : Below w1.heap.size w1 _) hba); have hba' := unhide HA1; clear hr1 hba)
        | (go_at_call 25; (with_reducible refine (unhide BS _).mono ?_); rintro e wb ⟨N2, rfl, hr2, hbb⟩; have HR2 := hide (own_rowS hr2); have HR3 := hide (own_below (unhide HR1) (below_then (by (repeat (first | (with_reducible assumption) | (with_reducible exact Below.refl _ _) | (with_reducible refine Below.drew ?_) | (with_reducible refine below_drewN ?_ _) | (with_reducible refine below_alloc ?_ _))) : Below wa.heap.size wa _) hbb)); have HA2 := hide (below_then (by (repeat (first | (with_reducible assumption) | (with_reducible exact Below.refl _ _) | (with_reducible refine Below.drew ?_) | (with_reducible refine below_drewN ?_ _) | (with_reducible refine below_alloc ?_ _))) : Below w1.heap.size w1 _) hbb); have hbb' := unhide HA2; clear hr2 hbb)
        | (refine step_append_row rfl _ _ 23 rfl w1.heap.size 5 i0 (.int .u8 0) 1 1 Try.underlying23 hi hz0 hz1 hz2 rfl (by decide) (by decide) _ 6 (u8s (sixL f.dst)) rfl (unhide HR3) (some ⟨N2, 0, none⟩) 6 6 (u8s (sixL f.src)) rfl rfl (unhide HR2) (u8s_one _) (by decide) ((unhide HA2).size) ?_; intro v5 w5 h2 h3 _; rw [← u8s_app] at h2; obtain ⟨g5, d5, rfl, _⟩ := own_blk h2 (by decide); have HO := hide h2; have HO5 := hide (below_base (unhide HA2) h3 (fun k e => ((unhide HR3).lt k e).1)); have hbe := unhide HO5; clear h2 h3))
    all_goals
      go_wp2
      go_meet
      case rel =>
        exact ⟨g5, d5, rfl, unhide HO, unhide HO5⟩
  case rest =>
    obtain ⟨g, d, rfl, ho, hb2⟩ := hcut
    have HO := hide ho
    have HBc := hide hb2
    have HC2 := hide (heap_keep (unhide HC1) hb2)
    clear ho hb2
    cases ht : f.tag with
    | false =>
      have hL : tagB f = [] := by simp [tagB, ht]
      rw [ht] at HC2
      obtain ⟨q0, q1, q2, q3, q4, q5, q6⟩ : wc.cell? ⟨w.heap.size, 0, none⟩ = some (.int .u64 (f.dst : Int)) ∧ wc.cell? ⟨w.heap.size, 1, none⟩ = some (.int .u64 (f.src : Int)) ∧ wc.cell? ⟨w.heap.size, 2, none⟩ = some (.bool false) ∧ wc.cell? ⟨w.heap.size, 3, none⟩ = some (.int .i64 f.prio) ∧ wc.cell? ⟨w.heap.size, 4, none⟩ = some (.int .i64 f.vid) ∧ wc.cell? ⟨w.heap.size, 5, none⟩ = some (.int .i64 f.kind) ∧ wc.cell? ⟨w.heap.size, 6, none⟩ = some (.slice A f.bs.length c) := ⟨(heap_cell (unhide HC2) 0).1, (heap_cell (unhide HC2) 1).1, (heap_cell (unhide HC2) 2).1, (heap_cell (unhide HC2) 3).1, (heap_cell (unhide HC2) 4).1, (heap_cell (unhide HC2) 5).1, (heap_cell (unhide HC2) 6).1⟩
      have hE : (sixL f.dst ++ sixL f.src) ++ twoB f.kind.toNat ++ f.bs = encB f := by simp [encB, hL]
      have hbc := unhide HBc
      go_wp2
      go_region_held3 (fun W => Below w1.heap.size w1 W ∧ W.cell? ⟨w.heap.size, 5, none⟩ = some (.int .i64 f.kind) ∧ W.cell? ⟨w.heap.size, 6, none⟩ = some (.slice A f.bs.length c))
        ((go_split_ands; refine (fun hW => ⟨hW, (unhide HSK _ hW).2.2.2.2.2.2.1, (unhide HSK _ hW).2.2.2.2.2.2.2⟩ : ∀ {W}, Below w1.heap.size w1 W → Below w1.heap.size w1 W ∧ W.cell? ⟨w.heap.size, 5, none⟩ = some (.int .i64 f.kind) ∧ W.cell? ⟨w.heap.size, 6, none⟩ = some (.slice A f.bs.length c)) ?_; (repeat (first | (with_reducible assumption) | (with_reducible exact Below.refl _ _) | (with_reducible refine Below.drew ?_) | (with_reducible refine below_drewN ?_ _) | (with_reducible refine below_alloc ?_ _)))))
        (first
          | (go_at_call 26; (with_reducible refine (unhide KK _).mono ?_); rintro e wa ⟨N1, rfl, hr1, hba⟩; have HR1 := hide hr1; have HA1 := hide (below_then (by (repeat (first | (with_reducible assumption) | (with_reducible exact Below.refl _ _) | (with_reducible refine Below.drew ?_) | (with_reducible refine below_drewN ?_ _) | (with_reducible refine below_alloc ?_ _))) : Below w1.heap.size w1 _) hba); have hba2 := unhide HA1; have HO8 := hide (own_below (unhide HO) (below_then (by (repeat (first | (with_reducible assumption) | (with_reducible exact Below.refl _ _) | (with_reducible refine Below.drew ?_) | (with_reducible refine below_drewN ?_ _) | (with_reducible refine below_alloc ?_ _))) : Below wc.heap.size wc _) hba)); clear hr1 hba)
          | (refine step_append_row rfl (.tmp 28) (.tmp 31) 23 rfl w1.heap.size 5 i0 (.int .u8 0) 1 1 Try.underlying23 hi hz0 hz1 hz2 rfl (by decide) (by decide) _ 12 (u8s (sixL f.dst ++ sixL f.src)) rfl (own_below (unhide HO8) (by (repeat (first | (with_reducible assumption) | (with_reducible exact Below.refl _ _) | (with_reducible refine Below.drew ?_) | (with_reducible refine below_drewN ?_ _) | (with_reducible refine below_alloc ?_ _))) : Below wa.heap.size wa _)) _ 2 _ (u8s (twoB f.kind.toNat)) rfl (by rw [u8s_len]; first | rfl | (simp; done)) (rowA_below (unhide HR1) (by (repeat (first | (with_reducible assumption) | (with_reducible exact Below.refl _ _) | (with_reducible refine Below.drew ?_) | (with_reducible refine below_drewN ?_ _) | (with_reducible refine below_alloc ?_ _))) : Below wa.heap.size wa _)) (u8s_one _) (by omega) (Below.size (by (repeat (first | (with_reducible assumption) | (with_reducible exact Below.refl _ _) | (with_reducible refine Below.drew ?_) | (with_reducible refine below_drewN ?_ _) | (with_reducible refine below_alloc ?_ _))) : Below w1.heap.size w1 _)) ?_; intro v5 w5 h2 h3 _; rw [← u8s_app] at h2; obtain ⟨g5, d5, rfl, _⟩ := own_blk h2 (by omega); have HO5 := hide h2; have HB5 := hide (below_base (by (repeat (first | (with_reducible assumption) | (with_reducible exact Below.refl _ _) | (with_reducible refine Below.drew ?_) | (with_reducible refine below_drewN ?_ _) | (with_reducible refine below_alloc ?_ _))) : Below w1.heap.size w1 _) h3 (fun k e => ((unhide HO8).lt k e).1)); have hb5 := unhide HB5; clear h2 h3)
          | (refine step_append_row rfl (.tmp 32) (.tmp 34) 23 rfl w1.heap.size 5 i0 (.int .u8 0) 1 1 Try.underlying23 hi hz0 hz1 hz2 rfl (by decide) (by decide) _ 14 (u8s ((sixL f.dst ++ sixL f.src) ++ twoB f.kind.toNat)) rfl (own_below (unhide HO5) (by (repeat (first | (with_reducible assumption) | (with_reducible exact Below.refl _ _) | (with_reducible refine Below.drew ?_) | (with_reducible refine below_drewN ?_ _) | (with_reducible refine below_alloc ?_ _))) : Below w5.heap.size w5 _)) _ f.bs.length _ (u8s f.bs) rfl (by rw [u8s_len]; first | rfl | (simp; done)) (unhide HA _ (below_then (unhide HB1') (by (repeat (first | (with_reducible assumption) | (with_reducible exact Below.refl _ _) | (with_reducible refine Below.drew ?_) | (with_reducible refine below_drewN ?_ _) | (with_reducible refine below_alloc ?_ _))) : Below w1.heap.size w1 _))) (u8s_one _) (by omega) (Below.size (by (repeat (first | (with_reducible assumption) | (with_reducible exact Below.refl _ _) | (with_reducible refine Below.drew ?_) | (with_reducible refine below_drewN ?_ _) | (with_reducible refine below_alloc ?_ _))) : Below w1.heap.size w1 _)) ?_; intro v6 w6 h2 h3 _; rw [← u8s_app] at h2; obtain ⟨g6, d6, rfl, _, hd1, hd2, _⟩ := own_blk h2 (by omega); have HD1 := hide hd1; have HD2 := hide hd2; clear hd1 hd2; have HO6 := hide h2; have HB6 := hide (below_base (by (repeat (first | (with_reducible assumption) | (with_reducible exact Below.refl _ _) | (with_reducible refine Below.drew ?_) | (with_reducible refine below_drewN ?_ _) | (with_reducible refine below_alloc ?_ _))) : Below w1.heap.size w1 _) h3 (fun k e => ((unhide HO5).lt k e).1)); have hb6 := unhide HB6; clear h2 h3))
      all_goals
        go_wp2
        go_ret2
        refine ⟨some ⟨g6, 0, none⟩, d6, ?_, ?_, below_then (unhide HB1') (unhide HB6), ?_, unhide HD2⟩
        · rw [show (encB f).length = 14 + f.bs.length by simp [encB, hL, twoB, sixL]; omega]; rfl
        · have h := (own_rowS (unhide HO6)); rw [hE] at h; exact h
        · have h := unhide HD1; rw [show (encB f).length = 14 + f.bs.length by simp [encB, hL, twoB, sixL]; omega]; exact h
    | true =>
      rw [ht] at HC2
      have hb : (0 ≤ f.prio ∧ f.prio ≤ 7) ∧ 0 ≤ f.vid ∧ f.vid ≤ 4095 := by
        have := unhide P1; simp [tagF, ht] at this; omega
      obtain ⟨⟨hp1, hp2⟩, hv1, hv2⟩ := hb
      have hL : tagB f = 129 :: 0 :: twoB (tciN f) := by simp [tagB, ht]
      have hn : tciN f < 65536 := by unfold tciN; omega
      have e1 : ((tciN f : Nat) : Int) = f.prio * 8192 + f.vid := by unfold tciN; omega
      have hw1 : IntKind.i64.wrap (f.prio * 8192) = f.prio * 8192 := by rw [IntKind.wrap_i64]; omega
      have hw2 : IntKind.i64.wrap (f.prio * 8192 + f.vid) = f.prio * 8192 + f.vid := by rw [IntKind.wrap_i64]; omega
      have K2 := hide (fun W => rtwo_row' (tciN f) hn W)
      rw [e1] at K2
      have q2 : wc.cell? ⟨w.heap.size, 2, none⟩ = some (.bool true) := (heap_cell (unhide HC2) 2).1
      go_wp2
      go_cut [4] from 17 (fun va w' => ∃ g d, va = .slice (some ⟨g, 0, none⟩) 16 d ∧ w'.ownsRow w1.heap.size 5 1 (.slice (some ⟨g, 0, none⟩) 16 d) 16 (u8s (sixL f.dst ++ sixL f.src ++ tagB f)) ∧ Below w1.heap.size w1 w')
      case first =>
        have hbc := unhide HBc
        go_region_held3 (fun W => Below w1.heap.size w1 W ∧ W.cell? ⟨w.heap.size, 3, none⟩ = some (.int .i64 f.prio) ∧ W.cell? ⟨w.heap.size, 4, none⟩ = some (.int .i64 f.vid))
          ((go_split_ands; refine (fun hW => ⟨hW, (unhide HSK _ hW).2.2.2.2.1, (unhide HSK _ hW).2.2.2.2.2.1⟩ : ∀ {W}, Below w1.heap.size w1 W → Below w1.heap.size w1 W ∧ W.cell? ⟨w.heap.size, 3, none⟩ = some (.int .i64 f.prio) ∧ W.cell? ⟨w.heap.size, 4, none⟩ = some (.int .i64 f.vid)) ?_; (repeat (first | (with_reducible assumption) | (with_reducible exact Below.refl _ _) | (with_reducible refine Below.drew ?_) | (with_reducible refine below_drewN ?_ _) | (with_reducible refine below_alloc ?_ _)))))
          (first
            | (refine step_append_row rfl (.tmp 17) (.tmp 18) 23 rfl w1.heap.size 5 i0 (.int .u8 0) 1 1 Try.underlying23 hi hz0 hz1 hz2 rfl (by decide) (by decide) _ 12 (u8s (sixL f.dst ++ sixL f.src)) rfl (own_below (unhide HO) (by (repeat (first | (with_reducible assumption) | (with_reducible exact Below.refl _ _) | (with_reducible refine Below.drew ?_) | (with_reducible refine below_drewN ?_ _) | (with_reducible refine below_alloc ?_ _))) : Below wc.heap.size wc _)) _ 2 _ (u8s [129, 0]) rfl (by rw [u8s_len]; rfl) (by first | exact rowA_drew (two_row _ _ rfl) | exact two_row _ _ rfl) (u8s_one _) (by omega) (Below.size (by (repeat (first | (with_reducible assumption) | (with_reducible exact Below.refl _ _) | (with_reducible refine Below.drew ?_) | (with_reducible refine below_drewN ?_ _) | (with_reducible refine below_alloc ?_ _))) : Below w1.heap.size w1 _)) ?_; intro v5 w5 h2 h3 _; rw [← u8s_app] at h2; obtain ⟨g5, d5, rfl, _⟩ := own_blk h2 (by decide); have HO5 := hide h2; have HB5 := hide (below_base (by (repeat (first | (with_reducible assumption) | (with_reducible exact Below.refl _ _) | (with_reducible refine Below.drew ?_) | (with_reducible refine below_drewN ?_ _) | (with_reducible refine below_alloc ?_ _))) : Below w1.heap.size w1 _) h3 (fun k e => ((unhide HO).lt k e).1)); have hb5 := unhide HB5; clear h2 h3)
            | (go_at_call 26; (with_reducible refine (unhide K2 _).mono ?_); rintro e wa ⟨N1, rfl, hr1, hba⟩; have HR1 := hide hr1; have HA1 := hide (below_then (by (repeat (first | (with_reducible assumption) | (with_reducible exact Below.refl _ _) | (with_reducible refine Below.drew ?_) | (with_reducible refine below_drewN ?_ _) | (with_reducible refine below_alloc ?_ _))) : Below w1.heap.size w1 _) hba); have hba2 := unhide HA1; have HO8 := hide (own_below (unhide HO5) (below_then (by (repeat (first | (with_reducible assumption) | (with_reducible exact Below.refl _ _) | (with_reducible refine Below.drew ?_) | (with_reducible refine below_drewN ?_ _) | (with_reducible refine below_alloc ?_ _))) : Below w5.heap.size w5 _) hba)); clear hr1 hba)
            | (refine step_append_row rfl (.tmp 19) (.tmp 26) 23 rfl w1.heap.size 5 i0 (.int .u8 0) 1 1 Try.underlying23 hi hz0 hz1 hz2 rfl (by decide) (by decide) _ 14 (u8s (sixL f.dst ++ sixL f.src ++ [129, 0])) rfl (own_below (unhide HO8) (by (repeat (first | (with_reducible assumption) | (with_reducible exact Below.refl _ _) | (with_reducible refine Below.drew ?_) | (with_reducible refine below_drewN ?_ _) | (with_reducible refine below_alloc ?_ _))) : Below wa.heap.size wa _)) _ 2 _ (u8s (twoB (tciN f))) rfl (by rw [u8s_len]; rfl) (rowA_below (unhide HR1) (by (repeat (first | (with_reducible assumption) | (with_reducible exact Below.refl _ _) | (with_reducible refine Below.drew ?_) | (with_reducible refine below_drewN ?_ _) | (with_reducible refine below_alloc ?_ _))) : Below wa.heap.size wa _)) (u8s_one _) (by omega) (Below.size (by (repeat (first | (with_reducible assumption) | (with_reducible exact Below.refl _ _) | (with_reducible refine Below.drew ?_) | (with_reducible refine below_drewN ?_ _) | (with_reducible refine below_alloc ?_ _))) : Below w1.heap.size w1 _)) ?_; intro v6 w6 h2 h3 _; rw [← u8s_app] at h2; obtain ⟨g6, d6, rfl, _⟩ := own_blk h2 (by decide); have HO6 := hide h2; have HB6 := hide (below_base (by (repeat (first | (with_reducible assumption) | (with_reducible exact Below.refl _ _) | (with_reducible refine Below.drew ?_) | (with_reducible refine below_drewN ?_ _) | (with_reducible refine below_alloc ?_ _))) : Below w1.heap.size w1 _) h3 (fun k e => ((unhide HO8).lt k e).1)); have hb6 := unhide HB6; clear h2 h3))
        all_goals
          go_wp2
          go_meet
          case rel =>
            exact ⟨g6, d6, rfl, own_to (unhide HO6) rfl (by rw [hL]; simp [twoB]), unhide HB6⟩
      case rest =>
        obtain ⟨g, d, rfl, ho, hbc⟩ := hcut
        have HO := hide ho
        have hE : (sixL f.dst ++ sixL f.src ++ tagB f) ++ twoB f.kind.toNat ++ f.bs = encB f := by simp [encB]
        clear ho
        go_wp2
        go_region_held3 (fun W => Below w1.heap.size w1 W ∧ W.cell? ⟨w.heap.size, 5, none⟩ = some (.int .i64 f.kind) ∧ W.cell? ⟨w.heap.size, 6, none⟩ = some (.slice A f.bs.length c))
          ((go_split_ands; refine (fun hW => ⟨hW, (unhide HSK _ hW).2.2.2.2.2.2.1, (unhide HSK _ hW).2.2.2.2.2.2.2⟩ : ∀ {W}, Below w1.heap.size w1 W → Below w1.heap.size w1 W ∧ W.cell? ⟨w.heap.size, 5, none⟩ = some (.int .i64 f.kind) ∧ W.cell? ⟨w.heap.size, 6, none⟩ = some (.slice A f.bs.length c)) ?_; (repeat (first | (with_reducible assumption) | (with_reducible exact Below.refl _ _) | (with_reducible refine Below.drew ?_) | (with_reducible refine below_drewN ?_ _) | (with_reducible refine below_alloc ?_ _)))))
          (first
            | (go_at_call 26; (with_reducible refine (unhide KK _).mono ?_); rintro e wa ⟨N1, rfl, hr1, hba⟩; have HR1 := hide hr1; have HA1 := hide (below_then (by (repeat (first | (with_reducible assumption) | (with_reducible exact Below.refl _ _) | (with_reducible refine Below.drew ?_) | (with_reducible refine below_drewN ?_ _) | (with_reducible refine below_alloc ?_ _))) : Below w1.heap.size w1 _) hba); have hba2 := unhide HA1; have HO8 := hide (own_below (unhide HO) (below_then (by (repeat (first | (with_reducible assumption) | (with_reducible exact Below.refl _ _) | (with_reducible refine Below.drew ?_) | (with_reducible refine below_drewN ?_ _) | (with_reducible refine below_alloc ?_ _))) : Below wc.heap.size wc _) hba)); clear hr1 hba)
            | (refine step_append_row rfl (.tmp 28) (.tmp 31) 23 rfl w1.heap.size 5 i0 (.int .u8 0) 1 1 Try.underlying23 hi hz0 hz1 hz2 rfl (by decide) (by decide) _ 16 (u8s (sixL f.dst ++ sixL f.src ++ tagB f)) rfl (own_below (unhide HO8) (by (repeat (first | (with_reducible assumption) | (with_reducible exact Below.refl _ _) | (with_reducible refine Below.drew ?_) | (with_reducible refine below_drewN ?_ _) | (with_reducible refine below_alloc ?_ _))) : Below wa.heap.size wa _)) _ 2 _ (u8s (twoB f.kind.toNat)) rfl (by rw [u8s_len]; first | rfl | (simp; done)) (rowA_below (unhide HR1) (by (repeat (first | (with_reducible assumption) | (with_reducible exact Below.refl _ _) | (with_reducible refine Below.drew ?_) | (with_reducible refine below_drewN ?_ _) | (with_reducible refine below_alloc ?_ _))) : Below wa.heap.size wa _)) (u8s_one _) (by omega) (Below.size (by (repeat (first | (with_reducible assumption) | (with_reducible exact Below.refl _ _) | (with_reducible refine Below.drew ?_) | (with_reducible refine below_drewN ?_ _) | (with_reducible refine below_alloc ?_ _))) : Below w1.heap.size w1 _)) ?_; intro v5 w5 h2 h3 _; rw [← u8s_app] at h2; obtain ⟨g5, d5, rfl, _⟩ := own_blk h2 (by omega); have HO5 := hide h2; have HB5 := hide (below_base (by (repeat (first | (with_reducible assumption) | (with_reducible exact Below.refl _ _) | (with_reducible refine Below.drew ?_) | (with_reducible refine below_drewN ?_ _) | (with_reducible refine below_alloc ?_ _))) : Below w1.heap.size w1 _) h3 (fun k e => ((unhide HO8).lt k e).1)); have hb5 := unhide HB5; clear h2 h3)
            | (refine step_append_row rfl (.tmp 32) (.tmp 34) 23 rfl w1.heap.size 5 i0 (.int .u8 0) 1 1 Try.underlying23 hi hz0 hz1 hz2 rfl (by decide) (by decide) _ 18 (u8s ((sixL f.dst ++ sixL f.src ++ tagB f) ++ twoB f.kind.toNat)) rfl (own_below (unhide HO5) (by (repeat (first | (with_reducible assumption) | (with_reducible exact Below.refl _ _) | (with_reducible refine Below.drew ?_) | (with_reducible refine below_drewN ?_ _) | (with_reducible refine below_alloc ?_ _))) : Below w5.heap.size w5 _)) _ f.bs.length _ (u8s f.bs) rfl (by rw [u8s_len]; first | rfl | (simp; done)) (unhide HA _ (below_then (unhide HB1') (by (repeat (first | (with_reducible assumption) | (with_reducible exact Below.refl _ _) | (with_reducible refine Below.drew ?_) | (with_reducible refine below_drewN ?_ _) | (with_reducible refine below_alloc ?_ _))) : Below w1.heap.size w1 _))) (u8s_one _) (by omega) (Below.size (by (repeat (first | (with_reducible assumption) | (with_reducible exact Below.refl _ _) | (with_reducible refine Below.drew ?_) | (with_reducible refine below_drewN ?_ _) | (with_reducible refine below_alloc ?_ _))) : Below w1.heap.size w1 _)) ?_; intro v6 w6 h2 h3 _; rw [← u8s_app] at h2; obtain ⟨g6, d6, rfl, _, hd1, hd2, _⟩ := own_blk h2 (by omega); have HD1 := hide hd1; have HD2 := hide hd2; clear hd1 hd2; have HO6 := hide h2; have HB6 := hide (below_base (by (repeat (first | (with_reducible assumption) | (with_reducible exact Below.refl _ _) | (with_reducible refine Below.drew ?_) | (with_reducible refine below_drewN ?_ _) | (with_reducible refine below_alloc ?_ _))) : Below w1.heap.size w1 _) h3 (fun k e => ((unhide HO5).lt k e).1)); have hb6 := unhide HB6; clear h2 h3))
        all_goals
          go_wp2
          go_ret2
          refine ⟨some ⟨g6, 0, none⟩, d6, ?_, ?_, below_then (unhide HB1') (unhide HB6), ?_, unhide HD2⟩
          · rw [show (encB f).length = 18 + f.bs.length by simp [encB, hL, twoB, sixL]; omega]; rfl
          · have h := (own_rowS (unhide HO6)); rw [hE] at h; exact h
          · have h := unhide HD1; rw [show (encB f).length = 18 + f.bs.length by simp [encB, hL, twoB, sixL]; omega]; exact h
end Go.Proofs.Ythonngnmdciheaa
