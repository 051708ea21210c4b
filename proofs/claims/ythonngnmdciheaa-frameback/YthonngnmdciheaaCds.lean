/- FrameCodes: the walk. -/
import Derived.Test.YthonngnmdciheaaTgs
namespace Go.Proofs.Ythonngnmdciheaa
open Go.RowKit
set_option linter.unusedVariables false
def encR (f : Fr) : List Nat × Int := if goodF f = true then (encB f, 0) else ([], 11)
theorem enc_any (f : Fr) (hf : f.Fit) (A : Option Addr) (c : Nat) (w : World) (hA : RowA w A (u8s f.bs)) : Calls Try.prog 8 #[.agg #[.int .u64 (f.dst : Int), .int .u64 (f.src : Int), .bool f.tag, .int .i64 f.prio, .int .i64 f.vid, .int .i64 f.kind, .slice A f.bs.length c]] w fun e w' => EncO e (encR f).1 (encR f).2 w w' := by
  cases hg : goodF f with
  | true => rw [show encR f = (encB f, 0) from if_pos hg]; exact encode_yes f hf hg A c w hA
  | false => rw [show encR f = ([], 11) from if_neg (by rw [hg]; decide)]; exact encode_no f hf hg A c w
theorem renc_any (f : Fr) (hf : f.Fit) (A : Option Addr) (c : Nat) (w : World) (hA : RowA w A (u8s f.bs)) : Calls Try.prog 10 #[.agg #[.int .u64 (f.dst : Int), .int .u64 (f.src : Int), .bool f.tag, .int .i64 f.prio, .int .i64 f.vid, .int .i64 f.kind, .slice A f.bs.length c]] w fun e w' => EncO e (encR f).1 (encR f).2 w w' := by
  cases hg : goodF f with
  | true => rw [show encR f = (encB f, 0) from if_pos hg]; exact rencode_yes f hf hg A c w hA
  | false => rw [show encR f = ([], 11) from if_neg (by rw [hg]; decide)]; exact rencode_no f hf hg A c w
theorem codes_no (f : Fr) (A : Option Addr) (c : Nat) (B : Option Addr) (n d : Nat) (w : World) (h : 2000 < f.bs.length ∨ 2000 < n) : Calls Try.prog 3 #[.agg #[.int .u64 (f.dst : Int), .int .u64 (f.src : Int), .bool f.tag, .int .i64 f.prio, .int .i64 f.vid, .int .i64 f.kind, .slice A f.bs.length c], .slice B n d] w fun e w' => e = .returned (.bool true) ∧ Below w.heap.size w w' := by
  have HB : Hid (Below w.heap.size w (w.alloc (.cells #[.int .u64 (f.dst : Int), .int .u64 (f.src : Int), .bool f.tag, .int .i64 f.prio, .int .i64 f.vid, .int .i64 f.kind, .slice A f.bs.length c] 25))) := hide (below_alloc (Below.refl _ _) _)
  by_cases h1 : 2000 < f.bs.length
  · have h' : (2000 : Int) < (f.bs.length : Int) := by omega
    go_enter Try.func3, Try.ntmps3
    go_wp2_with (go_at_call 7; with_reducible refine (wakes_any _).mono ?_; rintro e w5 ⟨rfl, hb5⟩; have HB5 := hide hb5; clear hb5)
    go_ret
    exact ⟨rfl, below_then (unhide HB) (unhide HB5)⟩
  · have h' : ¬ (2000 : Int) < (f.bs.length : Int) := by omega
    have h'' : (2000 : Int) < (n : Int) := by omega
    go_enter Try.func3, Try.ntmps3
    go_wp2_with (go_at_call 7; with_reducible refine (wakes_any _).mono ?_; rintro e w5 ⟨rfl, hb5⟩; have HB5 := hide hb5; clear hb5)
    go_ret
    exact ⟨rfl, below_then (unhide HB) (unhide HB5)⟩
set_option maxRecDepth 10000 in
set_option maxHeartbeats 4000000 in
theorem codes_walk (f : Fr) (hf : f.Fit) (A : Option Addr) (c : Nat) (X : Option Addr) (bs : List Nat) (cx : Nat) (w : World) (hA : RowA w A (u8s f.bs)) (hl : f.bs.length ≤ 2000) (hX : RowA w X (u8s bs)) (hx : ∀ x ∈ bs, x < 256) (hn : bs.length ≤ 2000) (hc1 : bs.length ≤ cx) (hc2 : cx ≤ 9223372036854775807) : Calls Try.prog 3 #[.agg #[.int .u64 (f.dst : Int), .int .u64 (f.src : Int), .bool f.tag, .int .i64 f.prio, .int .i64 f.vid, .int .i64 f.kind, .slice A f.bs.length c], .slice X bs.length cx] w fun e w' => e = .returned (.bool true) ∧ Below w.heap.size w w' := by
  have h' : ¬ (2000 : Int) < (f.bs.length : Int) := by omega
  have h'' : ¬ (2000 : Int) < (bs.length : Int) := by omega
  have HB : Hid (Below w.heap.size w (w.alloc (.cells #[.int .u64 (f.dst : Int), .int .u64 (f.src : Int), .bool f.tag, .int .i64 f.prio, .int .i64 f.vid, .int .i64 f.kind, .slice A f.bs.length c] 25))) := hide (below_alloc (Below.refl _ _) _)
  have HX : Hid ((w.alloc (.cells #[.int .u64 (f.dst : Int), .int .u64 (f.src : Int), .bool f.tag, .int .i64 f.prio, .int .i64 f.vid, .int .i64 f.kind, .slice A f.bs.length c] 25)).heap[w.heap.size]? = some (.cells #[.int .u64 (f.dst : Int), .int .u64 (f.src : Int), .bool f.tag, .int .i64 f.prio, .int .i64 f.vid, .int .i64 f.kind, .slice A f.bs.length c] 25 (0, 0))) := hide (heap_alloc_new _ _)
  have K9 := hide (fun W (hW : Below w.heap.size w W) => copied_any f A c W (rowA_below hA hW) (by omega))
  have K8 := hide (fun W B d (hB : RowA W B (u8s f.bs)) => enc_any f hf B d W hB)
  have K10 := hide (fun W (hW : Below w.heap.size w W) => renc_any f hf A c W (rowA_below hA hW))
  have K11 := hide (fun W B d (hB : RowA W B (u8s bs)) (h1 : bs.length ≤ d) (h2 : d ≤ 9223372036854775807) => parse_any B d bs W hx hB (by omega) h1 h2)
  have K12 := hide (fun W (hW : Below w.heap.size w W) => rparse_any X cx bs W hx (rowA_below hX hW) (by omega) hc1 hc2)
  have K13 := hide (fun W => fgood_any f hf A c W)
  have K14 := hide (fun W => rfgood_any f hf A c W)
  have HRX := hide (fun W (hW : Below w.heap.size w W) => rowA_below hX hW)
  obtain ⟨i0, hi, hz0, hz1, hz2⟩ := i5
  unfold FrO FrO2 EncO at *
  generalize encR f = E at *
  obtain ⟨E, ke⟩ := E
  generalize parsN bs = R at *
  obtain ⟨T, kt⟩ := R
  generalize goodF f = gd at *
  simp only at K8 K10 K11 K12
  clear hA hX hx hf hc1 hc2 hl
  go_enter Try.func3, Try.ntmps3
  go_upto_region 5 with (first
    | (go_at_call 9; go_loud ((with_reducible refine (unhide K9 _ (unhide HB)).mono ?_); rintro e w1 ⟨B1, d1, rfl, hr1, hb1⟩; have HR1 := hide hr1; have HB1 := hide (below_then (unhide HB) hb1); have HX1 := hide (heap_keep (unhide HX) hb1); clear hr1 hb1))
    | (go_at_call 8; go_loud ((with_reducible refine (unhide K8 _ _ _ (unhide HR1)).mono ?_); rintro e w2 ⟨B2, d2, rfl, hr2, hb2, _, _⟩; have HR2 := hide hr2; have HB2 := hide (below_then (unhide HB1) hb2); have HX2 := hide (heap_keep (unhide HX1) hb2); obtain ⟨x0, x1, x2, x3, x4, x5, x6⟩ := fr_cells (unhide HX2); clear hr2 hb2))
    | (go_at_call 10; go_loud ((with_reducible refine (unhide K10 _ (unhide HB2)).mono ?_); rintro e w3 ⟨B3, d3, rfl, hr3, hb3, _, _⟩; have HR3 := hide hr3; have HR2' := hide (rowA_below (unhide HR2) hb3); have HB3 := hide (below_then (unhide HB2) hb3); have HX3 := hide (heap_keep (unhide HX2) hb3); clear hr3 hb3)))
  go_upto_region 7 with (first
    | (at_builtin; go_loud (refine wpList_append_row rfl _ _ 23 rfl w3.heap.size 5 i0 (.int .u8 0) 1 1 Try.underlying23 hi hz0 hz1 hz2 rfl (by decide) (by decide) _ 0 [] rfl (own_lit0 w3) X bs.length cx (u8s bs) rfl (by rw [u8s_len]; omega) (unhide HRX _ (below_alloc (unhide HB3) _)) (u8s_one _) (by omega) (by simp) ?_; intro v5 w5 h2 h3 _; rw [Nat.zero_add, List.nil_append] at h2; obtain ⟨B5, d5, rfl, hr5, hd1, hd2⟩ := own_row1c h2; have HR5 := hide hr5; have HD1 := hide hd1; have HD2 := hide hd2; have HB5 := hide (below_base (below_alloc (Below.refl _ _) _ : Below w3.heap.size w3 _) h3 (fun k e => by cases e; exact Nat.le_refl _)); clear h2 h3 hr5 hd1 hd2))
    | (go_at_call 11; go_loud ((with_reducible refine (unhide K11 _ _ _ (unhide HR5) (unhide HD1) (unhide HD2)).mono ?_); rintro e w6 ⟨B6, d6, rfl, hr6, hb6⟩; have HR6 := hide (rowA_below hr6 (below_alloc (Below.refl _ _) (.cells #[.int .u64 (T.dst : Int), .int .u64 (T.src : Int), .bool T.tag, .int .i64 T.prio, .int .i64 T.vid, .int .i64 T.kind, .slice B6 T.bs.length d6] 25))); have HB6 := hide (below_alloc (below_then (unhide HB5) hb6) (.cells #[.int .u64 (T.dst : Int), .int .u64 (T.src : Int), .bool T.tag, .int .i64 T.prio, .int .i64 T.vid, .int .i64 T.kind, .slice B6 T.bs.length d6] 25)); have HY6 := hide (heap_alloc_new w6 (.cells #[.int .u64 (T.dst : Int), .int .u64 (T.src : Int), .bool T.tag, .int .i64 T.prio, .int .i64 T.vid, .int .i64 T.kind, .slice B6 T.bs.length d6] 25)); have HB6' := hide (below_then (unhide HB3) (unhide HB6)); clear hr6 hb6))
    | (go_at_call 12; go_loud ((with_reducible refine (unhide K12 _ (unhide HB6')).mono ?_); rintro e w7 ⟨B7, d7, rfl, hr7, hb7⟩; have HR7 := hide (rowA_below hr7 (below_alloc (Below.refl _ _) (.cells #[.int .u64 (T.dst : Int), .int .u64 (T.src : Int), .bool T.tag, .int .i64 T.prio, .int .i64 T.vid, .int .i64 T.kind, .slice B7 T.bs.length d7] 25))); have HR6' := hide (rowA_below (unhide HR6) (below_alloc hb7 (.cells #[.int .u64 (T.dst : Int), .int .u64 (T.src : Int), .bool T.tag, .int .i64 T.prio, .int .i64 T.vid, .int .i64 T.kind, .slice B7 T.bs.length d7] 25))); have HY7 := hide (heap_keep (unhide HY6) (below_alloc hb7 (.cells #[.int .u64 (T.dst : Int), .int .u64 (T.src : Int), .bool T.tag, .int .i64 T.prio, .int .i64 T.vid, .int .i64 T.kind, .slice B7 T.bs.length d7] 25))); have HZ7 := hide (heap_alloc_new w7 (.cells #[.int .u64 (T.dst : Int), .int .u64 (T.src : Int), .bool T.tag, .int .i64 T.prio, .int .i64 T.vid, .int .i64 T.kind, .slice B7 T.bs.length d7] 25)); have HB7 := hide (below_then (unhide HB6) (below_alloc hb7 (.cells #[.int .u64 (T.dst : Int), .int .u64 (T.src : Int), .bool T.tag, .int .i64 T.prio, .int .i64 T.vid, .int .i64 T.kind, .slice B7 T.bs.length d7] 25))); clear hr7 hb7)))
  generalize w7.alloc (.cells #[.int .u64 (T.dst : Int), .int .u64 (T.src : Int), .bool T.tag, .int .i64 T.prio, .int .i64 T.vid, .int .i64 T.kind, .slice B7 T.bs.length d7] 25) = w8 at *
  have HB8 := hide (below_then (unhide HB3) (unhide HB7))
  have HX8 := hide (heap_keep (unhide HX3) (unhide HB7))
  have K15 := hide (fun W (hW : Below w8.heap.size w8 W) => kbytes_same W B2 B3 d2 d3 E (rowA_below (unhide HR2') (below_then (unhide HB7) hW)) (rowA_below (unhide HR3) (below_then (unhide HB7) hW)))
  have K16 := hide (fun W (hW : Below w8.heap.size w8 W) => frames_two W T B6 B7 d6 d7 (rowA_below (unhide HR6') hW) (rowA_below (unhide HR7) hW))
  have HSK := hide (fun W (hW : Below w8.heap.size w8 W) => (⟨hW, fr_cells (heap_keep (unhide HX8) hW), fr_cells (heap_keep (unhide HY7) hW), fr_cells (heap_keep (unhide HZ7) hW)⟩ : Below w8.heap.size w8 W ∧ (W.cell? ⟨w.heap.size, 0, none⟩ = some (.int .u64 (f.dst : Int)) ∧ W.cell? ⟨w.heap.size, 1, none⟩ = some (.int .u64 (f.src : Int)) ∧ W.cell? ⟨w.heap.size, 2, none⟩ = some (.bool f.tag) ∧ W.cell? ⟨w.heap.size, 3, none⟩ = some (.int .i64 f.prio) ∧ W.cell? ⟨w.heap.size, 4, none⟩ = some (.int .i64 f.vid) ∧ W.cell? ⟨w.heap.size, 5, none⟩ = some (.int .i64 f.kind) ∧ W.cell? ⟨w.heap.size, 6, none⟩ = some (.slice A f.bs.length c)) ∧ (W.cell? ⟨w6.heap.size, 0, none⟩ = some (.int .u64 (T.dst : Int)) ∧ W.cell? ⟨w6.heap.size, 1, none⟩ = some (.int .u64 (T.src : Int)) ∧ W.cell? ⟨w6.heap.size, 2, none⟩ = some (.bool T.tag) ∧ W.cell? ⟨w6.heap.size, 3, none⟩ = some (.int .i64 T.prio) ∧ W.cell? ⟨w6.heap.size, 4, none⟩ = some (.int .i64 T.vid) ∧ W.cell? ⟨w6.heap.size, 5, none⟩ = some (.int .i64 T.kind) ∧ W.cell? ⟨w6.heap.size, 6, none⟩ = some (.slice B6 T.bs.length d6)) ∧ (W.cell? ⟨w7.heap.size, 0, none⟩ = some (.int .u64 (T.dst : Int)) ∧ W.cell? ⟨w7.heap.size, 1, none⟩ = some (.int .u64 (T.src : Int)) ∧ W.cell? ⟨w7.heap.size, 2, none⟩ = some (.bool T.tag) ∧ W.cell? ⟨w7.heap.size, 3, none⟩ = some (.int .i64 T.prio) ∧ W.cell? ⟨w7.heap.size, 4, none⟩ = some (.int .i64 T.vid) ∧ W.cell? ⟨w7.heap.size, 5, none⟩ = some (.int .i64 T.kind) ∧ W.cell? ⟨w7.heap.size, 6, none⟩ = some (.slice B7 T.bs.length d7))))
  cases gd
  all_goals
    go_region_held3 (fun W => Below w8.heap.size w8 W ∧ (W.cell? ⟨w.heap.size, 0, none⟩ = some (.int .u64 (f.dst : Int)) ∧ W.cell? ⟨w.heap.size, 1, none⟩ = some (.int .u64 (f.src : Int)) ∧ W.cell? ⟨w.heap.size, 2, none⟩ = some (.bool f.tag) ∧ W.cell? ⟨w.heap.size, 3, none⟩ = some (.int .i64 f.prio) ∧ W.cell? ⟨w.heap.size, 4, none⟩ = some (.int .i64 f.vid) ∧ W.cell? ⟨w.heap.size, 5, none⟩ = some (.int .i64 f.kind) ∧ W.cell? ⟨w.heap.size, 6, none⟩ = some (.slice A f.bs.length c)) ∧ (W.cell? ⟨w6.heap.size, 0, none⟩ = some (.int .u64 (T.dst : Int)) ∧ W.cell? ⟨w6.heap.size, 1, none⟩ = some (.int .u64 (T.src : Int)) ∧ W.cell? ⟨w6.heap.size, 2, none⟩ = some (.bool T.tag) ∧ W.cell? ⟨w6.heap.size, 3, none⟩ = some (.int .i64 T.prio) ∧ W.cell? ⟨w6.heap.size, 4, none⟩ = some (.int .i64 T.vid) ∧ W.cell? ⟨w6.heap.size, 5, none⟩ = some (.int .i64 T.kind) ∧ W.cell? ⟨w6.heap.size, 6, none⟩ = some (.slice B6 T.bs.length d6)) ∧ (W.cell? ⟨w7.heap.size, 0, none⟩ = some (.int .u64 (T.dst : Int)) ∧ W.cell? ⟨w7.heap.size, 1, none⟩ = some (.int .u64 (T.src : Int)) ∧ W.cell? ⟨w7.heap.size, 2, none⟩ = some (.bool T.tag) ∧ W.cell? ⟨w7.heap.size, 3, none⟩ = some (.int .i64 T.prio) ∧ W.cell? ⟨w7.heap.size, 4, none⟩ = some (.int .i64 T.vid) ∧ W.cell? ⟨w7.heap.size, 5, none⟩ = some (.int .i64 T.kind) ∧ W.cell? ⟨w7.heap.size, 6, none⟩ = some (.slice B7 T.bs.length d7)))
      ((go_split_ands; refine unhide HSK _ ?_; (repeat (first | (with_reducible assumption) | (with_reducible exact Below.refl _ _) | (with_reducible refine Below.drew ?_) | (with_reducible refine below_drewN ?_ _) | (with_reducible refine below_alloc ?_ _)))))
      (first
        | (go_at_call 13; (with_reducible refine (unhide K13 _).mono ?_); rintro e wa ⟨rfl, hba⟩; have hbd := below_then (by (repeat (first | (with_reducible assumption) | (with_reducible exact Below.refl _ _) | (with_reducible refine Below.drew ?_) | (with_reducible refine below_drewN ?_ _) | (with_reducible refine below_alloc ?_ _))) : Below w8.heap.size w8 _) hba; clear hba)
        | (go_at_call 14; (with_reducible refine (unhide K14 _).mono ?_); rintro e wa2 ⟨rfl, hba⟩; have hbd2 := below_then (by (repeat (first | (with_reducible assumption) | (with_reducible exact Below.refl _ _) | (with_reducible refine Below.drew ?_) | (with_reducible refine below_drewN ?_ _) | (with_reducible refine below_alloc ?_ _))) : Below w8.heap.size w8 _) hba; clear hba)
        | (go_at_call 15; (with_reducible refine (unhide K15 _ (by (repeat (first | (with_reducible assumption) | (with_reducible exact Below.refl _ _) | (with_reducible refine Below.drew ?_) | (with_reducible refine below_drewN ?_ _) | (with_reducible refine below_alloc ?_ _))))).mono ?_); rintro e wa3 ⟨rfl, rfl⟩)
        | (go_at_call 16; (with_reducible refine (unhide K16 _ (by (repeat (first | (with_reducible assumption) | (with_reducible exact Below.refl _ _) | (with_reducible refine Below.drew ?_) | (with_reducible refine below_drewN ?_ _) | (with_reducible refine below_alloc ?_ _))))).mono ?_); rintro e wa4 ⟨rfl, hba⟩; have hbd4 := below_then (by (repeat (first | (with_reducible assumption) | (with_reducible exact Below.refl _ _) | (with_reducible refine Below.drew ?_) | (with_reducible refine below_drewN ?_ _) | (with_reducible refine below_alloc ?_ _))) : Below w8.heap.size w8 _) hba; clear hba)
        | (go_at_call 7; (with_reducible refine (wakes_any _).mono ?_); rintro e wa9 ⟨rfl, hb9⟩; have hbd9 := below_then (by (repeat (first | (with_reducible assumption) | (with_reducible exact Below.refl _ _) | (with_reducible refine Below.drew ?_) | (with_reducible refine below_drewN ?_ _) | (with_reducible refine below_alloc ?_ _))) : Below w8.heap.size w8 _) hb9; clear hb9))
    all_goals
      go_wp2
      go_ret
      exact ⟨rfl, below_then (unhide HB8) (by assumption)⟩
end Go.Proofs.Ythonngnmdciheaa
