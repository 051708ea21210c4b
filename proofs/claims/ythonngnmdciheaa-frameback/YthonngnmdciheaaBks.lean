/- FrameBack: the walk. -/
import Derived.Test.YthonngnmdciheaaCds
namespace Go.Proofs.Ythonngnmdciheaa
open Go.RowKit
set_option linter.unusedVariables false
theorem back_no (f : Fr) (A : Option Addr) (c : Nat) (B : Option Addr) (n d : Nat) (u : Nat) (w : World) (h : 2000 < f.bs.length ∨ 2000 < n) : Calls Try.prog 5 #[.agg #[.int .u64 (f.dst : Int), .int .u64 (f.src : Int), .bool f.tag, .int .i64 f.prio, .int .i64 f.vid, .int .i64 f.kind, .slice A f.bs.length c], .slice B n d, .int .u16 u] w fun e w' => e = .returned (.bool true) ∧ Below w.heap.size w w' := by
  have HB : Hid (Below w.heap.size w (w.alloc (.cells #[.int .u64 (f.dst : Int), .int .u64 (f.src : Int), .bool f.tag, .int .i64 f.prio, .int .i64 f.vid, .int .i64 f.kind, .slice A f.bs.length c] 25))) := hide (below_alloc (Below.refl _ _) _)
  by_cases h1 : 2000 < f.bs.length
  · have h' : (2000 : Int) < (f.bs.length : Int) := by omega
    go_enter Try.func5, Try.ntmps5
    go_wp2_with (go_at_call 7; with_reducible refine (wakes_any _).mono ?_; rintro e w5 ⟨rfl, hb5⟩; have HB5 := hide hb5; clear hb5)
    go_ret
    exact ⟨rfl, below_then (unhide HB) (unhide HB5)⟩
  · have h' : ¬ (2000 : Int) < (f.bs.length : Int) := by omega
    have h'' : (2000 : Int) < (n : Int) := by omega
    go_enter Try.func5, Try.ntmps5
    go_wp2_with (go_at_call 7; with_reducible refine (wakes_any _).mono ?_; rintro e w5 ⟨rfl, hb5⟩; have HB5 := hide hb5; clear hb5)
    go_ret
    exact ⟨rfl, below_then (unhide HB) (unhide HB5)⟩
theorem tagd_good (f : Fr) (hg : goodF f = true) (v : Int) (h1 : 1 ≤ v) (h2 : v ≤ 4094) (hl : f.bs.length ≤ 1500) : goodF (tagdF f v) = true := by
  have hq : goodF f = (placesF f && (tagF f && (kindF f.kind && decide ((f.bs.length : Int) ≤ 1518 - (leastN f.tag : Int))))) := rfl
  rw [hq] at hg
  simp only [Bool.and_eq_true] at hg
  obtain ⟨a, b, d, e⟩ := hg
  have hq2 : goodF (tagdF f v) = (placesF f && (tagF (tagdF f v) && (kindF f.kind && decide ((f.bs.length : Int) ≤ 1518 - ((18 : Nat) : Int))))) := rfl
  rw [hq2, a, d]
  have t2 : tagF (tagdF f v) = true := by
    unfold tagF tagdF
    rw [if_pos rfl]
    unfold tagF at b
    simp only
    cases ht : f.tag with
    | true =>
      rw [ht, if_pos rfl] at b
      simp only [Bool.and_eq_true, decide_eq_true_eq] at b
      simp only [if_true, Bool.and_eq_true, decide_eq_true_eq]
      exact ⟨b.1, b.2.1, by omega, by omega⟩
    | false =>
      simp only [Bool.false_eq_true, if_false, Bool.and_eq_true, decide_eq_true_eq]
      exact ⟨by omega, by omega, by omega, by omega⟩
  rw [t2]
  simp only [Bool.and_eq_true, decide_eq_true_eq]
  exact ⟨trivial, trivial, trivial, by omega⟩
theorem bare_good (f : Fr) (hg : goodF f = true) (hl : f.bs.length ≤ 1500) : goodF (bareF f) = true := by
  have hq : goodF f = (placesF f && (tagF f && (kindF f.kind && decide ((f.bs.length : Int) ≤ 1518 - (leastN f.tag : Int))))) := rfl
  rw [hq] at hg
  simp only [Bool.and_eq_true] at hg
  obtain ⟨a, b, d, e⟩ := hg
  have hq2 : goodF (bareF f) = (placesF f && (true && (kindF f.kind && decide ((f.bs.length : Int) ≤ 1518 - ((14 : Nat) : Int))))) := rfl
  rw [hq2, a, d]
  simp only [Bool.and_eq_true, decide_eq_true_eq]
  exact ⟨trivial, trivial, trivial, by omega⟩
theorem tagd_fit (f : Fr) (hf : f.Fit) (v : Int) (h1 : 1 ≤ v) (h2 : v ≤ 4094) : (tagdF f v).Fit := by
  refine ⟨hf.dst, hf.src, ?_, ?_, hf.kind, hf.bs, hf.len⟩
  · show I64 (if f.tag then f.prio else 0)
    split
    · exact hf.prio
    · unfold I64; omega
  · show I64 v; unfold I64; omega
theorem bare_fit (f : Fr) (hf : f.Fit) : (bareF f).Fit := ⟨hf.dst, hf.src, by show I64 0; unfold I64; omega, by show I64 0; unfold I64; omega, hf.kind, hf.bs, hf.len⟩
theorem bare_tagd (f : Fr) (v : Int) : bareF (tagdF f v) = bareF f := rfl
set_option maxRecDepth 10000 in
set_option maxHeartbeats 8000000 in
theorem back_1 (f : Fr) (hf : f.Fit) (A : Option Addr) (c : Nat) (X : Option Addr) (bs : List Nat) (cx u : Nat) (w : World) (hu : u < 65536) (hA : RowA w A (u8s f.bs)) (hl : f.bs.length ≤ 2000) (hX : RowA w X (u8s bs)) (hx : ∀ x ∈ bs, x < 256) (hn : bs.length ≤ 2000) (hc1 : bs.length ≤ cx) (hc2 : cx ≤ 9223372036854775807) (T : Fr) (hg : goodF f = true) (hp : parsN bs = (T, 0)) (hgT : goodF T = true) (hET : encB T = bs) (hfT : T.Fit) (hb : f.bs.length ≤ 1500) : Calls Try.prog 5 #[.agg #[.int .u64 (f.dst : Int), .int .u64 (f.src : Int), .bool f.tag, .int .i64 f.prio, .int .i64 f.vid, .int .i64 f.kind, .slice A f.bs.length c], .slice X bs.length cx, .int .u16 u] w fun e w' => e = .returned (.bool true) ∧ Below w.heap.size w w' := by
  have h' : ¬ (2000 : Int) < (f.bs.length : Int) := by omega
  have h'' : ¬ (2000 : Int) < (bs.length : Int) := by omega
  have HBc : Hid (Below w.heap.size w (w.alloc (.cells #[.int .u64 (f.dst : Int), .int .u64 (f.src : Int), .bool f.tag, .int .i64 f.prio, .int .i64 f.vid, .int .i64 f.kind, .slice A f.bs.length c] 25))) := hide (below_alloc (Below.refl _ _) _)
  have HXc : Hid ((w.alloc (.cells #[.int .u64 (f.dst : Int), .int .u64 (f.src : Int), .bool f.tag, .int .i64 f.prio, .int .i64 f.vid, .int .i64 f.kind, .slice A f.bs.length c] 25)).heap[w.heap.size]? = some (.cells #[.int .u64 (f.dst : Int), .int .u64 (f.src : Int), .bool f.tag, .int .i64 f.prio, .int .i64 f.vid, .int .i64 f.kind, .slice A f.bs.length c] 25 (0, 0))) := hide (heap_alloc_new _ _)
  obtain ⟨v, hv⟩ : ∃ v : Int, v = 1 + (u : Int) % 4094 := ⟨_, rfl⟩
  have hv1 : 1 ≤ v ∧ v ≤ 4094 := by omega
  have K16 := hide (fun W (hW : Below w.heap.size w W) B d (hB : RowA W B (u8s f.bs)) => frames_two W f B A d c hB (rowA_below hA hW))
  have K17 := hide (fun W (hW : Below w.heap.size w W) => tagged_any f A c v W (rowA_below hA hW) (by omega) hv1.1 hv1.2)
  have K19 := hide (fun W (hW : Below w.heap.size w W) => bare_any f A c W (rowA_below hA hW) (by omega))
  have K19g := hide (fun W B d (hB : RowA W B (u8s (tagdF f v).bs)) => bare_any (tagdF f v) B d W hB (by show f.bs.length ≤ _; omega))
  rw [bare_tagd] at K19g
  have K11b := hide (fun W (hW : Below w.heap.size w W) => parse_any X cx bs W hx (rowA_below hX hW) (by omega) hc1 hc2)
  rw [hp] at K11b
  have K13f := hide (fun W => fgood_any f hf A c W)
  rw [hg] at K13f
  have K13g := hide (fun W B d => fgood_any (tagdF f v) (tagd_fit f hf v hv1.1 hv1.2) B d W)
  have K13h := hide (fun W B d => fgood_any (bareF f) (bare_fit f hf) B d W)
  rw [tagd_good f hg v hv1.1 hv1.2 hb] at K13g
  rw [bare_good f hg hb] at K13h
  have K8 := hide (fun W (hW : Below w.heap.size w W) => encode_yes f hf hg A c W (rowA_below hA hW))
  have K11a := hide (fun W B d (hB : RowA W B (u8s (encB f))) (h1 : (encB f).length ≤ d) (h2 : d ≤ 9223372036854775807) => parse_any B d (encB f) W (encB_lt f hf hg) hB (by have h3 := encB_len f; have h4 : leastN f.tag ≤ 18 := (by cases f.tag <;> simp [leastN]); omega) h1 h2)
  rw [pars_enc f hg] at K11a
  have hbi : ¬ (1500 : Int) < (f.bs.length : Int) := by omega
  have K8b := hide (fun W B d (hB : RowA W B (u8s T.bs)) => encode_yes T hfT hgT B d W hB)
  rw [hET] at K8b
  have K15 := hide (fun W (hW : Below w.heap.size w W) B d (hB : RowA W B (u8s bs)) => kbytes_same W B X d cx bs hB (rowA_below hX hW))
  unfold EncO FrO2 FrO at *
  obtain ⟨G, hG⟩ : ∃ G, G = tagdF f v := ⟨_, rfl⟩
  obtain ⟨H, hH⟩ : ∃ H, H = bareF f := ⟨_, rfl⟩
  have hGb : (tagdF f v).bs = f.bs := rfl
  rw [← hG] at K17 K19g K13g
  rw [← hH] at K19 K19g K13h
  simp only at K11b
  simp only at K11a
  generalize encB f = E at *
  clear hET hgT hfT
  clear hG hH hGb hA hX hx hf hp hl hc1 hc2 hg hv1 hb
  go_enter Try.func5, Try.ntmps5
  have HV := hide hv.symm
  have hv2 : 1 + (u : Int) % 4094 = v := hv.symm
  clear hv
  go_upto_region 16 with (first
    | (go_at_call 8; ((with_reducible refine (unhide K8 _ (unhide HBc)).mono ?_); rintro e w2 ⟨B2, d2, rfl, hr2, hb2, hd1, hd2⟩; have HR2 := hide hr2; have HD1 := hide hd1; have HD2 := hide hd2; have HBc := hide (below_then (unhide HBc) (hb2)); have HXc := hide (heap_keep (unhide HXc) (hb2)); obtain ⟨x0, x1, x2, x3, x4, x5, x6⟩ := fr_cells (unhide HXc); clear hr2 hb2 hd1 hd2))
    | (go_at_call 11; ((with_reducible refine (unhide K11a _ _ _ (unhide HR2) (unhide HD1) (unhide HD2)).mono ?_); rintro e w3 ⟨B3, d3, rfl, hr3, hb3⟩; have HR3 := hide (rowA_below hr3 (below_alloc (Below.refl _ _) (.cells #[.int .u64 (f.dst : Int), .int .u64 (f.src : Int), .bool f.tag, .int .i64 f.prio, .int .i64 f.vid, .int .i64 f.kind, .slice B3 f.bs.length d3] 25))); have HBc := hide (below_then (unhide HBc) (below_alloc hb3 (.cells #[.int .u64 (f.dst : Int), .int .u64 (f.src : Int), .bool f.tag, .int .i64 f.prio, .int .i64 f.vid, .int .i64 f.kind, .slice B3 f.bs.length d3] 25))); have HXc := hide (heap_keep (unhide HXc) (below_alloc hb3 (.cells #[.int .u64 (f.dst : Int), .int .u64 (f.src : Int), .bool f.tag, .int .i64 f.prio, .int .i64 f.vid, .int .i64 f.kind, .slice B3 f.bs.length d3] 25))); obtain ⟨x0, x1, x2, x3, x4, x5, x6⟩ := fr_cells (unhide HXc); clear hr3 hb3))
    | (go_at_call 16; ((with_reducible refine (unhide K16 _ (unhide HBc) _ _ (unhide HR3)).mono ?_); rintro e w4 ⟨rfl, hb4⟩; have HBc := hide (below_then (unhide HBc) (hb4)); have HXc := hide (heap_keep (unhide HXc) (hb4)); obtain ⟨x0, x1, x2, x3, x4, x5, x6⟩ := fr_cells (unhide HXc); clear hb4))
    | (go_at_call 11; ((with_reducible refine (unhide K11b _ (unhide HBc)).mono ?_); rintro e w5 ⟨B5, d5, rfl, hr5, hb5⟩; have HR5 := hide (rowA_below hr5 (below_alloc (Below.refl _ _) (.cells #[.int .u64 (T.dst : Int), .int .u64 (T.src : Int), .bool T.tag, .int .i64 T.prio, .int .i64 T.vid, .int .i64 T.kind, .slice B5 T.bs.length d5] 25))); have HBc := hide (below_then (unhide HBc) (below_alloc hb5 (.cells #[.int .u64 (T.dst : Int), .int .u64 (T.src : Int), .bool T.tag, .int .i64 T.prio, .int .i64 T.vid, .int .i64 T.kind, .slice B5 T.bs.length d5] 25))); have HXc := hide (heap_keep (unhide HXc) (below_alloc hb5 (.cells #[.int .u64 (T.dst : Int), .int .u64 (T.src : Int), .bool T.tag, .int .i64 T.prio, .int .i64 T.vid, .int .i64 T.kind, .slice B5 T.bs.length d5] 25))); obtain ⟨x0, x1, x2, x3, x4, x5, x6⟩ := fr_cells (unhide HXc); clear hr5 hb5))
    | (go_at_call 8; ((with_reducible refine (unhide K8b _ _ _ (unhide HR5)).mono ?_); rintro e w6 ⟨B6, d6, rfl, hr6, hb6, _, _⟩; have HR6 := hide hr6; have HBc := hide (below_then (unhide HBc) (hb6)); have HXc := hide (heap_keep (unhide HXc) (hb6)); obtain ⟨x0, x1, x2, x3, x4, x5, x6⟩ := fr_cells (unhide HXc); clear hr6 hb6))
    | (go_at_call 15; ((with_reducible refine (unhide K15 _ (unhide HBc) _ _ (unhide HR6)).mono ?_); rintro e w6x ⟨rfl, rfl⟩))
    | (go_at_call 17; ((with_reducible refine (unhide K17 _ (unhide HBc)).mono ?_); rintro e w7 ⟨B7, d7, rfl, hr7, hb7⟩; have HR7 := hide (rowA_below hr7 (below_alloc (Below.refl _ _) (.cells #[.int .u64 (G.dst : Int), .int .u64 (G.src : Int), .bool G.tag, .int .i64 G.prio, .int .i64 G.vid, .int .i64 G.kind, .slice B7 G.bs.length d7] 25))); have HG7 := hide (heap_alloc_new w7 (.cells #[.int .u64 (G.dst : Int), .int .u64 (G.src : Int), .bool G.tag, .int .i64 G.prio, .int .i64 G.vid, .int .i64 G.kind, .slice B7 G.bs.length d7] 25)); have HBc := hide (below_then (unhide HBc) (below_alloc hb7 (.cells #[.int .u64 (G.dst : Int), .int .u64 (G.src : Int), .bool G.tag, .int .i64 G.prio, .int .i64 G.vid, .int .i64 G.kind, .slice B7 G.bs.length d7] 25))); have HXc := hide (heap_keep (unhide HXc) (below_alloc hb7 (.cells #[.int .u64 (G.dst : Int), .int .u64 (G.src : Int), .bool G.tag, .int .i64 G.prio, .int .i64 G.vid, .int .i64 G.kind, .slice B7 G.bs.length d7] 25))); obtain ⟨x0, x1, x2, x3, x4, x5, x6⟩ := fr_cells (unhide HXc); clear hr7 hb7))
    | (go_at_call 19; ((with_reducible refine (unhide K19 _ (unhide HBc)).mono ?_); rintro e w8 ⟨B8, d8, rfl, hr8, hb8⟩; have HR8 := hide (rowA_below hr8 (below_alloc (Below.refl _ _) (.cells #[.int .u64 (H.dst : Int), .int .u64 (H.src : Int), .bool H.tag, .int .i64 H.prio, .int .i64 H.vid, .int .i64 H.kind, .slice B8 H.bs.length d8] 25))); have HG8 := hide (heap_keep (unhide HG7) (below_alloc hb8 (.cells #[.int .u64 (H.dst : Int), .int .u64 (H.src : Int), .bool H.tag, .int .i64 H.prio, .int .i64 H.vid, .int .i64 H.kind, .slice B8 H.bs.length d8] 25))); have HR7 := hide (rowA_below (unhide HR7) (below_alloc hb8 (.cells #[.int .u64 (H.dst : Int), .int .u64 (H.src : Int), .bool H.tag, .int .i64 H.prio, .int .i64 H.vid, .int .i64 H.kind, .slice B8 H.bs.length d8] 25))); have HH8 := hide (heap_alloc_new w8 (.cells #[.int .u64 (H.dst : Int), .int .u64 (H.src : Int), .bool H.tag, .int .i64 H.prio, .int .i64 H.vid, .int .i64 H.kind, .slice B8 H.bs.length d8] 25)); have HBc := hide (below_then (unhide HBc) (below_alloc hb8 (.cells #[.int .u64 (H.dst : Int), .int .u64 (H.src : Int), .bool H.tag, .int .i64 H.prio, .int .i64 H.vid, .int .i64 H.kind, .slice B8 H.bs.length d8] 25))); have HXc := hide (heap_keep (unhide HXc) (below_alloc hb8 (.cells #[.int .u64 (H.dst : Int), .int .u64 (H.src : Int), .bool H.tag, .int .i64 H.prio, .int .i64 H.vid, .int .i64 H.kind, .slice B8 H.bs.length d8] 25))); obtain ⟨x0, x1, x2, x3, x4, x5, x6⟩ := fr_cells (unhide HXc); clear hr8 hb8)))
  generalize w8.alloc (.cells #[.int .u64 (H.dst : Int), .int .u64 (H.src : Int), .bool H.tag, .int .i64 H.prio, .int .i64 H.vid, .int .i64 H.kind, .slice B8 H.bs.length d8] 25) = w9 at *
  clear x0 x1 x2 x3 x4 x5 x6
  have HSK := hide (fun W (hW : Below w9.heap.size w9 W) => (⟨hW, fr_cells (heap_keep (unhide HG8) hW), fr_cells (heap_keep (unhide HH8) hW)⟩ : Below w9.heap.size w9 W ∧ (W.cell? ⟨w7.heap.size, 0, none⟩ = some (.int .u64 (G.dst : Int)) ∧ W.cell? ⟨w7.heap.size, 1, none⟩ = some (.int .u64 (G.src : Int)) ∧ W.cell? ⟨w7.heap.size, 2, none⟩ = some (.bool G.tag) ∧ W.cell? ⟨w7.heap.size, 3, none⟩ = some (.int .i64 G.prio) ∧ W.cell? ⟨w7.heap.size, 4, none⟩ = some (.int .i64 G.vid) ∧ W.cell? ⟨w7.heap.size, 5, none⟩ = some (.int .i64 G.kind) ∧ W.cell? ⟨w7.heap.size, 6, none⟩ = some (.slice B7 G.bs.length d7)) ∧ (W.cell? ⟨w8.heap.size, 0, none⟩ = some (.int .u64 (H.dst : Int)) ∧ W.cell? ⟨w8.heap.size, 1, none⟩ = some (.int .u64 (H.src : Int)) ∧ W.cell? ⟨w8.heap.size, 2, none⟩ = some (.bool H.tag) ∧ W.cell? ⟨w8.heap.size, 3, none⟩ = some (.int .i64 H.prio) ∧ W.cell? ⟨w8.heap.size, 4, none⟩ = some (.int .i64 H.vid) ∧ W.cell? ⟨w8.heap.size, 5, none⟩ = some (.int .i64 H.kind) ∧ W.cell? ⟨w8.heap.size, 6, none⟩ = some (.slice B8 H.bs.length d8))))
  go_cut [89] from 19 (fun v w' => v = .bool false ∧ Below w9.heap.size w9 w')
  case first =>
    go_region_held3 (fun W => Below w9.heap.size w9 W ∧ (W.cell? ⟨w7.heap.size, 0, none⟩ = some (.int .u64 (G.dst : Int)) ∧ W.cell? ⟨w7.heap.size, 1, none⟩ = some (.int .u64 (G.src : Int)) ∧ W.cell? ⟨w7.heap.size, 2, none⟩ = some (.bool G.tag) ∧ W.cell? ⟨w7.heap.size, 3, none⟩ = some (.int .i64 G.prio) ∧ W.cell? ⟨w7.heap.size, 4, none⟩ = some (.int .i64 G.vid) ∧ W.cell? ⟨w7.heap.size, 5, none⟩ = some (.int .i64 G.kind) ∧ W.cell? ⟨w7.heap.size, 6, none⟩ = some (.slice B7 G.bs.length d7)) ∧ (W.cell? ⟨w8.heap.size, 0, none⟩ = some (.int .u64 (H.dst : Int)) ∧ W.cell? ⟨w8.heap.size, 1, none⟩ = some (.int .u64 (H.src : Int)) ∧ W.cell? ⟨w8.heap.size, 2, none⟩ = some (.bool H.tag) ∧ W.cell? ⟨w8.heap.size, 3, none⟩ = some (.int .i64 H.prio) ∧ W.cell? ⟨w8.heap.size, 4, none⟩ = some (.int .i64 H.vid) ∧ W.cell? ⟨w8.heap.size, 5, none⟩ = some (.int .i64 H.kind) ∧ W.cell? ⟨w8.heap.size, 6, none⟩ = some (.slice B8 H.bs.length d8)))
      ((go_split_ands; refine unhide HSK _ ?_; (repeat (first | (with_reducible assumption) | (with_reducible exact Below.refl _ _) | (with_reducible refine Below.drew ?_) | (with_reducible refine below_drewN ?_ _) | (with_reducible refine below_alloc ?_ _)))))
      (first
        | (go_at_call 19; (with_reducible refine (unhide K19g _ _ _ (rowA_below (unhide HR7) (by (repeat (first | (with_reducible assumption) | (with_reducible exact Below.refl _ _) | (with_reducible refine Below.drew ?_) | (with_reducible refine below_drewN ?_ _) | (with_reducible refine below_alloc ?_ _)))))).mono ?_); rintro e wa ⟨Ba, da, rfl, hra, hba⟩; have HRa := hide hra; have hbd := below_then (by (repeat (first | (with_reducible assumption) | (with_reducible exact Below.refl _ _) | (with_reducible refine Below.drew ?_) | (with_reducible refine below_drewN ?_ _) | (with_reducible refine below_alloc ?_ _))) : Below w9.heap.size w9 _) hba; clear hra hba)
        | (go_at_call 16; (with_reducible refine (frames_two _ H Ba B8 da d8 (rowA_below (unhide HRa) (by (repeat (first | (with_reducible assumption) | (with_reducible exact Below.refl _ _) | (with_reducible refine Below.drew ?_) | (with_reducible refine below_drewN ?_ _) | (with_reducible refine below_alloc ?_ _))))) (rowA_below (unhide HR8) (by (repeat (first | (with_reducible assumption) | (with_reducible exact Below.refl _ _) | (with_reducible refine Below.drew ?_) | (with_reducible refine below_drewN ?_ _) | (with_reducible refine below_alloc ?_ _)))))).mono ?_); rintro e wb ⟨rfl, hbb⟩; have hbd2 := below_then (by (repeat (first | (with_reducible assumption) | (with_reducible exact Below.refl _ _) | (with_reducible refine Below.drew ?_) | (with_reducible refine below_drewN ?_ _) | (with_reducible refine below_alloc ?_ _))) : Below w9.heap.size w9 _) hbb; clear hbb))
    all_goals
      go_wp2
      go_meet
      case rel => exact ⟨rfl, by assumption⟩
  case rest =>
    obtain ⟨rfl, hbc⟩ := hcut
    have HBd := hide (below_then (unhide HBc) hbc)
    have HX1 := hide (heap_keep (unhide HXc) hbc)
    have HG1 := hide (heap_keep (unhide HG8) hbc)
    have HH1 := hide (heap_keep (unhide HH8) hbc)
    clear hbc
    obtain ⟨x0, x1, x2, x3, x4, x5, x6⟩ := fr_cells (unhide HX1)
    go_wp2_with (first
      | (go_at_call 13; ((with_reducible refine (unhide K13f _).mono ?_); rintro e y1 ⟨rfl, hy1⟩; have HY1 := hide hy1; have HX2 := hide (heap_keep (unhide HX1) hy1); have HG2 := hide (heap_keep (unhide HG1) hy1); have HH2 := hide (heap_keep (unhide HH1) hy1); have z6 : y1.cell? ⟨w.heap.size, 6, none⟩ = some (.slice A f.bs.length c) := (heap_cell (unhide HX2) 6).1; obtain ⟨g0, g1, g2, g3, g4, g5, g6⟩ := fr_cells (unhide HG2); clear hy1))
      | (go_at_call 13; ((with_reducible refine (unhide K13g _ _ _).mono ?_); rintro e y2 ⟨rfl, hy2⟩; have HY2 := hide hy2; have HH3 := hide (heap_keep (unhide HH2) hy2); obtain ⟨k0, k1, k2, k3, k4, k5, k6⟩ := fr_cells (unhide HH3); clear hy2))
      | (go_at_call 13; ((with_reducible refine (unhide K13h _ _ _).mono ?_); rintro e y3 ⟨rfl, hy3⟩; have HY3 := hide hy3; clear hy3))
      | (go_at_call 7; with_reducible refine (wakes_any _).mono ?_; rintro e y9 ⟨rfl, hy9⟩; have HY9 := hide hy9; clear hy9))
    go_ret
    exact ⟨rfl, below_then (unhide HBd) (below_then (unhide HY1) (below_then (unhide HY2) (below_then (unhide HY3) (unhide HY9))))⟩
set_option maxRecDepth 10000 in
set_option maxHeartbeats 8000000 in
theorem back_2 (f : Fr) (hf : f.Fit) (A : Option Addr) (c : Nat) (X : Option Addr) (bs : List Nat) (cx u : Nat) (w : World) (hu : u < 65536) (hA : RowA w A (u8s f.bs)) (hl : f.bs.length ≤ 2000) (hX : RowA w X (u8s bs)) (hx : ∀ x ∈ bs, x < 256) (hn : bs.length ≤ 2000) (hc1 : bs.length ≤ cx) (hc2 : cx ≤ 9223372036854775807) (T : Fr) (hg : goodF f = true) (hp : parsN bs = (T, 0)) (hgT : goodF T = true) (hET : encB T = bs) (hfT : T.Fit) (hb : ¬ f.bs.length ≤ 1500) : Calls Try.prog 5 #[.agg #[.int .u64 (f.dst : Int), .int .u64 (f.src : Int), .bool f.tag, .int .i64 f.prio, .int .i64 f.vid, .int .i64 f.kind, .slice A f.bs.length c], .slice X bs.length cx, .int .u16 u] w fun e w' => e = .returned (.bool true) ∧ Below w.heap.size w w' := by
  have h' : ¬ (2000 : Int) < (f.bs.length : Int) := by omega
  have h'' : ¬ (2000 : Int) < (bs.length : Int) := by omega
  have HBc : Hid (Below w.heap.size w (w.alloc (.cells #[.int .u64 (f.dst : Int), .int .u64 (f.src : Int), .bool f.tag, .int .i64 f.prio, .int .i64 f.vid, .int .i64 f.kind, .slice A f.bs.length c] 25))) := hide (below_alloc (Below.refl _ _) _)
  have HXc : Hid ((w.alloc (.cells #[.int .u64 (f.dst : Int), .int .u64 (f.src : Int), .bool f.tag, .int .i64 f.prio, .int .i64 f.vid, .int .i64 f.kind, .slice A f.bs.length c] 25)).heap[w.heap.size]? = some (.cells #[.int .u64 (f.dst : Int), .int .u64 (f.src : Int), .bool f.tag, .int .i64 f.prio, .int .i64 f.vid, .int .i64 f.kind, .slice A f.bs.length c] 25 (0, 0))) := hide (heap_alloc_new _ _)
  obtain ⟨v, hv⟩ : ∃ v : Int, v = 1 + (u : Int) % 4094 := ⟨_, rfl⟩
  have hv1 : 1 ≤ v ∧ v ≤ 4094 := by omega
  have K16 := hide (fun W (hW : Below w.heap.size w W) B d (hB : RowA W B (u8s f.bs)) => frames_two W f B A d c hB (rowA_below hA hW))
  have K17 := hide (fun W (hW : Below w.heap.size w W) => tagged_any f A c v W (rowA_below hA hW) (by omega) hv1.1 hv1.2)
  have K19 := hide (fun W (hW : Below w.heap.size w W) => bare_any f A c W (rowA_below hA hW) (by omega))
  have K19g := hide (fun W B d (hB : RowA W B (u8s (tagdF f v).bs)) => bare_any (tagdF f v) B d W hB (by show f.bs.length ≤ _; omega))
  rw [bare_tagd] at K19g
  have K11b := hide (fun W (hW : Below w.heap.size w W) => parse_any X cx bs W hx (rowA_below hX hW) (by omega) hc1 hc2)
  rw [hp] at K11b
  have K13f := hide (fun W => fgood_any f hf A c W)
  rw [hg] at K13f
  have K13g := hide (fun W B d => fgood_any (tagdF f v) (tagd_fit f hf v hv1.1 hv1.2) B d W)
  have K13h := hide (fun W B d => fgood_any (bareF f) (bare_fit f hf) B d W)
  have K8 := hide (fun W (hW : Below w.heap.size w W) => encode_yes f hf hg A c W (rowA_below hA hW))
  have K11a := hide (fun W B d (hB : RowA W B (u8s (encB f))) (h1 : (encB f).length ≤ d) (h2 : d ≤ 9223372036854775807) => parse_any B d (encB f) W (encB_lt f hf hg) hB (by have h3 := encB_len f; have h4 : leastN f.tag ≤ 18 := (by cases f.tag <;> simp [leastN]); omega) h1 h2)
  rw [pars_enc f hg] at K11a
  have hbi : (1500 : Int) < (f.bs.length : Int) := by omega
  have K8b := hide (fun W B d (hB : RowA W B (u8s T.bs)) => encode_yes T hfT hgT B d W hB)
  rw [hET] at K8b
  have K15 := hide (fun W (hW : Below w.heap.size w W) B d (hB : RowA W B (u8s bs)) => kbytes_same W B X d cx bs hB (rowA_below hX hW))
  unfold EncO FrO2 FrO at *
  obtain ⟨G, hG⟩ : ∃ G, G = tagdF f v := ⟨_, rfl⟩
  obtain ⟨H, hH⟩ : ∃ H, H = bareF f := ⟨_, rfl⟩
  have hGb : (tagdF f v).bs = f.bs := rfl
  rw [← hG] at K17 K19g K13g
  rw [← hH] at K19 K19g K13h
  simp only at K11b
  simp only at K11a
  generalize encB f = E at *
  clear hET hgT hfT
  clear hG hH hGb hA hX hx hf hp hl hc1 hc2 hg hv1 hb
  go_enter Try.func5, Try.ntmps5
  have HV := hide hv.symm
  have hv2 : 1 + (u : Int) % 4094 = v := hv.symm
  clear hv
  go_upto_region 16 with (first
    | (go_at_call 8; ((with_reducible refine (unhide K8 _ (unhide HBc)).mono ?_); rintro e w2 ⟨B2, d2, rfl, hr2, hb2, hd1, hd2⟩; have HR2 := hide hr2; have HD1 := hide hd1; have HD2 := hide hd2; have HBc := hide (below_then (unhide HBc) (hb2)); have HXc := hide (heap_keep (unhide HXc) (hb2)); obtain ⟨x0, x1, x2, x3, x4, x5, x6⟩ := fr_cells (unhide HXc); clear hr2 hb2 hd1 hd2))
    | (go_at_call 11; ((with_reducible refine (unhide K11a _ _ _ (unhide HR2) (unhide HD1) (unhide HD2)).mono ?_); rintro e w3 ⟨B3, d3, rfl, hr3, hb3⟩; have HR3 := hide (rowA_below hr3 (below_alloc (Below.refl _ _) (.cells #[.int .u64 (f.dst : Int), .int .u64 (f.src : Int), .bool f.tag, .int .i64 f.prio, .int .i64 f.vid, .int .i64 f.kind, .slice B3 f.bs.length d3] 25))); have HBc := hide (below_then (unhide HBc) (below_alloc hb3 (.cells #[.int .u64 (f.dst : Int), .int .u64 (f.src : Int), .bool f.tag, .int .i64 f.prio, .int .i64 f.vid, .int .i64 f.kind, .slice B3 f.bs.length d3] 25))); have HXc := hide (heap_keep (unhide HXc) (below_alloc hb3 (.cells #[.int .u64 (f.dst : Int), .int .u64 (f.src : Int), .bool f.tag, .int .i64 f.prio, .int .i64 f.vid, .int .i64 f.kind, .slice B3 f.bs.length d3] 25))); obtain ⟨x0, x1, x2, x3, x4, x5, x6⟩ := fr_cells (unhide HXc); clear hr3 hb3))
    | (go_at_call 16; ((with_reducible refine (unhide K16 _ (unhide HBc) _ _ (unhide HR3)).mono ?_); rintro e w4 ⟨rfl, hb4⟩; have HBc := hide (below_then (unhide HBc) (hb4)); have HXc := hide (heap_keep (unhide HXc) (hb4)); obtain ⟨x0, x1, x2, x3, x4, x5, x6⟩ := fr_cells (unhide HXc); clear hb4))
    | (go_at_call 11; ((with_reducible refine (unhide K11b _ (unhide HBc)).mono ?_); rintro e w5 ⟨B5, d5, rfl, hr5, hb5⟩; have HR5 := hide (rowA_below hr5 (below_alloc (Below.refl _ _) (.cells #[.int .u64 (T.dst : Int), .int .u64 (T.src : Int), .bool T.tag, .int .i64 T.prio, .int .i64 T.vid, .int .i64 T.kind, .slice B5 T.bs.length d5] 25))); have HBc := hide (below_then (unhide HBc) (below_alloc hb5 (.cells #[.int .u64 (T.dst : Int), .int .u64 (T.src : Int), .bool T.tag, .int .i64 T.prio, .int .i64 T.vid, .int .i64 T.kind, .slice B5 T.bs.length d5] 25))); have HXc := hide (heap_keep (unhide HXc) (below_alloc hb5 (.cells #[.int .u64 (T.dst : Int), .int .u64 (T.src : Int), .bool T.tag, .int .i64 T.prio, .int .i64 T.vid, .int .i64 T.kind, .slice B5 T.bs.length d5] 25))); obtain ⟨x0, x1, x2, x3, x4, x5, x6⟩ := fr_cells (unhide HXc); clear hr5 hb5))
    | (go_at_call 8; ((with_reducible refine (unhide K8b _ _ _ (unhide HR5)).mono ?_); rintro e w6 ⟨B6, d6, rfl, hr6, hb6, _, _⟩; have HR6 := hide hr6; have HBc := hide (below_then (unhide HBc) (hb6)); have HXc := hide (heap_keep (unhide HXc) (hb6)); obtain ⟨x0, x1, x2, x3, x4, x5, x6⟩ := fr_cells (unhide HXc); clear hr6 hb6))
    | (go_at_call 15; ((with_reducible refine (unhide K15 _ (unhide HBc) _ _ (unhide HR6)).mono ?_); rintro e w6x ⟨rfl, rfl⟩))
    | (go_at_call 17; ((with_reducible refine (unhide K17 _ (unhide HBc)).mono ?_); rintro e w7 ⟨B7, d7, rfl, hr7, hb7⟩; have HR7 := hide (rowA_below hr7 (below_alloc (Below.refl _ _) (.cells #[.int .u64 (G.dst : Int), .int .u64 (G.src : Int), .bool G.tag, .int .i64 G.prio, .int .i64 G.vid, .int .i64 G.kind, .slice B7 G.bs.length d7] 25))); have HG7 := hide (heap_alloc_new w7 (.cells #[.int .u64 (G.dst : Int), .int .u64 (G.src : Int), .bool G.tag, .int .i64 G.prio, .int .i64 G.vid, .int .i64 G.kind, .slice B7 G.bs.length d7] 25)); have HBc := hide (below_then (unhide HBc) (below_alloc hb7 (.cells #[.int .u64 (G.dst : Int), .int .u64 (G.src : Int), .bool G.tag, .int .i64 G.prio, .int .i64 G.vid, .int .i64 G.kind, .slice B7 G.bs.length d7] 25))); have HXc := hide (heap_keep (unhide HXc) (below_alloc hb7 (.cells #[.int .u64 (G.dst : Int), .int .u64 (G.src : Int), .bool G.tag, .int .i64 G.prio, .int .i64 G.vid, .int .i64 G.kind, .slice B7 G.bs.length d7] 25))); obtain ⟨x0, x1, x2, x3, x4, x5, x6⟩ := fr_cells (unhide HXc); clear hr7 hb7))
    | (go_at_call 19; ((with_reducible refine (unhide K19 _ (unhide HBc)).mono ?_); rintro e w8 ⟨B8, d8, rfl, hr8, hb8⟩; have HR8 := hide (rowA_below hr8 (below_alloc (Below.refl _ _) (.cells #[.int .u64 (H.dst : Int), .int .u64 (H.src : Int), .bool H.tag, .int .i64 H.prio, .int .i64 H.vid, .int .i64 H.kind, .slice B8 H.bs.length d8] 25))); have HG8 := hide (heap_keep (unhide HG7) (below_alloc hb8 (.cells #[.int .u64 (H.dst : Int), .int .u64 (H.src : Int), .bool H.tag, .int .i64 H.prio, .int .i64 H.vid, .int .i64 H.kind, .slice B8 H.bs.length d8] 25))); have HR7 := hide (rowA_below (unhide HR7) (below_alloc hb8 (.cells #[.int .u64 (H.dst : Int), .int .u64 (H.src : Int), .bool H.tag, .int .i64 H.prio, .int .i64 H.vid, .int .i64 H.kind, .slice B8 H.bs.length d8] 25))); have HH8 := hide (heap_alloc_new w8 (.cells #[.int .u64 (H.dst : Int), .int .u64 (H.src : Int), .bool H.tag, .int .i64 H.prio, .int .i64 H.vid, .int .i64 H.kind, .slice B8 H.bs.length d8] 25)); have HBc := hide (below_then (unhide HBc) (below_alloc hb8 (.cells #[.int .u64 (H.dst : Int), .int .u64 (H.src : Int), .bool H.tag, .int .i64 H.prio, .int .i64 H.vid, .int .i64 H.kind, .slice B8 H.bs.length d8] 25))); have HXc := hide (heap_keep (unhide HXc) (below_alloc hb8 (.cells #[.int .u64 (H.dst : Int), .int .u64 (H.src : Int), .bool H.tag, .int .i64 H.prio, .int .i64 H.vid, .int .i64 H.kind, .slice B8 H.bs.length d8] 25))); obtain ⟨x0, x1, x2, x3, x4, x5, x6⟩ := fr_cells (unhide HXc); clear hr8 hb8)))
  generalize w8.alloc (.cells #[.int .u64 (H.dst : Int), .int .u64 (H.src : Int), .bool H.tag, .int .i64 H.prio, .int .i64 H.vid, .int .i64 H.kind, .slice B8 H.bs.length d8] 25) = w9 at *
  clear x0 x1 x2 x3 x4 x5 x6
  have HSK := hide (fun W (hW : Below w9.heap.size w9 W) => (⟨hW, fr_cells (heap_keep (unhide HG8) hW), fr_cells (heap_keep (unhide HH8) hW)⟩ : Below w9.heap.size w9 W ∧ (W.cell? ⟨w7.heap.size, 0, none⟩ = some (.int .u64 (G.dst : Int)) ∧ W.cell? ⟨w7.heap.size, 1, none⟩ = some (.int .u64 (G.src : Int)) ∧ W.cell? ⟨w7.heap.size, 2, none⟩ = some (.bool G.tag) ∧ W.cell? ⟨w7.heap.size, 3, none⟩ = some (.int .i64 G.prio) ∧ W.cell? ⟨w7.heap.size, 4, none⟩ = some (.int .i64 G.vid) ∧ W.cell? ⟨w7.heap.size, 5, none⟩ = some (.int .i64 G.kind) ∧ W.cell? ⟨w7.heap.size, 6, none⟩ = some (.slice B7 G.bs.length d7)) ∧ (W.cell? ⟨w8.heap.size, 0, none⟩ = some (.int .u64 (H.dst : Int)) ∧ W.cell? ⟨w8.heap.size, 1, none⟩ = some (.int .u64 (H.src : Int)) ∧ W.cell? ⟨w8.heap.size, 2, none⟩ = some (.bool H.tag) ∧ W.cell? ⟨w8.heap.size, 3, none⟩ = some (.int .i64 H.prio) ∧ W.cell? ⟨w8.heap.size, 4, none⟩ = some (.int .i64 H.vid) ∧ W.cell? ⟨w8.heap.size, 5, none⟩ = some (.int .i64 H.kind) ∧ W.cell? ⟨w8.heap.size, 6, none⟩ = some (.slice B8 H.bs.length d8))))
  go_cut [89] from 19 (fun v w' => v = .bool false ∧ Below w9.heap.size w9 w')
  case first =>
    go_region_held3 (fun W => Below w9.heap.size w9 W ∧ (W.cell? ⟨w7.heap.size, 0, none⟩ = some (.int .u64 (G.dst : Int)) ∧ W.cell? ⟨w7.heap.size, 1, none⟩ = some (.int .u64 (G.src : Int)) ∧ W.cell? ⟨w7.heap.size, 2, none⟩ = some (.bool G.tag) ∧ W.cell? ⟨w7.heap.size, 3, none⟩ = some (.int .i64 G.prio) ∧ W.cell? ⟨w7.heap.size, 4, none⟩ = some (.int .i64 G.vid) ∧ W.cell? ⟨w7.heap.size, 5, none⟩ = some (.int .i64 G.kind) ∧ W.cell? ⟨w7.heap.size, 6, none⟩ = some (.slice B7 G.bs.length d7)) ∧ (W.cell? ⟨w8.heap.size, 0, none⟩ = some (.int .u64 (H.dst : Int)) ∧ W.cell? ⟨w8.heap.size, 1, none⟩ = some (.int .u64 (H.src : Int)) ∧ W.cell? ⟨w8.heap.size, 2, none⟩ = some (.bool H.tag) ∧ W.cell? ⟨w8.heap.size, 3, none⟩ = some (.int .i64 H.prio) ∧ W.cell? ⟨w8.heap.size, 4, none⟩ = some (.int .i64 H.vid) ∧ W.cell? ⟨w8.heap.size, 5, none⟩ = some (.int .i64 H.kind) ∧ W.cell? ⟨w8.heap.size, 6, none⟩ = some (.slice B8 H.bs.length d8)))
      ((go_split_ands; refine unhide HSK _ ?_; (repeat (first | (with_reducible assumption) | (with_reducible exact Below.refl _ _) | (with_reducible refine Below.drew ?_) | (with_reducible refine below_drewN ?_ _) | (with_reducible refine below_alloc ?_ _)))))
      (first
        | (go_at_call 19; (with_reducible refine (unhide K19g _ _ _ (rowA_below (unhide HR7) (by (repeat (first | (with_reducible assumption) | (with_reducible exact Below.refl _ _) | (with_reducible refine Below.drew ?_) | (with_reducible refine below_drewN ?_ _) | (with_reducible refine below_alloc ?_ _)))))).mono ?_); rintro e wa ⟨Ba, da, rfl, hra, hba⟩; have HRa := hide hra; have hbd := below_then (by (repeat (first | (with_reducible assumption) | (with_reducible exact Below.refl _ _) | (with_reducible refine Below.drew ?_) | (with_reducible refine below_drewN ?_ _) | (with_reducible refine below_alloc ?_ _))) : Below w9.heap.size w9 _) hba; clear hra hba)
        | (go_at_call 16; (with_reducible refine (frames_two _ H Ba B8 da d8 (rowA_below (unhide HRa) (by (repeat (first | (with_reducible assumption) | (with_reducible exact Below.refl _ _) | (with_reducible refine Below.drew ?_) | (with_reducible refine below_drewN ?_ _) | (with_reducible refine below_alloc ?_ _))))) (rowA_below (unhide HR8) (by (repeat (first | (with_reducible assumption) | (with_reducible exact Below.refl _ _) | (with_reducible refine Below.drew ?_) | (with_reducible refine below_drewN ?_ _) | (with_reducible refine below_alloc ?_ _)))))).mono ?_); rintro e wb ⟨rfl, hbb⟩; have hbd2 := below_then (by (repeat (first | (with_reducible assumption) | (with_reducible exact Below.refl _ _) | (with_reducible refine Below.drew ?_) | (with_reducible refine below_drewN ?_ _) | (with_reducible refine below_alloc ?_ _))) : Below w9.heap.size w9 _) hbb; clear hbb))
    all_goals
      go_wp2
      go_meet
      case rel => exact ⟨rfl, by assumption⟩
  case rest =>
    obtain ⟨rfl, hbc⟩ := hcut
    have HBd := hide (below_then (unhide HBc) hbc)
    have HX1 := hide (heap_keep (unhide HXc) hbc)
    have HG1 := hide (heap_keep (unhide HG8) hbc)
    have HH1 := hide (heap_keep (unhide HH8) hbc)
    clear hbc
    obtain ⟨x0, x1, x2, x3, x4, x5, x6⟩ := fr_cells (unhide HX1)
    go_wp2_with (first
      | (go_at_call 13; ((with_reducible refine (unhide K13f _).mono ?_); rintro e y1 ⟨rfl, hy1⟩; have HY1 := hide hy1; have HX2 := hide (heap_keep (unhide HX1) hy1); have HG2 := hide (heap_keep (unhide HG1) hy1); have HH2 := hide (heap_keep (unhide HH1) hy1); have z6 : y1.cell? ⟨w.heap.size, 6, none⟩ = some (.slice A f.bs.length c) := (heap_cell (unhide HX2) 6).1; obtain ⟨g0, g1, g2, g3, g4, g5, g6⟩ := fr_cells (unhide HG2); clear hy1))
      | (go_at_call 7; with_reducible refine (wakes_any _).mono ?_; rintro e y9 ⟨rfl, hy9⟩; have HY9 := hide hy9; clear hy9))
    go_ret
    exact ⟨rfl, below_then (unhide HBd) (below_then (unhide HY1) (unhide HY9))⟩
end Go.Proofs.Ythonngnmdciheaa
