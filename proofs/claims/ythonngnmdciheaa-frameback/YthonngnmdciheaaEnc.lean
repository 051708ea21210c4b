/- Encode. -/
import Derived.Test.YthonngnmdciheaaTag
import Derived.Test.YthonngnmdciheaaGall
namespace Go.Proofs.Ythonngnmdciheaa
open Go.RowKit
set_option linter.unusedVariables false
def EncO (e : Ending) (b : List Nat) (k : Int) (W w' : World) : Prop := ∃ B d, e = .returned (.tuple #[.slice B b.length d, .int .i64 k]) ∧ RowA w' B (u8s b) ∧ Below W.heap.size W w' ∧ b.length ≤ d ∧ d ≤ 9223372036854775807
theorem sixL_len (n : Nat) : (sixL n).length = 6 := rfl
theorem row46 {n : Nat} {W : World} {g : Nat} {t : TypeId} (h : W.heap[g]? = some (.cells (lay6 n) t (0, 0))) : RowA W (some ⟨g, 0, none⟩) (u8s (sixL n)) := by
  intro _
  refine ⟨_, _, rfl, fun j u hj => ?_⟩
  rw [Nat.zero_add, (heap_cell h j).1, ← hj]
  exact Array.getElem?_toList.symm
theorem goodF_parts (f : Fr) (h : goodF f = true) : tagF f = true ∧ 0 ≤ f.kind ∧ f.kind ≤ 65535 ∧ f.bs.length ≤ 1504 ∧ f.dst < 281474976710656 ∧ f.src < 281474976710656 := by
  simp [goodF, placesF, kindF, goodN] at h
  obtain ⟨⟨h1, h2, _⟩, h3, ⟨h4, h5, _⟩, h6⟩ := h
  refine ⟨h3, h4, h5, ?_, h1, h2⟩
  have h7 : 14 ≤ leastN f.tag := by cases f.tag <;> simp [leastN]
  have h8 : (f.bs.length : Int) ≤ 1518 - (leastN f.tag : Int) := by simpa [leastN] using h6
  omega
theorem tagB_len (f : Fr) : (tagB f).length ≤ 4 := by unfold tagB; split <;> simp [twoB]
theorem encode_no (f : Fr) (hf : f.Fit) (hg : goodF f = false) (A : Option Addr) (c : Nat) (w : World) : Calls Try.prog 8 #[.agg #[.int .u64 (f.dst : Int), .int .u64 (f.src : Int), .bool f.tag, .int .i64 f.prio, .int .i64 f.vid, .int .i64 f.kind, .slice A f.bs.length c]] w fun e w' => EncO e [] 11 w w' := by
  have G := hide (fun W => fgood_any f hf A c W)
  rw [hg] at G
  have HB : Hid (Below w.heap.size w (w.alloc (.cells #[.int .u64 (f.dst : Int), .int .u64 (f.src : Int), .bool f.tag, .int .i64 f.prio, .int .i64 f.vid, .int .i64 f.kind, .slice A f.bs.length c] 25))) := hide (below_alloc (Below.refl _ _) _)
  go_enter Try.func8, Try.ntmps8
  go_wp2_with (go_at_call 13; (with_reducible refine (unhide G _).mono ?_); rintro e w1 ⟨rfl, hb1⟩; have HB1 := hide hb1; clear hb1)
  go_ret2
  exact ⟨none, 0, rfl, rowA_nil _ _, below_then (unhide HB) (unhide HB1), Nat.le_refl _, Nat.zero_le _⟩
set_option maxHeartbeats 8000000 in
theorem encode_yes (f : Fr) (hf : f.Fit) (hg : goodF f = true) (A : Option Addr) (c : Nat) (w : World) (hA : RowA w A (u8s f.bs)) : Calls Try.prog 8 #[.agg #[.int .u64 (f.dst : Int), .int .u64 (f.src : Int), .bool f.tag, .int .i64 f.prio, .int .i64 f.vid, .int .i64 f.kind, .slice A f.bs.length c]] w fun e w' => EncO e (encB f) 0 w w' := by
  obtain ⟨p1, p2, p3, p4, _, _⟩ := goodF_parts f hg
  have G := hide (fun W => fgood_any f hf A c W)
  rw [hg] at G
  have KT := hide (fun W => tag_any f p1 A c W)
  have KK := hide (fun W => two_row' f.kind.toNat (by omega) W)
  rw [show ((f.kind.toNat : Nat) : Int) = f.kind by omega] at KK
  have HB : Hid (Below w.heap.size w (w.alloc (.cells #[.int .u64 (f.dst : Int), .int .u64 (f.src : Int), .bool f.tag, .int .i64 f.prio, .int .i64 f.vid, .int .i64 f.kind, .slice A f.bs.length c] 25))) := hide (below_alloc (Below.refl _ _) _)
  have HA := hide (fun W (hW : Below w.heap.size w W) => rowA_below hA hW)
  have htl := tagB_len f
  have KJ := hide (fun (W : World) gA gB T tc N2 (h1 : RowA W (some ⟨gA, 0, none⟩) (u8s (sixL f.dst))) (h2 : RowA W (some ⟨gB, 0, none⟩) (u8s (sixL f.src))) (h3 : RowA W T (u8s (tagB f))) (h4 : RowA W (some ⟨N2, 0, none⟩) (u8s (twoB f.kind.toNat))) (h5 : RowA W A (u8s f.bs)) N hN => join_fresh W [(some ⟨gA, 0, none⟩, 6, sixL f.dst), (some ⟨gB, 0, none⟩, 6, sixL f.src), (T, tc, tagB f), (some ⟨N2, 0, none⟩, 2, twoB f.kind.toNat), (A, c, f.bs)] #[.slice (some ⟨gA, 0, none⟩) 6 6, .slice (some ⟨gB, 0, none⟩) 6 6, .slice T (tagB f).length tc, .slice (some ⟨N2, 0, none⟩) 2 2, .slice A f.bs.length c] rfl (by intro p hp; simp at hp; rcases hp with rfl | rfl | rfl | rfl | rfl; exact h1; exact h2; exact h3; exact h4; exact h5) (by simp [joined, twoB, sixL]; omega) (by simp) N 5 hN rfl)
  have e2 : ∀ gA gB T tc N2, joined [(some (⟨gA, 0, none⟩ : Addr), 6, sixL f.dst), (some (⟨gB, 0, none⟩ : Addr), 6, sixL f.src), (T, tc, tagB f), (some (⟨N2, 0, none⟩ : Addr), 2, twoB f.kind.toNat), (A, c, f.bs)] = encB f := by intro gA gB T tc N2; simp [joined, encB]
  simp only [e2] at KJ
  clear e2 p1 p2 p3 p4 hA htl
  have BD := hide (fun W => bytes_any f.dst W)
  have BS := hide (fun W => bytes_any f.src W)
  rw [show lay f.dst 6 = #[Value.int .u8 (byN f.dst 0 : Nat), Value.int .u8 (byN f.dst 1 : Nat), Value.int .u8 (byN f.dst 2 : Nat), Value.int .u8 (byN f.dst 3 : Nat), Value.int .u8 (byN f.dst 4 : Nat), Value.int .u8 (byN f.dst 5 : Nat)] from rfl] at BD
  rw [show lay f.src 6 = #[Value.int .u8 (byN f.src 0 : Nat), Value.int .u8 (byN f.src 1 : Nat), Value.int .u8 (byN f.src 2 : Nat), Value.int .u8 (byN f.src 3 : Nat), Value.int .u8 (byN f.src 4 : Nat), Value.int .u8 (byN f.src 5 : Nat)] from rfl] at BS
  have HX : Hid ((w.alloc (.cells #[.int .u64 (f.dst : Int), .int .u64 (f.src : Int), .bool f.tag, .int .i64 f.prio, .int .i64 f.vid, .int .i64 f.kind, .slice A f.bs.length c] 25)).heap[w.heap.size]? = some (.cells #[.int .u64 (f.dst : Int), .int .u64 (f.src : Int), .bool f.tag, .int .i64 f.prio, .int .i64 f.vid, .int .i64 f.kind, .slice A f.bs.length c] 25 (0, 0))) := hide (heap_alloc_new _ _)
  have HX1 := hide (fun w1 (h : Below (w.alloc (.cells #[.int .u64 (f.dst : Int), .int .u64 (f.src : Int), .bool f.tag, .int .i64 f.prio, .int .i64 f.vid, .int .i64 f.kind, .slice A f.bs.length c] 25)).heap.size (w.alloc (.cells #[.int .u64 (f.dst : Int), .int .u64 (f.src : Int), .bool f.tag, .int .i64 f.prio, .int .i64 f.vid, .int .i64 f.kind, .slice A f.bs.length c] 25)) w1) => heap_keep (unhide HX) h)
  go_enter Try.func8, Try.ntmps8
  go_wp2_with (go_at_call 13; (with_reducible refine (unhide G _).mono ?_); rintro e w1 ⟨rfl, hb1⟩; have HC1 := hide (unhide HX1 _ hb1); have HB1 := hide hb1; clear hb1)
  have HSK := hide (fr_keep (unhide HC1))
  go_cut [4, 5] from 6 (fun va vb w' => ∃ gA gB, va = .pointer (some ⟨gA, 0, none⟩) ∧ vb = .pointer (some ⟨gB, 0, none⟩) ∧ w'.heap[gA]? = some (.cells (lay6 f.dst) 46 (0, 0)) ∧ w'.heap[gB]? = some (.cells (lay6 f.src) 46 (0, 0)) ∧ Below w1.heap.size w1 w')
  case first =>
    go_region_held3 (fun W => Below w1.heap.size w1 W ∧ W.cell? ⟨w.heap.size, 0, none⟩ = some (.int .u64 (f.dst : Int)) ∧ W.cell? ⟨w.heap.size, 1, none⟩ = some (.int .u64 (f.src : Int)))
      ((go_split_ands; refine (fun hW => ⟨hW, (unhide HSK _ hW).2.1, (unhide HSK _ hW).2.2.1⟩ : ∀ {W}, Below w1.heap.size w1 W → Below w1.heap.size w1 W ∧ W.cell? ⟨w.heap.size, 0, none⟩ = some (.int .u64 (f.dst : Int)) ∧ W.cell? ⟨w.heap.size, 1, none⟩ = some (.int .u64 (f.src : Int))) ?_; (repeat (first | (with_reducible assumption) | (with_reducible exact Below.refl _ _) | (with_reducible refine Below.drew ?_) | (with_reducible refine below_drewN ?_ _) | (with_reducible refine below_alloc ?_ _) | (with_reducible refine below_set ?_ _ _ _ (by omega))))))
      (first
        | (go_at_call 21; (with_reducible refine (unhide BD _).mono ?_); rintro e wa ⟨rfl, hba⟩; have HA1 := hide (below_then (by (repeat (first | (with_reducible assumption) | (with_reducible exact Below.refl _ _) | (with_reducible refine Below.drew ?_) | (with_reducible refine below_drewN ?_ _) | (with_reducible refine below_alloc ?_ _))) : Below w1.heap.size w1 _) hba); have hba' := unhide HA1; (try (have zA := hide ((heap_keep (by first | exact heap_alloc_new _ _ | exact heap_old _ _ _ _ (heap_alloc_new _ _) | exact heap_new2 _ _ _) hba : wa.heap[w1.heap.size]? = some (Obj.cells #[.int .u8 0, .int .u8 0, .int .u8 0, .int .u8 0, .int .u8 0, .int .u8 0] 46 (0, 0)))))); (try (have zB := hide ((heap_keep (by first | exact heap_alloc_new _ _ | exact heap_old _ _ _ _ (heap_alloc_new _ _) | exact heap_new2 _ _ _) hba : wa.heap[w1.heap.size + 1]? = some (Obj.cells #[.int .u8 0, .int .u8 0, .int .u8 0, .int .u8 0, .int .u8 0, .int .u8 0] 46 (0, 0)))))); have sA := hba.size; (try simp at sA); clear hba)
        | (go_at_call 21; (with_reducible refine (unhide BS _).mono ?_); rintro e wb ⟨rfl, hbb⟩; have HA2 := hide (below_then (by (repeat (first | (with_reducible assumption) | (with_reducible exact Below.refl _ _) | (with_reducible refine Below.drew ?_) | (with_reducible refine below_drewN ?_ _) | (with_reducible refine below_alloc ?_ _))) : Below w1.heap.size w1 _) hbb); have hbb' := unhide HA2; (try (have yA := ((heap_keep (by first | exact unhide zA | exact heap_old _ _ _ _ (unhide zA) | exact heap_old _ _ _ _ (heap_old _ _ _ _ (unhide zA))) hbb : wb.heap[w1.heap.size]? = some (Obj.cells #[.int .u8 0, .int .u8 0, .int .u8 0, .int .u8 0, .int .u8 0, .int .u8 0] 46 (0, 0)))); have HyA := hide yA; have LyA := lt_of_get yA; have NyA := Nat.ne_of_lt (lt_of_get yA); obtain ⟨yAm0, yAl0⟩ := heap_cell yA 0; obtain ⟨yAm1, yAl1⟩ := heap_cell yA 1; obtain ⟨yAm2, yAl2⟩ := heap_cell yA 2; obtain ⟨yAm3, yAl3⟩ := heap_cell yA 3; obtain ⟨yAm4, yAl4⟩ := heap_cell yA 4; obtain ⟨yAm5, yAl5⟩ := heap_cell yA 5; clear yA)); (try (have yB := ((heap_keep (by first | exact unhide zB | exact heap_old _ _ _ _ (unhide zB) | exact heap_old _ _ _ _ (heap_old _ _ _ _ (unhide zB))) hbb : wb.heap[w1.heap.size + 1]? = some (Obj.cells #[.int .u8 0, .int .u8 0, .int .u8 0, .int .u8 0, .int .u8 0, .int .u8 0] 46 (0, 0)))); have HyB := hide yB; have LyB := lt_of_get yB; have NyB := Nat.ne_of_lt (lt_of_get yB); obtain ⟨yBm0, yBl0⟩ := heap_cell yB 0; obtain ⟨yBm1, yBl1⟩ := heap_cell yB 1; obtain ⟨yBm2, yBl2⟩ := heap_cell yB 2; obtain ⟨yBm3, yBl3⟩ := heap_cell yB 3; obtain ⟨yBm4, yBl4⟩ := heap_cell yB 4; obtain ⟨yBm5, yBl5⟩ := heap_cell yB 5; clear yB)); (try (have yC := ((heap_keep (by first | exact heap_alloc_new _ _ | exact heap_old _ _ _ _ (heap_alloc_new _ _) | exact heap_new2 _ _ _) hbb : wb.heap[wa.heap.size]? = some (Obj.cells #[.int .u8 0, .int .u8 0, .int .u8 0, .int .u8 0, .int .u8 0, .int .u8 0] 46 (0, 0)))); have HyC := hide yC; have LyC := lt_of_get yC; have NyC := Nat.ne_of_lt (lt_of_get yC); obtain ⟨yCm0, yCl0⟩ := heap_cell yC 0; obtain ⟨yCm1, yCl1⟩ := heap_cell yC 1; obtain ⟨yCm2, yCl2⟩ := heap_cell yC 2; obtain ⟨yCm3, yCl3⟩ := heap_cell yC 3; obtain ⟨yCm4, yCl4⟩ := heap_cell yC 4; obtain ⟨yCm5, yCl5⟩ := heap_cell yC 5; clear yC)); (try (have yD := ((heap_keep (by first | exact heap_alloc_new _ _ | exact heap_old _ _ _ _ (heap_alloc_new _ _) | exact heap_new2 _ _ _) hbb : wb.heap[wa.heap.size + 1]? = some (Obj.cells #[.int .u8 0, .int .u8 0, .int .u8 0, .int .u8 0, .int .u8 0, .int .u8 0] 46 (0, 0)))); have HyD := hide yD; have LyD := lt_of_get yD; have NyD := Nat.ne_of_lt (lt_of_get yD); obtain ⟨yDm0, yDl0⟩ := heap_cell yD 0; obtain ⟨yDm1, yDl1⟩ := heap_cell yD 1; obtain ⟨yDm2, yDl2⟩ := heap_cell yD 2; obtain ⟨yDm3, yDl3⟩ := heap_cell yD 3; obtain ⟨yDm4, yDl4⟩ := heap_cell yD 4; obtain ⟨yDm5, yDl5⟩ := heap_cell yD 5; clear yD)); have sB := hbb.size; (try simp at sB); clear hbb))
    all_goals
      go_wp2
      go_meet
      case rel =>
        refine ⟨_, _, rfl, rfl, ?_, ?_, ?_⟩
        rotate_left 2
        · (repeat (first | (with_reducible assumption) | (with_reducible exact Below.refl _ _) | (with_reducible refine Below.drew ?_) | (with_reducible refine below_drewN ?_ _) | (with_reducible refine below_alloc ?_ _) | (with_reducible refine below_set ?_ _ _ _ (by omega))))
        all_goals
          (repeat (first
            | (with_reducible exact heap_alloc_new _ _)
            | (with_reducible exact heap_new2 _ _ _)
            | (with_reducible exact unhide HyA)
            | (with_reducible exact unhide HyB)
            | (with_reducible exact unhide HyC)
            | (with_reducible exact unhide HyD)
            | ((with_reducible refine heap_new _ _ _ ?_); simp [World.setCell]; done)
            | (with_reducible refine heap_old _ _ _ _ ?_)
            | (with_reducible refine heap_sets6 (x0 := .int .u8 0) (x1 := .int .u8 0) (x2 := .int .u8 0) (x3 := .int .u8 0) (x4 := .int .u8 0) (x5 := .int .u8 0) ?_ _ _ _ _ _ _)
            | (with_reducible refine heap_setC ?_ (by omega) _ _)))
  case rest =>
    obtain ⟨gA, gB, rfl, rfl, hgA, hgB, hb2⟩ := hcut
    have HB2 := hide hb2
    have HGA := hide hgA
    have HGB := hide hgB
    have HC2 := hide (heap_keep (unhide HC1) hb2)
    have HAB := hide (below_then (unhide HB) (below_then (unhide HB1) hb2))
    clear hgA hgB hb2
    have HSK := hide (fr_keep (unhide HC2))
    go_wp2
    go_region_held3 (fun W => Below wc.heap.size wc W ∧ W.cell? ⟨w.heap.size, 0, none⟩ = some (.int .u64 (f.dst : Int)) ∧ W.cell? ⟨w.heap.size, 1, none⟩ = some (.int .u64 (f.src : Int)) ∧ W.cell? ⟨w.heap.size, 2, none⟩ = some (.bool f.tag) ∧ W.cell? ⟨w.heap.size, 3, none⟩ = some (.int .i64 f.prio) ∧ W.cell? ⟨w.heap.size, 4, none⟩ = some (.int .i64 f.vid) ∧ W.cell? ⟨w.heap.size, 5, none⟩ = some (.int .i64 f.kind) ∧ W.cell? ⟨w.heap.size, 6, none⟩ = some (.slice A f.bs.length c))
      ((go_split_ands; refine unhide HSK _ ?_; (repeat (first | (with_reducible assumption) | (with_reducible exact Below.refl _ _) | (with_reducible refine Below.drew ?_) | (with_reducible refine below_drewN ?_ _) | (with_reducible refine below_alloc ?_ _)))))
      (first
        | (go_at_call 23; (with_reducible refine (unhide KT _).mono ?_); rintro e wa ⟨T, tc, rfl, hr1, hba⟩; have HR1 := hide hr1; have HA1 := hide (below_then (by (repeat (first | (with_reducible assumption) | (with_reducible exact Below.refl _ _) | (with_reducible refine Below.drew ?_) | (with_reducible refine below_drewN ?_ _) | (with_reducible refine below_alloc ?_ _))) : Below wc.heap.size wc _) hba); have hba' := unhide HA1; clear hr1 hba)
        | (go_at_call 24; (with_reducible refine (unhide KK _).mono ?_); rintro e wb ⟨N2, rfl, hr2, hbb⟩; have HR2 := hide hr2; have HR3 := hide (rowA_below (unhide HR1) (below_then (by (repeat (first | (with_reducible assumption) | (with_reducible exact Below.refl _ _) | (with_reducible refine Below.drew ?_) | (with_reducible refine below_drewN ?_ _) | (with_reducible refine below_alloc ?_ _))) : Below wa.heap.size wa _) hbb)); have HA2 := hide (below_then (by (repeat (first | (with_reducible assumption) | (with_reducible exact Below.refl _ _) | (with_reducible refine Below.drew ?_) | (with_reducible refine below_drewN ?_ _) | (with_reducible refine below_alloc ?_ _))) : Below wc.heap.size wc _) hbb); have hbb' := unhide HA2; clear hr2 hbb)
        | (go_at_call 22; (with_reducible refine (unhide KJ _ _ _ _ _ _ (row46 (heap_keep (unhide HGA) (unhide HA2))) (row46 (heap_keep (unhide HGB) (unhide HA2))) (unhide HR3) (unhide HR2) (unhide HA _ (below_then (unhide HAB) (unhide HA2))) _ ?_).mono ?_); (focus rfl); rintro e wd ⟨B, d, rfl, hr4, hbd, hd1, hd2⟩; have HD1 := hide hd1; have HD2 := hide hd2; clear hd1 hd2; have HR4 := hide hr4; have hbd' := below_then (unhide HA2) hbd; clear hr4 hbd))
    all_goals
      go_wp2
      go_ret2
      exact ⟨B, d, rfl, unhide HR4, below_then (unhide HAB) hbd', unhide HD1, unhide HD2⟩
end Go.Proofs.Ythonngnmdciheaa
