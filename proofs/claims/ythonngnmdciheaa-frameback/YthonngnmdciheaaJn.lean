/- join; keep.Bytes, keep.Frames; copied. -/
import Derived.Test.YthonngnmdciheaaGz
namespace Go.Proofs.Ythonngnmdciheaa
open Go.RowKit
set_option linter.unusedVariables false
/-- A part: where it lies, its room, its bytes. -/
abbrev Part := Option Addr × Nat × List Nat
abbrev partV (p : Part) : Value := .slice p.1 p.2.2.length p.2.1
def joined (ps : List Part) : List Nat := ps.flatMap fun p => p.2.2
theorem joined_take (ps : List Part) (k : Nat) (h : k < ps.length) : joined (ps.take (k + 1)) = joined (ps.take k) ++ ps[k].2.2 := by
  unfold joined
  rw [List.take_succ_eq_append_getElem h, List.flatMap_append]
  simp
theorem joined_le (ps : List Part) (k : Nat) : (joined (ps.take k)).length ≤ (joined ps).length := by
  have h := List.take_append_drop k ps
  have : joined ps = joined (ps.take k) ++ joined (ps.drop k) := by
    unfold joined; rw [← List.flatMap_append, h]
  rw [this]; simp
theorem u8s_len (xs : List Nat) : (u8s xs).length = xs.length := by simp [u8s]
theorem u8s_one (xs : List Nat) : ∀ u ∈ u8s xs, u.oneCell' = true := by
  intro u hu; unfold u8s at hu; obtain ⟨x, _, rfl⟩ := List.mem_map.1 hu; rfl
def partsV (ps : List Part) : List Value := ps.map partV
theorem partsV_get (ps : List Part) (k : Nat) (h : k < ps.length) : (partsV ps)[k]? = some (partV ps[k]) := by
  unfold partsV; rw [List.getElem?_map, List.getElem?_eq_getElem h]; rfl
set_option maxHeartbeats 1000000 in
theorem join_any (A : Option Addr) (c : Nat) (ps : List Part) (w : World) (hA : RowA w A (partsV ps)) (hP : ∀ p ∈ ps, RowA w p.1 (u8s p.2.2)) (hl : (joined ps).length ≤ 100000) (hn : ps.length ≤ 10) :
    Calls Try.prog 22 #[.slice A ps.length c] w fun e w' => ∃ v, e = .returned v ∧ w'.ownsRow w.heap.size 5 1 v (joined ps).length (u8s (joined ps)) ∧ Below w.heap.size w w' := by
  obtain ⟨i0, hi, hz0, hz1, hz2⟩ := i5
  go_enter Try.func22, Try.ntmps22
  go_wp2
  go_loopw [3, 5, 8] (fun v _ i W => ∃ k : Nat, k ≤ ps.length ∧ i = .int .i64 k ∧ W.ownsRow w.heap.size 5 1 v (joined (ps.take k)).length (u8s (joined (ps.take k))) ∧ Below w.heap.size w W) (fun _ _ i _ => (ps.length - (intOf i).toNat))
  case atStart => exact ⟨0, by omega, rfl, ⟨rfl, .inl ⟨rfl, rfl⟩⟩, Below.refl _ _⟩
  case round =>
    obtain ⟨k, hk, rfl, ho, hb⟩ := hrel
    have HO := hide ho
    have HB := hide hb
    clear ho hb
    by_cases hk6 : k < ps.length
    · obtain ⟨b, off, rfl, hc⟩ := rowA_below hA (unhide HB) (by intro h; have := congrArg List.length h; simp [partsV] at this; subst this; simp at hk6)
      have hcell := hc k _ (partsV_get ps k hk6)
      have hPk := hide (hP ps[k] (List.getElem_mem _))
      have HJ := hide (joined_take ps k hk6)
      have hJl := joined_le ps (k + 1)
      rw [joined_take ps k hk6, List.length_append] at hJl
      unfold partV at hcell
      generalize ps[k] = p at *
      clear hc hA hP
      go_wp2_with (first
        | (at_builtin; refine wpList_append_row rfl _ _ 23 rfl w.heap.size 5 i0 (.int .u8 0) 1 1 Try.underlying23 hi hz0 hz1 hz2 rfl (by decide) (by decide) _ (joined (ps.take k)).length (u8s (joined (ps.take k))) rfl (unhide HO) p.1 p.2.2.length p.2.1 (u8s p.2.2) rfl (by rw [u8s_len]; simp) (rowA_below (unhide hPk) (unhide HB)) (u8s_one _) (by omega) ((unhide HB).size) ?_; intro v2 w2 h2 h3 _; have HO2 := hide h2; have HB2 := hide (below_base (unhide HB) h3 (fun k e => ((unhide HO).lt k e).1)); clear h2 h3))
      go_roundw
      case rel => exact ⟨k + 1, by omega, by go_num, own_to (unhide HO2) (by rw [unhide HJ, List.length_append]) (by rw [unhide HJ, u8s_app]), unhide HB2⟩
      case measure => simp [intOf]; omega
    · obtain rfl : k = ps.length := by omega
      rw [List.take_of_length_le (Nat.le_refl _)] at HO
      clear hA hP
      go_wp2
      go_ret
      exact ⟨_, rfl, unhide HO, unhide HB⟩
/-- What is joined, as a slice. -/
theorem join_row (A : Option Addr) (c : Nat) (ps : List Part) (w : World) (hA : RowA w A (partsV ps)) (hP : ∀ p ∈ ps, RowA w p.1 (u8s p.2.2)) (hl : (joined ps).length ≤ 100000) (hn : ps.length ≤ 10) :
    Calls Try.prog 22 #[.slice A ps.length c] w fun e w' => ∃ B d, e = .returned (.slice B (joined ps).length d) ∧ RowA w' B (u8s (joined ps)) ∧ Below w.heap.size w w' :=
  (join_any A c ps w hA hP hl hn).mono fun e w' ⟨v, he, ho, hb⟩ => by
    obtain ⟨B, d, rfl, hr⟩ := own_row1 ho
    exact ⟨B, d, he, hr, hb⟩
theorem kbytes_same (w : World) (A B : Option Addr) (c d : Nat) (xs : List Nat) (hA : RowA w A (u8s xs)) (hB : RowA w B (u8s xs)) :
    Calls Try.prog 15 #[.slice A xs.length c, .slice B xs.length d] w fun e w' => e = .returned (.bool true) ∧ w' = w := by
  have h1 := conv_row hA c
  have h2 := conv_row hB d
  go_enter Try.func15, Try.ntmps15
  go_wp2
  go_ret
  exact ⟨rfl, rfl⟩
theorem frames_same (w : World) (f : Fr) (hf : f.Fit) (A B : Option Addr) (c d : Nat) (hA : RowA w A (u8s f.bs)) (hB : RowA w B (u8s f.bs)) :
    Calls Try.prog 16 #[.agg #[.int .u64 (f.dst : Int), .int .u64 (f.src : Int), .bool f.tag, .int .i64 f.prio, .int .i64 f.vid, .int .i64 f.kind, .slice A f.bs.length c], .agg #[.int .u64 (f.dst : Int), .int .u64 (f.src : Int), .bool f.tag, .int .i64 f.prio, .int .i64 f.vid, .int .i64 f.kind, .slice B f.bs.length d]] w fun e w' => e = .returned (.bool true) ∧ Below w.heap.size w w' := by
  have h1 := conv_row (rowA_below hA (below_alloc (below_alloc (Below.refl _ _) (.cells #[.int .u64 (f.dst : Int), .int .u64 (f.src : Int), .bool f.tag, .int .i64 f.prio, .int .i64 f.vid, .int .i64 f.kind, .slice A f.bs.length c] 25)) (.cells #[.int .u64 (f.dst : Int), .int .u64 (f.src : Int), .bool f.tag, .int .i64 f.prio, .int .i64 f.vid, .int .i64 f.kind, .slice B f.bs.length d] 25))) c
  have h2 := conv_row (rowA_below hB (below_alloc (below_alloc (Below.refl _ _) (.cells #[.int .u64 (f.dst : Int), .int .u64 (f.src : Int), .bool f.tag, .int .i64 f.prio, .int .i64 f.vid, .int .i64 f.kind, .slice A f.bs.length c] 25)) (.cells #[.int .u64 (f.dst : Int), .int .u64 (f.src : Int), .bool f.tag, .int .i64 f.prio, .int .i64 f.vid, .int .i64 f.kind, .slice B f.bs.length d] 25))) d
  go_enter Try.func16, Try.ntmps16
  go_wp2
  go_ret
  exact ⟨rfl, below_alloc (below_alloc (Below.refl _ _) _) _⟩
theorem own_lit1 (w : World) : (w.alloc (.cells #[] 5)).ownsRow w.heap.size 5 1 (.slice (some ⟨w.heap.size, 0, none⟩) 0 0) 0 [] := own_lit0 w
end Go.Proofs.Ythonngnmdciheaa
