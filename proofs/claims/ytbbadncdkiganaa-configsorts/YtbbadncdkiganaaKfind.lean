/- Which VLAN has an id. -/
import Derived.Test.YtbbadncdkiganaaKmem
namespace Go.Proofs.Ytbbadncdkiganaa
open Go.RowKit
set_option linter.unusedVariables false
set_option maxRecDepth 4000

def posV (vs : List VlanC) (id : Int) : Nat := vs.findIdx (fun v => decide (v.1 = id))
theorem pos_hit {vs : List VlanC} {id : Int} {k : Nat} {v : VlanC} (hv : vs[k]? = some v) (h : v.1 = id) (hj : ∀ j x, j < k → vs[j]? = some x → x.1 ≠ id) : posV vs id = k ∧ findV vs id = some v := by
  obtain ⟨hk, rfl⟩ := List.getElem?_eq_some_iff.1 hv
  have e : posV vs id = k := by
    unfold posV
    rw [List.findIdx_eq hk]
    refine ⟨by simpa using h, fun j hj' => ?_⟩
    have := hj j _ hj' (List.getElem?_eq_getElem (by omega))
    simpa using this
  refine ⟨e, ?_⟩
  unfold findV
  rw [List.find?_eq_some_iff_getElem]
  refine ⟨by simpa using h, k, hk, rfl, fun j hj' => ?_⟩
  have := hj j _ hj' (List.getElem?_eq_getElem (by omega))
  simpa using this
theorem pos_miss {vs : List VlanC} {id : Int} (hj : ∀ j x, j < vs.length → vs[j]? = some x → x.1 ≠ id) : findV vs id = none := by
  unfold findV
  rw [List.find?_eq_none]
  intro x hx
  obtain ⟨j, hj', rfl⟩ := List.getElem_of_mem hx
  have := hj j _ hj' (List.getElem?_eq_getElem hj')
  simpa using this
set_option maxHeartbeats 1000000 in
theorem index_any (A : Option Addr) (vs : List VlanC) (cap g : Nat) (id : Int) (w : World) (hA : RowA w A (fl encV vs)) (hg : w.cell? ⟨g, 0, none⟩ = some (.int .i64 id)) (hl : vs.length ≤ 100) :
    Calls Try.prog 60 #[.slice A vs.length cap, .func (.func 61) #[] #[.pointer (some ⟨g, 0, none⟩)]] w fun e w' => (∃ (k : Nat) (v : VlanC), e = .returned (.int .i64 k) ∧ vs[k]? = some v ∧ findV vs id = some v ∧ Below w.heap.size w w') ∨ (e = .returned (.int .i64 (-1)) ∧ findV vs id = none ∧ Below w.heap.size w w') := by
  have hfind := fun v W hW => finder_any v g id W hW
  have HF := hide hfind
  clear hfind
  have HG := hide (fun W (hW : Below w.heap.size w W) => keep_cell hg hW)
  clear hg
  obtain ⟨n, hn⟩ : ∃ n, vs.length = n := ⟨_, rfl⟩
  have HN := hide hn
  rw [hn] at hl ⊢
  clear hn
  go_enter Try.func60, Try.ntmps60
  go_wp2
  go_loopg [8] n (fun gg s8 wr => ∃ kk : Nat, kk ≤ n ∧ n - kk ≤ gg ∧ s8 = .int .i64 kk ∧ Aside (Below w.heap.size w wr) ∧ Aside (∀ j x, j < kk → vs[j]? = some x → x.1 ≠ id))
  case atStart => exact ⟨0, Nat.zero_le _, by omega, rfl, Below.refl _ w, fun j x hj => absurd hj (Nat.not_lt_zero _)⟩
  case round =>
    obtain ⟨kk, hkk, hg, rfl, BW, M⟩ := hrel
    by_cases hlt : kk < n
    · have hltz : (kk : Int) < (n : Int) := by omega
      obtain ⟨b, off, rfl, hc⟩ := rowV_at hA (by have := unhide HN; omega)
      obtain ⟨v, hv⟩ : ∃ v, vs[kk]? = some v := ⟨_, List.getElem?_eq_getElem (by have := unhide HN; omega)⟩
      obtain ⟨c0, c1, c2⟩ := hc wr BW.out kk v hv
      have HV := hide hv
      clear hc hv hA
      have hcall := unhide HF v wr (unhide HG wr BW.out)
      by_cases e : v.1 = id
      · rw [decide_eq_true e] at hcall
        have E := hide e
        clear e
        go_wp2_with (go_at_call 61; refine hcall.mono ?_; rintro x w' ⟨rfl, hb'⟩)
        go_ret
        obtain ⟨p1, p2⟩ := pos_hit (unhide HV) (unhide E) M.out
        exact .inl ⟨kk, v, rfl, unhide HV, p2, below_then BW.out hb'⟩
      · rw [decide_eq_false e] at hcall
        have E := hide e
        clear e
        go_wp2_with (go_at_call 61; refine hcall.mono ?_; rintro x w' ⟨rfl, hb'⟩)
        go_roundg (n - (kk + 1))
        case measure => omega
        case rel =>
          refine ⟨kk + 1, by omega, by omega, by go_num, below_then BW.out hb', (show Aside _ from fun j x hj hx => ?_)⟩
          by_cases e : j = kk
          · subst e
            have := unhide HV
            rw [this] at hx
            cases hx
            exact unhide E
          · exact M.out j x (by omega) hx
    · have hltz : ¬ (kk : Int) < (n : Int) := by omega
      have : kk = n := by omega
      subst this
      go_wp2
      go_ret
      exact .inr ⟨rfl, pos_miss (fun j x hj => M.out j x (by have := unhide HN; omega)), BW.out⟩
theorem index_yes {A : Option Addr} {vs : List VlanC} {id : Int} {v : VlanC} (hf : findV vs id = some v) (cap g : Nat) (w : World) (hA : RowA w A (fl encV vs)) (hg : w.cell? ⟨g, 0, none⟩ = some (.int .i64 id)) (hl : vs.length ≤ 100) :
    Calls Try.prog 60 #[.slice A vs.length cap, .func (.func 61) #[] #[.pointer (some ⟨g, 0, none⟩)]] w fun e w' => ∃ k : Nat, e = .returned (.int .i64 k) ∧ vs[k]? = some v ∧ Below w.heap.size w w' := by
  refine (index_any A vs cap g id w hA hg hl).mono ?_
  rintro e w' (⟨k, v', h1, h2, h3, h4⟩ | ⟨h1, h2, h3⟩)
  · rw [hf] at h3
    cases h3
    exact ⟨k, h1, h2, h4⟩
  · rw [hf] at h2
    cases h2
theorem index_no {A : Option Addr} {vs : List VlanC} {id : Int} (hf : findV vs id = none) (cap g : Nat) (w : World) (hA : RowA w A (fl encV vs)) (hg : w.cell? ⟨g, 0, none⟩ = some (.int .i64 id)) (hl : vs.length ≤ 100) :
    Calls Try.prog 60 #[.slice A vs.length cap, .func (.func 61) #[] #[.pointer (some ⟨g, 0, none⟩)]] w fun e w' => e = .returned (.int .i64 (-1)) ∧ Below w.heap.size w w' := by
  refine (index_any A vs cap g id w hA hg hl).mono ?_
  rintro e w' (⟨k, v', h1, h2, h3, h4⟩ | ⟨h1, h2, h3⟩)
  · rw [hf] at h3
    cases h3
  · exact ⟨h1, h3⟩
theorem lt_get {α : Type} {l : List α} {k : Nat} {x : α} (h : l[k]? = some x) : k < l.length := (List.getElem?_eq_some_iff.1 h).1
theorem lt_of_get {w : World} {g : Nat} {o : Obj} (h : w.heap[g]? = some o) : g < w.heap.size := by
  rcases Nat.lt_or_ge g w.heap.size with h1 | h1
  · exact h1
  · rw [Array.getElem?_eq_none h1] at h; cases h
theorem heap_new (w : World) (o : Obj) (N : Nat) (h : N = w.heap.size) : (w.alloc o).heap[N]? = some o := by subst h; exact heap_alloc_new w o
theorem heap_keep {w W : World} {g : Nat} {o : Obj} (h : w.heap[g]? = some o) (hb : Below w.heap.size w W) : W.heap[g]? = some o := (hb.block g (lt_of_get h)).trans h
theorem Try.size46 : (Try.prog.info? 46).map (·.size) = some 3 := by kernel_rfl
set_option maxHeartbeats 1000000 in
theorem find_yes {A : Option Addr} {vs : List VlanC} {id : Int} {v : VlanC} (hf : findV vs id = some v) (cap : Nat) (w : World) (hA : RowA w A (fl encV vs)) (hl : vs.length ≤ 100) :
    Calls Try.prog 45 #[.slice A vs.length cap, .int .i64 id] w fun e w' => e = .returned (.tuple #[.agg #[.int .i64 v.1, .int .u8 v.2.1, .int .u8 v.2.2], .bool true]) ∧ Below w.heap.size w w' := by
  have HX := hide (fun (W : World) (hW : Below w.heap.size w W) (hg : W.cell? ⟨w.heap.size, 0, none⟩ = some (.int .i64 id)) => index_yes hf cap w.heap.size W (rowA_below hA hW) hg hl)
  have hpos : 0 < vs.length := by
    unfold findV at hf
    cases vs with
    | nil => simp at hf
    | cons a t => simp
  obtain ⟨b, off, rfl, hc⟩ := rowV_at hA hpos
  have HC := hide hc
  clear hc hA hf
  obtain ⟨n, hn⟩ : ∃ n, vs.length = n := ⟨_, rfl⟩
  have HN := hide hn
  rw [hn] at hl hpos HX ⊢
  clear hn
  have HB2 : Hid (Below w.heap.size w ((w.alloc (.cells #[.int .i64 id] 3)).alloc (.cells #[.int .i64 0, .int .u8 0, .int .u8 0] 46))) := below_alloc (below_alloc (Below.refl _ _) _) _
  have HG2 : Hid (((w.alloc (.cells #[.int .i64 id] 3)).alloc (.cells #[.int .i64 0, .int .u8 0, .int .u8 0] 46)).cell? ⟨w.heap.size, 0, none⟩ = some (.int .i64 id)) := Lib.cell?_alloc_marked _ (cell_lit rfl rfl)
  have HR2 : Hid (((w.alloc (.cells #[.int .i64 id] 3)).alloc (.cells #[.int .i64 0, .int .u8 0, .int .u8 0] 46)).heap[w.heap.size + 1]? = some (.cells #[.int .i64 0, .int .u8 0, .int .u8 0] 46 (0, 0))) := heap_new _ _ _ (by simp)
  go_enter Try.func45, Try.ntmps45
  go_wp2_with (go_at_call 60; (with_reducible refine (unhide HX _ (unhide HB2) (unhide HG2)).mono ?_); rintro e w1 ⟨k, rfl, hk, hb1⟩; have hkn := lt_get hk; (rw [unhide HN] at hkn); have hb2 := below_then (unhide HB2) hb1; obtain ⟨c0, c1, c2⟩ := unhide HC w1 hb2 k v hk; have HK := hide hk; have hr := heap_keep (unhide HR2) hb1; obtain ⟨n0, f0⟩ := heap_cell hr 0; obtain ⟨n1, f1⟩ := heap_cell hr 1; obtain ⟨n2, f2⟩ := heap_cell hr 2; have HR := hide hr; have HB := hide hb2; clear hk hr hb1 hb2)
  have hfin := heap_set (heap_set (heap_set (unhide HR) 0 (.int .i64 v.1)) 1 (.int .u8 v.2.1)) 2 (.int .u8 v.2.2)
  exact ret_cell2 rfl rfl rfl rfl hfin Try.underlying46 rfl Try.size46 ⟨rfl, below_set (below_set (below_set (unhide HB) _ _ _ (by omega)) _ _ _ (by omega)) _ _ _ (by omega)⟩
set_option maxHeartbeats 1000000 in
theorem find_no {A : Option Addr} {vs : List VlanC} {id : Int} (hf : findV vs id = none) (cap : Nat) (w : World) (hA : RowA w A (fl encV vs)) (hl : vs.length ≤ 100) :
    Calls Try.prog 45 #[.slice A vs.length cap, .int .i64 id] w fun e w' => e = .returned (.tuple #[.agg #[.int .i64 0, .int .u8 0, .int .u8 0], .bool false]) ∧ Below w.heap.size w w' := by
  have HX := hide (fun (W : World) (hW : Below w.heap.size w W) (hg : W.cell? ⟨w.heap.size, 0, none⟩ = some (.int .i64 id)) => index_no hf cap w.heap.size W (rowA_below hA hW) hg hl)
  clear hA hf
  obtain ⟨n, hn⟩ : ∃ n, vs.length = n := ⟨_, rfl⟩
  rw [hn] at hl HX ⊢
  clear hn
  have HB2 : Hid (Below w.heap.size w ((w.alloc (.cells #[.int .i64 id] 3)).alloc (.cells #[.int .i64 0, .int .u8 0, .int .u8 0] 46))) := below_alloc (below_alloc (Below.refl _ _) _) _
  have HG2 : Hid (((w.alloc (.cells #[.int .i64 id] 3)).alloc (.cells #[.int .i64 0, .int .u8 0, .int .u8 0] 46)).cell? ⟨w.heap.size, 0, none⟩ = some (.int .i64 id)) := Lib.cell?_alloc_marked _ (cell_lit rfl rfl)
  have HR2 : Hid (((w.alloc (.cells #[.int .i64 id] 3)).alloc (.cells #[.int .i64 0, .int .u8 0, .int .u8 0] 46)).heap[w.heap.size + 1]? = some (.cells #[.int .i64 0, .int .u8 0, .int .u8 0] 46 (0, 0))) := heap_new _ _ _ (by simp)
  go_enter Try.func45, Try.ntmps45
  go_wp2_with (go_at_call 60; (with_reducible refine (unhide HX _ (unhide HB2) (unhide HG2)).mono ?_); rintro e w1 ⟨rfl, hb1⟩; have hb2 := below_then (unhide HB2) hb1; have hr := heap_keep (unhide HR2) hb1; obtain ⟨n0, f0⟩ := heap_cell hr 0; obtain ⟨n1, f1⟩ := heap_cell hr 1; obtain ⟨n2, f2⟩ := heap_cell hr 2; have HR := hide hr; have HB := hide hb2; clear hr hb1 hb2)
  have hfin := heap_set (heap_set (heap_set (unhide HR) 0 (.int .i64 0)) 1 (.int .u8 0)) 2 (.int .u8 0)
  exact ret_cell2 rfl rfl rfl rfl hfin Try.underlying46 rfl Try.size46 ⟨rfl, below_set (below_set (below_set (unhide HB) _ _ _ (by omega)) _ _ _ (by omega)) _ _ _ (by omega)⟩
end Go.Proofs.Ytbbadncdkiganaa
