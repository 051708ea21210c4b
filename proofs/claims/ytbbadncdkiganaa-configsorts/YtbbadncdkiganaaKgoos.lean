/- Whether a configuration may be: its statics. -/
import Derived.Test.YtbbadncdkiganaaKgoop
namespace Go.Proofs.Ytbbadncdkiganaa
open Go.RowKit
set_option linter.unusedVariables false
set_option maxRecDepth 4000

theorem isMember_t {v : VlanC} {p : Int} (hv : 0 ≤ v.2.1 ∧ v.2.1 ≤ 255) (h : isMem v p = true) (w : World) : Calls Try.prog 47 #[.agg #[.int .i64 v.1, .int .u8 v.2.1, .int .u8 v.2.2], .int .i64 p] w fun e w' => e = .returned (.bool true) ∧ Below w.heap.size w w' := by
  have := isMember_any v hv p w
  rw [h] at this
  exact this
theorem isMember_f {v : VlanC} {p : Int} (hv : 0 ≤ v.2.1 ∧ v.2.1 ≤ 255) (h : isMem v p = false) (w : World) : Calls Try.prog 47 #[.agg #[.int .i64 v.1, .int .u8 v.2.1, .int .u8 v.2.2], .int .i64 p] w fun e w' => e = .returned (.bool false) ∧ Below w.heap.size w w' := by
  have := isMember_any v hv p w
  rw [h] at this
  exact this
theorem find_mem {vs : List VlanC} {id : Int} {v : VlanC} (h : findV vs id = some v) : v ∈ vs := List.mem_of_find?_eq_some h
set_option maxHeartbeats 8000000 in
theorem stats_any (x0 x1 x2 : Int) (Ap Av As : Option Addr) (np cp cv cs : Nat) (ss : List StatC) (vs : List VlanC) (hl : ss.length ≤ 100) (hlv : vs.length ≤ 100) (hT : ∀ v ∈ vs, 0 ≤ v.2.1 ∧ v.2.1 ≤ 255) (w : World) (hA : RowA w As (fl encS ss)) (hV : RowA w Av (fl encV vs)) :
    Calls Try.prog 31 #[.agg #[.int .i64 x0, .int .i64 x1, .int .i64 x2, .slice Ap np cp, .slice Av vs.length cv, .slice As ss.length cs]] w fun e w' => e = .returned (.bool (ss.all (statOk vs) && risB ltS ss)) ∧ Below w.heap.size w w' := by
  have HFY := hide (fun (W : World) (hW : Below w.heap.size w W) (id : Int) (v : VlanC) (hf : findV vs id = some v) => find_yes hf cv W (rowA_below hV hW) hlv)
  have HFN := hide (fun (W : World) (hW : Below w.heap.size w W) (id : Int) (hf : findV vs id = none) => find_no hf cv W (rowA_below hV hW) hlv)
  have HR := hide (fun (W : World) (hW : Below w.heap.size w W) => risingS_any As ss cs W (rowA_below hA hW) hl)
  have HT := hide hT
  clear hV hT
  obtain ⟨n, hn⟩ : ∃ n, ss.length = n := ⟨_, rfl⟩
  have HN := hide hn
  rw [hn] at hl HR ⊢
  clear hn
  obtain ⟨nv, hnv⟩ : ∃ nv, vs.length = nv := ⟨_, rfl⟩
  rw [hnv] at hlv HFY HFN ⊢
  clear hnv
  obtain ⟨r, hr⟩ : ∃ r, risB ltS ss = r := ⟨_, rfl⟩
  rw [hr] at HR ⊢
  clear hr
  have HB : Hid (Below w.heap.size w (w.alloc (.cells #[.int .i64 x0, .int .i64 x1, .int .i64 x2, .slice Ap np cp, .slice Av nv cv, .slice As n cs] 26))) := below_alloc (Below.refl _ _) _
  have c4 : (w.alloc (.cells #[.int .i64 x0, .int .i64 x1, .int .i64 x2, .slice Ap np cp, .slice Av nv cv, .slice As n cs] 26)).cell? ⟨w.heap.size, 4, none⟩ = some (.slice Av nv cv) := cell_lit rfl rfl
  have c5 : (w.alloc (.cells #[.int .i64 x0, .int .i64 x1, .int .i64 x2, .slice Ap np cp, .slice Av nv cv, .slice As n cs] 26)).cell? ⟨w.heap.size, 5, none⟩ = some (.slice As n cs) := cell_lit rfl rfl
  go_enter Try.func31, Try.ntmps31
  go_wp2
  generalize w.alloc (.cells #[.int .i64 x0, .int .i64 x1, .int .i64 x2, .slice Ap np cp, .slice Av nv cv, .slice As n cs] 26) = w1 at *
  have C4 := hide c4
  have C5 := hide c5
  clear c4 c5
  go_loopg [10] n (fun gg s13 wr => ∃ kk : Nat, kk ≤ n ∧ n - kk ≤ gg ∧ s13 = .int .i64 kk ∧ Aside (Below w1.heap.size w1 wr) ∧ Aside (∀ j x, j < kk → ss[j]? = some x → statOk vs x = true))
  case atStart => exact ⟨0, Nat.zero_le _, by omega, rfl, Below.refl _ _, fun j x hj => absurd hj (Nat.not_lt_zero _)⟩
  case round =>
    obtain ⟨kk, hkk, hg, rfl, BW, M⟩ := hrel
    by_cases hlt : kk < n
    · have hltz : (kk : Int) < (n : Int) := by omega
      obtain ⟨b, off, rfl, hc⟩ := rowS_at hA (by have := unhide HN; omega)
      obtain ⟨p, hv⟩ : ∃ v, ss[kk]? = some v := ⟨_, List.getElem?_eq_getElem (by have := unhide HN; omega)⟩
      have hbw := below_then (unhide HB) BW.out
      obtain ⟨c0, c1, c2⟩ := hc wr hbw kk p hv
      have d4 := cell_any (keep_cell (unhide C4) BW.out)
      have HNO : Hid (statOk vs p = false → Hid (false = (ss.all (statOk vs) && r))) := hide (fun h => hide (by rw [all_f hv h]; rfl))
      have HDO : Hid (statOk vs p = true → ∀ j x, j < kk + 1 → ss[j]? = some x → statOk vs x = true) := hide (all_do hv M.out)
      have HBW := hide hbw
      clear hc hv hA hbw
      have HP : Hid (∀ W, Below (wr.alloc (.cells #[.int .u64 p.1, .int .i64 p.2.1, .int .i64 p.2.2] 52)).heap.size (wr.alloc (.cells #[.int .u64 p.1, .int .i64 p.2.1, .int .i64 p.2.2] 52)) W → W.cell? ⟨wr.heap.size, 2, none⟩ = some (.int .i64 p.2.2)) := hide (fun W hW => (keep_cell (cell_lit rfl rfl) hW))
      have HP0 : Hid (∀ W, Below (wr.alloc (.cells #[.int .u64 p.1, .int .i64 p.2.1, .int .i64 p.2.2] 52)).heap.size (wr.alloc (.cells #[.int .u64 p.1, .int .i64 p.2.1, .int .i64 p.2.2] 52)) W → W.cell? ⟨wr.heap.size, 0, none⟩ = some (.int .u64 p.1)) := hide (fun W hW => (keep_cell (cell_lit rfl rfl) hW))
      have HW2 : Hid (Below w.heap.size w (wr.alloc (.cells #[.int .u64 p.1, .int .i64 p.2.1, .int .i64 p.2.2] 52))) := hide (below_alloc (unhide HBW) _)
      have HX2 : Hid (Below w1.heap.size w1 (wr.alloc (.cells #[.int .u64 p.1, .int .i64 p.2.1, .int .i64 p.2.2] 52))) := hide (below_alloc BW.out _)
      cases hf : findV vs p.2.1 with
      | none =>
        have HC := hide (unhide HFN _ (unhide HW2) p.2.1 hf)
        have HF := unhide HNO (by simp [statOk, hf])
        clear hf
        go_wp2_with (go_at_call 45; (with_reducible refine (unhide HC).mono ?_); rintro e w2 ⟨rfl, hb2⟩; have hb3 := below_then (unhide HW2) hb2; have HB3 := hide hb3; clear hb2 hb3)
        go_ret
        exact ⟨ret_bool (unhide HF), below_alloc (unhide HB3) _⟩
      | some v =>
        have HC := hide (unhide HFY _ (unhide HW2) p.2.1 v hf)
        have hvm := unhide HT v (find_mem hf)
        cases h1 : isMem v p.2.2 with
        | false =>
          have g1 := hide (isMember_f hvm h1)
          have HF := unhide HNO (by simp [statOk, hf, h1])
          clear hf h1 hvm
          go_wp2_with (first | (go_at_call 45; (with_reducible refine (unhide HC).mono ?_); rintro e w2 ⟨rfl, hb2⟩; have q1 := cell_any (unhide HP w2 hb2); have hb3 := below_then (unhide HW2) hb2; have HB3 := hide hb3; clear hb2 hb3) | (go_at_call 47; (with_reducible refine (unhide g1 _).mono ?_); rintro e w3 ⟨rfl, hb4⟩; have HB4 := hide hb4; clear hb4))
          go_ret
          exact ⟨ret_bool (unhide HF), below_then (below_alloc (unhide HB3) _) (unhide HB4)⟩
        | true =>
          have g1 := hide (isMember_t hvm h1)
          cases h2 : wi p.1 1 281474976710655 with
          | false =>
            have g2 := hide (within64_f h2)
            have HF := unhide HNO (by simp [statOk, hf, h1, h2])
            clear hf h1 h2 hvm
            go_wp2_with (first | (go_at_call 45; (with_reducible refine (unhide HC).mono ?_); rintro e w2 ⟨rfl, hb2⟩; have q1 := cell_any (unhide HP w2 hb2); have hb3 := below_then (unhide HW2) hb2; have HB3 := hide hb3; have HB2 := hide hb2; clear hb2 hb3) | (go_at_call 47; (with_reducible refine (unhide g1 _).mono ?_); rintro e w3 ⟨rfl, hb4⟩; have q0 := unhide HP0 w3 (below_then (below_alloc (unhide HB2) _) hb4); have HB4 := hide hb4; clear hb4) | (go_at_call 48; (with_reducible refine (unhide g2 _).mono ?_); rintro e w' ⟨rfl, rfl⟩))
            go_ret
            exact ⟨ret_bool (unhide HF), below_then (below_alloc (unhide HB3) _) (unhide HB4)⟩
          | true =>
            have g2 := hide (within64_t h2)
            by_cases h4 : bits .and .u64 p.1 1099511627776 = 0
            · have HF := hide (unhide HDO (by simp [statOk, h1, hf, h2, h4]))
              clear hf h1 h2 hvm
              go_wp2_with (first | (go_at_call 45; (with_reducible refine (unhide HC).mono ?_); rintro e w2 ⟨rfl, hb2⟩; have q1 := cell_any (unhide HP w2 hb2); have hb3 := below_then (unhide HX2) hb2; have HB3 := hide hb3; have HB2 := hide hb2; clear hb2 hb3) | (go_at_call 47; (with_reducible refine (unhide g1 _).mono ?_); rintro e w3 ⟨rfl, hb4⟩; have q0 := unhide HP0 w3 (below_then (below_alloc (unhide HB2) _) hb4); have HB4 := hide hb4; clear hb4) | (go_at_call 48; (with_reducible refine (unhide g2 _).mono ?_); rintro e w' ⟨rfl, rfl⟩))
              go_roundg (n - (kk + 1))
              case measure => omega
              case rel => exact ⟨kk + 1, by omega, by omega, by go_num, below_then (below_alloc (unhide HB3) _) (unhide HB4), unhide HF⟩
            · have HF := unhide HNO (by simp [statOk, hf, h1, h2, h4])
              clear hf h1 h2 hvm
              go_wp2_with (first | (go_at_call 45; (with_reducible refine (unhide HC).mono ?_); rintro e w2 ⟨rfl, hb2⟩; have q1 := cell_any (unhide HP w2 hb2); have hb3 := below_then (unhide HW2) hb2; have HB3 := hide hb3; have HB2 := hide hb2; clear hb2 hb3) | (go_at_call 47; (with_reducible refine (unhide g1 _).mono ?_); rintro e w3 ⟨rfl, hb4⟩; have q0 := unhide HP0 w3 (below_then (below_alloc (unhide HB2) _) hb4); have HB4 := hide hb4; clear hb4) | (go_at_call 48; (with_reducible refine (unhide g2 _).mono ?_); rintro e w' ⟨rfl, rfl⟩))
              go_ret
              exact ⟨ret_bool (unhide HF), below_then (below_alloc (unhide HB3) _) (unhide HB4)⟩
    · have hltz : ¬ (kk : Int) < (n : Int) := by omega
      have c5 := keep_cell (unhide C5) BW.out
      have hbw := below_then (unhide HB) BW.out
      have HRR := hide (unhide HR wr hbw)
      have HBW := hide hbw
      clear hbw
      go_wp2_with (go_at_call 49; (with_reducible refine (unhide HRR).mono ?_); rintro e w' ⟨rfl, hb'⟩)
      go_ret
      exact ⟨ret_bool (by rw [all_t (fun j x hj hx => M.out j x (by have := unhide HN; omega) hx)]; rfl), below_then (unhide HBW) hb'⟩
end Go.Proofs.Ytbbadncdkiganaa
