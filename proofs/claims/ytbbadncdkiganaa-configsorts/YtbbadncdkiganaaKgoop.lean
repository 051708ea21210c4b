/- Whether a configuration may be: its ports, its statics. -/
import Derived.Test.YtbbadncdkiganaaKgoov
namespace Go.Proofs.Ytbbadncdkiganaa
open Go.RowKit
set_option linter.unusedVariables false
set_option maxRecDepth 4000

theorem cell_any {w : World} {b i : Nat} {v : Value} (h : w.cell? ⟨b, i, none⟩ = some v) : ∀ o, (w.alloc o).cell? ⟨b, i, none⟩ = some v := fun o => Lib.cell?_alloc_marked o h
theorem within32_t {x a b : Int} (h : wi x a b = true) (w : World) : Calls Try.prog 46 #[.int .u32 x, .int .u32 a, .int .u32 b] w fun e w' => e = .returned (.bool true) ∧ w' = w := by
  have := within32_any x a b w
  rw [h] at this
  exact this
theorem within32_f {x a b : Int} (h : wi x a b = false) (w : World) : Calls Try.prog 46 #[.int .u32 x, .int .u32 a, .int .u32 b] w fun e w' => e = .returned (.bool false) ∧ w' = w := by
  have := within32_any x a b w
  rw [h] at this
  exact this
theorem within64_t {x a b : Int} (h : wi x a b = true) (w : World) : Calls Try.prog 48 #[.int .u64 x, .int .u64 a, .int .u64 b] w fun e w' => e = .returned (.bool true) ∧ w' = w := by
  have := within64_any x a b w
  rw [h] at this
  exact this
theorem within64_f {x a b : Int} (h : wi x a b = false) (w : World) : Calls Try.prog 48 #[.int .u64 x, .int .u64 a, .int .u64 b] w fun e w' => e = .returned (.bool false) ∧ w' = w := by
  have := within64_any x a b w
  rw [h] at this
  exact this
theorem all_do {α : Type} {l : List α} {p : α → Bool} {k : Nat} {x : α} (h : l[k]? = some x) (hM : ∀ j y, j < k → l[j]? = some y → p y = true) (hx : p x = true) : ∀ j y, j < k + 1 → l[j]? = some y → p y = true := by
  intro j y hj hy
  by_cases e : j = k
  · subst e
    rw [h] at hy
    cases hy
    exact hx
  · exact hM j y (by omega) hy
set_option maxHeartbeats 4000000 in
theorem ports_any (x0 x1 x2 : Int) (Ap Av As : Option Addr) (cp cv ns cs : Nat) (ps : List PortC) (vs : List VlanC) (hl : ps.length ≤ 100) (hlv : vs.length ≤ 100) (w : World) (hA : RowA w Ap (fl encP ps)) (hV : RowA w Av (fl encV vs)) :
    Calls Try.prog 30 #[.agg #[.int .i64 x0, .int .i64 x1, .int .i64 x2, .slice Ap ps.length cp, .slice Av vs.length cv, .slice As ns cs]] w fun e w' => e = .returned (.bool (ps.all (portOk vs))) ∧ Below w.heap.size w w' := by
  have HFY := hide (fun (W : World) (hW : Below w.heap.size w W) (id : Int) (v : VlanC) (hf : findV vs id = some v) => find_yes hf cv W (rowA_below hV hW) hlv)
  have HFN := hide (fun (W : World) (hW : Below w.heap.size w W) (id : Int) (hf : findV vs id = none) => find_no hf cv W (rowA_below hV hW) hlv)
  clear hV
  obtain ⟨n, hn⟩ : ∃ n, ps.length = n := ⟨_, rfl⟩
  have HN := hide hn
  rw [hn] at hl ⊢
  clear hn
  obtain ⟨nv, hnv⟩ : ∃ nv, vs.length = nv := ⟨_, rfl⟩
  rw [hnv] at hlv HFY HFN ⊢
  clear hnv
  have HB : Hid (Below w.heap.size w (w.alloc (.cells #[.int .i64 x0, .int .i64 x1, .int .i64 x2, .slice Ap n cp, .slice Av nv cv, .slice As ns cs] 26))) := below_alloc (Below.refl _ _) _
  have c4 : (w.alloc (.cells #[.int .i64 x0, .int .i64 x1, .int .i64 x2, .slice Ap n cp, .slice Av nv cv, .slice As ns cs] 26)).cell? ⟨w.heap.size, 4, none⟩ = some (.slice Av nv cv) := cell_lit rfl rfl
  have c3 : (w.alloc (.cells #[.int .i64 x0, .int .i64 x1, .int .i64 x2, .slice Ap n cp, .slice Av nv cv, .slice As ns cs] 26)).cell? ⟨w.heap.size, 3, none⟩ = some (.slice Ap n cp) := cell_lit rfl rfl
  go_enter Try.func30, Try.ntmps30
  go_wp2
  generalize w.alloc (.cells #[.int .i64 x0, .int .i64 x1, .int .i64 x2, .slice Ap n cp, .slice Av nv cv, .slice As ns cs] 26) = w1 at *
  have C4 := hide c4
  clear c4 c3
  go_loopg [10] n (fun gg s13 wr => ∃ kk : Nat, kk ≤ n ∧ n - kk ≤ gg ∧ s13 = .int .i64 kk ∧ Aside (Below w1.heap.size w1 wr) ∧ Aside (∀ j x, j < kk → ps[j]? = some x → portOk vs x = true))
  case atStart => exact ⟨0, Nat.zero_le _, by omega, rfl, Below.refl _ _, fun j x hj => absurd hj (Nat.not_lt_zero _)⟩
  case round =>
    obtain ⟨kk, hkk, hg, rfl, BW, M⟩ := hrel
    by_cases hlt : kk < n
    · have hltz : (kk : Int) < (n : Int) := by omega
      obtain ⟨b, off, rfl, hc⟩ := rowP_at hA (by have := unhide HN; omega)
      obtain ⟨p, hv⟩ : ∃ v, ps[kk]? = some v := ⟨_, List.getElem?_eq_getElem (by have := unhide HN; omega)⟩
      have hbw := below_then (unhide HB) BW.out
      obtain ⟨c0, c1, c2⟩ := hc wr hbw kk p hv
      have d4 := cell_any (keep_cell (unhide C4) BW.out)
      have HNO : Hid (portOk vs p = false → Hid (false = ps.all (portOk vs))) := hide (fun h => hide (by rw [all_f hv h]))
      have HDO : Hid (portOk vs p = true → ∀ j x, j < kk + 1 → ps[j]? = some x → portOk vs x = true) := hide (all_do hv M.out)
      have HBW := hide hbw
      clear hc hv hA hbw
      have HP : Hid (∀ W, Below (wr.alloc (.cells #[.bool p.1, .int .u32 p.2.1, .int .i64 p.2.2] 50)).heap.size (wr.alloc (.cells #[.bool p.1, .int .u32 p.2.1, .int .i64 p.2.2] 50)) W → ∀ o, (W.alloc o).cell? ⟨wr.heap.size, 1, none⟩ = some (.int .u32 p.2.1)) := hide (fun W hW => cell_any (keep_cell (cell_lit rfl rfl) hW))
      have HW2 : Hid (Below w.heap.size w (wr.alloc (.cells #[.bool p.1, .int .u32 p.2.1, .int .i64 p.2.2] 50))) := hide (below_alloc (unhide HBW) _)
      have HX2 : Hid (Below w1.heap.size w1 (wr.alloc (.cells #[.bool p.1, .int .u32 p.2.1, .int .i64 p.2.2] 50))) := hide (below_alloc BW.out _)
      cases hf : findV vs p.2.2 with
      | none =>
        have HC := hide (unhide HFN _ (unhide HW2) p.2.2 hf)
        have HF := unhide HNO (by simp [portOk, hf])
        clear hf
        go_wp2_with (go_at_call 45; (with_reducible refine (unhide HC).mono ?_); rintro e w2 ⟨rfl, hb2⟩; have q1 := unhide HP w2 hb2; have hb3 := below_then (unhide HW2) hb2; have HB3 := hide hb3; clear hb2 hb3)
        go_ret
        exact ⟨ret_bool (unhide HF), below_alloc (unhide HB3) _⟩
      | some v =>
        have HC := hide (unhide HFY _ (unhide HW2) p.2.2 v hf)
        cases h1 : wi p.2.1 1 200000000 with
        | false =>
          have g1 := hide (within32_f h1)
          have HF := unhide HNO (by simp [portOk, h1])
          clear hf h1
          go_wp2_with (first | (go_at_call 45; (with_reducible refine (unhide HC).mono ?_); rintro e w2 ⟨rfl, hb2⟩; have q1 := unhide HP w2 hb2; have hb3 := below_then (unhide HW2) hb2; have HB3 := hide hb3; clear hb2 hb3) | (go_at_call 46; (with_reducible refine (unhide g1 _).mono ?_); rintro e w' ⟨rfl, rfl⟩))
          go_ret
          exact ⟨ret_bool (unhide HF), below_alloc (unhide HB3) _⟩
        | true =>
          have g1 := hide (within32_t h1)
          have HF := hide (unhide HDO (by simp [portOk, h1, hf]))
          clear hf h1
          go_wp2_with (first | (go_at_call 45; (with_reducible refine (unhide HC).mono ?_); rintro e w2 ⟨rfl, hb2⟩; have q1 := unhide HP w2 hb2; have hb3 := below_then (unhide HX2) hb2; have HB3 := hide hb3; clear hb2 hb3) | (go_at_call 46; (with_reducible refine (unhide g1 _).mono ?_); rintro e w' ⟨rfl, rfl⟩))
          go_roundg (n - (kk + 1))
          case measure => omega
          case rel => exact ⟨kk + 1, by omega, by omega, by go_num, below_alloc (unhide HB3) _, unhide HF⟩
    · have hltz : ¬ (kk : Int) < (n : Int) := by omega
      go_wp2
      go_ret
      exact ⟨ret_bool (by rw [all_t (fun j x hj hx => M.out j x (by have := unhide HN; omega) hx)]), below_then (unhide HB) BW.out⟩
end Go.Proofs.Ytbbadncdkiganaa
