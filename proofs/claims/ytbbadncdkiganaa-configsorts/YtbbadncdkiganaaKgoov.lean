/- Whether a configuration may be: its VLANs. -/
import Derived.Test.YtbbadncdkiganaaKgood
namespace Go.Proofs.Ytbbadncdkiganaa
open Go.RowKit
set_option linter.unusedVariables false
set_option maxRecDepth 4000

theorem all_f {α : Type} {l : List α} {p : α → Bool} {k : Nat} {x : α} (h : l[k]? = some x) (hp : p x = false) : l.all p = false := by
  cases h2 : l.all p with
  | false => rfl
  | true =>
    rw [List.all_eq_true] at h2
    have := h2 x (List.mem_of_getElem? h)
    rw [hp] at this
    cases this
theorem all_t {α : Type} {l : List α} {p : α → Bool} (h : ∀ j x, j < l.length → l[j]? = some x → p x = true) : l.all p = true := by
  rw [List.all_eq_true]
  intro x hx
  obtain ⟨j, hj, rfl⟩ := List.getElem_of_mem hx
  exact h j _ hj (List.getElem?_eq_getElem hj)
theorem every_lim (n : Nat) (hn : n ≤ 8) : 0 ≤ everyI n ∧ everyI n ≤ 255 := by
  have h : n = 0 ∨ n = 1 ∨ n = 2 ∨ n = 3 ∨ n = 4 ∨ n = 5 ∨ n = 6 ∨ n = 7 ∨ n = 8 := by omega
  rcases h with rfl | rfl | rfl | rfl | rfl | rfl | rfl | rfl | rfl <;> decide
set_option maxHeartbeats 4000000 in
theorem vlans_any (x0 x1 x2 : Int) (Ap Av As : Option Addr) (np cp cv ns cs : Nat) (vs : List VlanC) (hp : np ≤ 8) (hl : vs.length ≤ 100) (w : World) (hA : RowA w Av (fl encV vs)) :
    Calls Try.prog 29 #[.agg #[.int .i64 x0, .int .i64 x1, .int .i64 x2, .slice Ap np cp, .slice Av vs.length cv, .slice As ns cs]] w fun e w' => e = .returned (.bool (vs.all (vlanOk (everyI np)) && risB ltV vs)) ∧ Below w.heap.size w w' := by
  have HR := hide (fun (W : World) (hW : Below w.heap.size w W) => risingV_any Av vs cv W (rowA_below hA hW) hl)
  have HE := hide (every_any np hp)
  obtain ⟨n, hn⟩ : ∃ n, vs.length = n := ⟨_, rfl⟩
  have HN := hide hn
  rw [hn] at hl HR ⊢
  clear hn
  obtain ⟨ev, hev⟩ : ∃ ev, everyI np = ev := ⟨_, rfl⟩
  rw [hev] at HE ⊢
  clear hev
  obtain ⟨r, hr⟩ : ∃ r, risB ltV vs = r := ⟨_, rfl⟩
  rw [hr] at HR ⊢
  clear hr
  have HB : Hid (Below w.heap.size w (w.alloc (.cells #[.int .i64 x0, .int .i64 x1, .int .i64 x2, .slice Ap np cp, .slice Av n cv, .slice As ns cs] 26))) := below_alloc (Below.refl _ _) _
  have c4 : (w.alloc (.cells #[.int .i64 x0, .int .i64 x1, .int .i64 x2, .slice Ap np cp, .slice Av n cv, .slice As ns cs] 26)).cell? ⟨w.heap.size, 4, none⟩ = some (.slice Av n cv) := cell_lit rfl rfl
  have c3 : (w.alloc (.cells #[.int .i64 x0, .int .i64 x1, .int .i64 x2, .slice Ap np cp, .slice Av n cv, .slice As ns cs] 26)).cell? ⟨w.heap.size, 3, none⟩ = some (.slice Ap np cp) := cell_lit rfl rfl
  go_enter Try.func29, Try.ntmps29
  go_wp2_with (go_at_call 23; (with_reducible refine (unhide HE _).mono ?_); rintro e w' ⟨rfl, rfl⟩)
  generalize w.alloc (.cells #[.int .i64 x0, .int .i64 x1, .int .i64 x2, .slice Ap np cp, .slice Av n cv, .slice As ns cs] 26) = w1 at *
  have C4 := hide c4
  clear c4 c3
  go_loopg [13] n (fun gg s13 wr => ∃ kk : Nat, kk ≤ n ∧ n - kk ≤ gg ∧ s13 = .int .i64 kk ∧ Aside (Below w1.heap.size w1 wr) ∧ Aside (∀ j x, j < kk → vs[j]? = some x → vlanOk ev x = true))
  case atStart => exact ⟨0, Nat.zero_le _, by omega, rfl, Below.refl _ _, fun j x hj => absurd hj (Nat.not_lt_zero _)⟩
  case round =>
    obtain ⟨kk, hkk, hg, rfl, BW, M⟩ := hrel
    by_cases hlt : kk < n
    · have hltz : (kk : Int) < (n : Int) := by omega
      obtain ⟨b, off, rfl, hc⟩ := rowV_at hA (by have := unhide HN; omega)
      obtain ⟨v, hv⟩ : ∃ v, vs[kk]? = some v := ⟨_, List.getElem?_eq_getElem (by have := unhide HN; omega)⟩
      have hbw := below_then (unhide HB) BW.out
      obtain ⟨c0, c1, c2⟩ := hc wr hbw kk v hv
      have HV := hide hv
      have HBW := hide hbw
      clear hc hv hA hbw
      have hno : vlanOk ev v = false → Hid (false = (vs.all (vlanOk ev) && r)) := fun h => hide (by rw [all_f (unhide HV) h]; rfl)
      have HNO := hide hno
      have hdo : Hid (vlanOk ev v = true → ∀ j x, j < kk + 1 → vs[j]? = some x → vlanOk ev x = true) := hide (fun h j x hj hx => by
        by_cases e : j = kk
        · subst e
          rw [unhide HV] at hx
          cases hx
          exact h
        · exact M.out j x (by omega) hx)
      clear hno
      cases h1 : wi v.1 1 4094 with
      | false =>
        have g1 := hide (within_f h1)
        have HF := unhide HNO (by simp [vlanOk, h1])
        clear h1
        go_wp2_with (go_at_call 42; (with_reducible refine (unhide g1 _).mono ?_); rintro e w' ⟨rfl, rfl⟩)
        go_ret
        exact ⟨ret_bool (unhide HF), below_alloc (unhide HBW) _⟩
      | true =>
        have g1 := hide (within_t h1)
        by_cases h2 : bits .andNot .u8 v.2.1 ev = 0
        · by_cases h3 : bits .andNot .u8 v.2.2 v.2.1 = 0
          · have HF := hide (unhide hdo (by simp [vlanOk, h1, h2, h3]))
            clear h1
            go_wp2_with (go_at_call 42; (with_reducible refine (unhide g1 _).mono ?_); rintro e w' ⟨rfl, rfl⟩)
            go_roundg (n - (kk + 1))
            case measure => omega
            case rel => exact ⟨kk + 1, by omega, by omega, by go_num, below_alloc BW.out _, unhide HF⟩
          · have HF := unhide HNO (by simp [vlanOk, h3])
            clear h1
            go_wp2_with (go_at_call 42; (with_reducible refine (unhide g1 _).mono ?_); rintro e w' ⟨rfl, rfl⟩)
            go_ret
            exact ⟨ret_bool (unhide HF), below_alloc (unhide HBW) _⟩
        · have HF := unhide HNO (by simp [vlanOk, h2])
          clear h1
          go_wp2_with (go_at_call 42; (with_reducible refine (unhide g1 _).mono ?_); rintro e w' ⟨rfl, rfl⟩)
          go_ret
          exact ⟨ret_bool (unhide HF), below_alloc (unhide HBW) _⟩
    · have hltz : ¬ (kk : Int) < (n : Int) := by omega
      have c4 := keep_cell (unhide C4) BW.out
      have hbw := below_then (unhide HB) BW.out
      have HRR := hide (unhide HR wr hbw)
      have HBW := hide hbw
      clear hbw
      go_wp2_with (go_at_call 43; (with_reducible refine (unhide HRR).mono ?_); rintro e w' ⟨rfl, hb'⟩)
      go_ret
      exact ⟨ret_bool (by rw [all_t (fun j x hj hx => M.out j x (by have := unhide HN; omega) hx)]; rfl), below_then (unhide HBW) hb'⟩
end Go.Proofs.Ytbbadncdkiganaa
