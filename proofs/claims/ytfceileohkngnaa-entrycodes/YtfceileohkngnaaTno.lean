/- JournalTorn where it asks its own journal alone. -/
import Derived.Test.YtfceileohkngnaaTopen
import Derived.Test.YtfceileohkngnaaTmath
namespace Go.Proofs.Ytfceileohkngnaa
open Go.RowKit
set_option linter.unusedVariables false
set_option maxRecDepth 4000

set_option maxRecDepth 100000 in
set_option maxHeartbeats 4000000 in
theorem jtorn_no (aA aC aK aT aO : Option Addr) (nA cA nC cC nK cK nT cT nO cO : Nat) (hf : Bool) (h : 6 < nA ∨ 6 < nT ∨ 6 < nO ∨ 400 < nC ∨ 100 < nK) (lA : nA ≤ maxLen) (lT : nT ≤ maxLen) (lO : nO ≤ maxLen) (lC : nC ≤ maxLen) (lK : nK ≤ maxLen) (w : World) :
    Calls Try.prog 5 #[.agg #[.slice aA nA cA, .slice aC nC cC, .bool hf, .slice aK nK cK, .slice aT nT cT], .slice aO nO cO] w fun e w' => e = .returned (.bool true) ∧ Below w.heap.size w w' := by
  have hml : maxLen = 9223372036854775807 := rfl
  rw [hml] at lA lT lO lC lK
  clear hml
  have hb0 : Below w.heap.size w (w.alloc (.cells #[.slice aA nA cA, .slice aC nC cC, .bool hf, .slice aK nK cK, .slice aT nT cT] 81)) := below_alloc (Below.refl _ _) _
  by_cases h0 : 6 < nA
  · have h0' : (6 : Int) < (nA : Int) := by omega
    clear h
    go_enter Try.func5, Try.ntmps5
    go_wp2_with (go_at_call 16; refine (wakesJ _).mono ?_; rintro e w3 ⟨rfl, hb⟩)
    go_ret
    exact ⟨rfl, below_then hb0 hb⟩
  · have h0' : ¬ (6 : Int) < (nA : Int) := by omega
    by_cases h1 : 6 < nT
    · have h1' : (6 : Int) < (nT : Int) := by omega
      clear h
      go_enter Try.func5, Try.ntmps5
      go_wp2_with (go_at_call 16; refine (wakesJ _).mono ?_; rintro e w3 ⟨rfl, hb⟩)
      go_ret
      exact ⟨rfl, below_then hb0 hb⟩
    · have h1' : ¬ (6 : Int) < (nT : Int) := by omega
      by_cases h2 : 6 < nO
      · have h2' : (6 : Int) < (nO : Int) := by omega
        clear h
        go_enter Try.func5, Try.ntmps5
        go_wp2_with (go_at_call 16; refine (wakesJ _).mono ?_; rintro e w3 ⟨rfl, hb⟩)
        go_ret
        exact ⟨rfl, below_then hb0 hb⟩
      · have h2' : ¬ (6 : Int) < (nO : Int) := by omega
        by_cases h3 : 400 < nC
        · have h3' : (400 : Int) < (nC : Int) := by omega
          clear h
          go_enter Try.func5, Try.ntmps5
          go_wp2_with (go_at_call 16; refine (wakesJ _).mono ?_; rintro e w3 ⟨rfl, hb⟩)
          go_ret
          exact ⟨rfl, below_then hb0 hb⟩
        · have h3' : ¬ (400 : Int) < (nC : Int) := by omega
          have h4' : (100 : Int) < (nK : Int) := by omega
          clear h
          go_enter Try.func5, Try.ntmps5
          go_wp2_with (go_at_call 16; refine (wakesJ _).mono ?_; rintro e w3 ⟨rfl, hb⟩)
          go_ret
          exact ⟨rfl, below_then hb0 hb⟩

/-- Something there is longer than 300. -/
def Big (l : List (List Int)) (i : Nat) : Prop := i < l.length ∧ 300 < (l.getD i []).length
set_option maxRecDepth 100000 in
set_option maxHeartbeats 8000000 in
theorem jtorn_big (aA aC aK aT aO : Option Addr) (ahead then_ old : List (List Int)) (cA nC cC nK cK cT cO : Nat) (hf : Bool) (lA : ahead.length ≤ 6) (lT : then_.length ≤ 6) (lO : old.length ≤ 6) (lC : nC ≤ 400) (lK : nK ≤ 100) (w : World) (hA : PartsA w aA ahead) (hT : PartsA w aT then_) (hO : PartsA w aO old)
    (bA : ∀ q ∈ ahead, q.length ≤ maxLen) (bT : ∀ q ∈ then_, q.length ≤ maxLen) (bO : ∀ q ∈ old, q.length ≤ maxLen) (h : ∃ i, i < 6 ∧ (Big ahead i ∨ Big then_ i ∨ Big old i)) :
    Calls Try.prog 5 #[.agg #[.slice aA ahead.length cA, .slice aC nC cC, .bool hf, .slice aK nK cK, .slice aT then_.length cT], .slice aO old.length cO] w fun e w' => e = .returned (.bool true) ∧ Below w.heap.size w w' := by
  have hml : maxLen = 9223372036854775807 := rfl
  rw [hml] at bA bT bO
  have hb0 : Below w.heap.size w (w.alloc (.cells #[.slice aA ahead.length cA, .slice aC nC cC, .bool hf, .slice aK nK cK, .slice aT then_.length cT] 81)) := below_alloc (Below.refl _ _) _
  have hn0 := heap_alloc_last w (.cells #[.slice aA ahead.length cA, .slice aC nC cC, .bool hf, .slice aK nK cK, .slice aT then_.length cT] 81)
  have HB0 := hide hb0
  have HA := hide (partsA_below hA hb0)
  have HT := hide (partsA_below hT hb0)
  have HO := hide (partsA_below hO hb0)
  have HbA := hide bA
  have HbT := hide bT
  have HbO := hide bO
  have HX := hide h
  have x0 := (heap_cell hn0 0).1
  have x1 := (heap_cell hn0 1).1
  have x3 := (heap_cell hn0 3).1
  have x4 := (heap_cell hn0 4).1
  have e1 : ¬ (6 : Int) < (ahead.length : Int) := by omega
  have e2 : ¬ (6 : Int) < (then_.length : Int) := by omega
  have e3 : ¬ (6 : Int) < (old.length : Int) := by omega
  have e4 : ¬ (400 : Int) < (nC : Int) := by omega
  have e5 : ¬ (100 : Int) < (nK : Int) := by omega
  clear hA hT hO bA bT bO h hn0 hb0 hml
  go_enter Try.func5, Try.ntmps5
  go_wp2
  generalize w.alloc (.cells #[.slice aA ahead.length cA, .slice aC nC cC, .bool hf, .slice aK nK cK, .slice aT then_.length cT] 81) = w1 at *
  go_loop [5] (fun i => ∃ k : Nat, k ≤ 6 ∧ i = .int .i64 k ∧ ∀ j, j < k → ¬ (Big ahead j ∨ Big then_ j ∨ Big old j)) (fun i => 6 - (intOf i).toNat)
  case atStart => exact ⟨0, Nat.zero_le _, rfl, fun j hj => by omega⟩
  case round =>
    obtain ⟨k, hk, rfl, hbefore⟩ := hrel
    have HBF := hide hbefore
    clear hbefore
    by_cases hk6 : k < 6
    · have hk6' : (k : Int) < 6 := by omega
      by_cases hA : k < ahead.length
      · obtain ⟨bA, oA, eA, hcA⟩ := (unhide HA) (by rintro rfl; simp at hA)
        subst eA
        obtain ⟨aA', cA', hkA, _⟩ := hcA k hA
        have hmA := (unhide HbA) (ahead.getD k []) (by rw [List.getD_eq_getElem?_getD, List.getElem?_eq_getElem hA]; exact List.getElem_mem hA)
        have hlA : (k : Int) < (ahead.length : Int) := by omega
        have NBA : Hid (Big ahead k ↔ 300 < (ahead.getD k []).length) := ⟨fun x => x.2, fun x => ⟨hA, x⟩⟩
        generalize (ahead.getD k []).length = pA at *
        clear hcA
        by_cases gA : 300 < pA
        · have gA' : (300 : Int) < (pA : Int) := by omega
          go_wp2_with (go_at_call 16; refine (wakesJ _).mono ?_; rintro e w3 ⟨rfl, hb⟩)
          go_ret
          exact ⟨rfl, below_then (unhide HB0) hb⟩
        · have gA' : ¬ (300 : Int) < (pA : Int) := by omega
          have NA : Hid (¬ Big ahead k) := fun x => gA ((unhide NBA).1 x)
          by_cases hT : k < then_.length
          · obtain ⟨bT, oT, eT, hcT⟩ := (unhide HT) (by rintro rfl; simp at hT)
            subst eT
            obtain ⟨aT', cT', hkT, _⟩ := hcT k hT
            have hmT := (unhide HbT) (then_.getD k []) (by rw [List.getD_eq_getElem?_getD, List.getElem?_eq_getElem hT]; exact List.getElem_mem hT)
            have hlT : (k : Int) < (then_.length : Int) := by omega
            have NBT : Hid (Big then_ k ↔ 300 < (then_.getD k []).length) := ⟨fun x => x.2, fun x => ⟨hT, x⟩⟩
            generalize (then_.getD k []).length = pT at *
            clear hcT
            by_cases gT : 300 < pT
            · have gT' : (300 : Int) < (pT : Int) := by omega
              go_wp2_with (go_at_call 16; refine (wakesJ _).mono ?_; rintro e w3 ⟨rfl, hb⟩)
              go_ret
              exact ⟨rfl, below_then (unhide HB0) hb⟩
            · have gT' : ¬ (300 : Int) < (pT : Int) := by omega
              have NT : Hid (¬ Big then_ k) := fun x => gT ((unhide NBT).1 x)
              by_cases hO : k < old.length
              · obtain ⟨bO, oO, eO, hcO⟩ := (unhide HO) (by rintro rfl; simp at hO)
                subst eO
                obtain ⟨aO', cO', hkO, _⟩ := hcO k hO
                have hmO := (unhide HbO) (old.getD k []) (by rw [List.getD_eq_getElem?_getD, List.getElem?_eq_getElem hO]; exact List.getElem_mem hO)
                have hlO : (k : Int) < (old.length : Int) := by omega
                have NBO : Hid (Big old k ↔ 300 < (old.getD k []).length) := ⟨fun x => x.2, fun x => ⟨hO, x⟩⟩
                generalize (old.getD k []).length = pO at *
                clear hcO
                by_cases gO : 300 < pO
                · have gO' : (300 : Int) < (pO : Int) := by omega
                  go_wp2_with (go_at_call 16; refine (wakesJ _).mono ?_; rintro e w3 ⟨rfl, hb⟩)
                  go_ret
                  exact ⟨rfl, below_then (unhide HB0) hb⟩
                · have gO' : ¬ (300 : Int) < (pO : Int) := by omega
                  have NO : Hid (¬ Big old k) := fun x => gO ((unhide NBO).1 x)
                  go_wp2
                  go_round
                  case rel => exact ⟨k + 1, by omega, by go_num, fun j hj => by
                    by_cases hjk : j = k
                    · subst hjk; rintro (x | x | x)
                      · exact unhide NA x
                      · exact unhide NT x
                      · exact unhide NO x
                    · exact unhide HBF j (by omega)⟩
                  case measure => simp [intOf]; omega
              · have hlO : ¬ (k : Int) < (old.length : Int) := by omega
                have NO : Hid (¬ Big old k) := fun x => hO x.1
                go_wp2
                go_round
                case rel => exact ⟨k + 1, by omega, by go_num, fun j hj => by
                  by_cases hjk : j = k
                  · subst hjk; rintro (x | x | x)
                    · exact unhide NA x
                    · exact unhide NT x
                    · exact unhide NO x
                  · exact unhide HBF j (by omega)⟩
                case measure => simp [intOf]; omega
          · have hlT : ¬ (k : Int) < (then_.length : Int) := by omega
            have NT : Hid (¬ Big then_ k) := fun x => hT x.1
            by_cases hO : k < old.length
            · obtain ⟨bO, oO, eO, hcO⟩ := (unhide HO) (by rintro rfl; simp at hO)
              subst eO
              obtain ⟨aO', cO', hkO, _⟩ := hcO k hO
              have hmO := (unhide HbO) (old.getD k []) (by rw [List.getD_eq_getElem?_getD, List.getElem?_eq_getElem hO]; exact List.getElem_mem hO)
              have hlO : (k : Int) < (old.length : Int) := by omega
              have NBO : Hid (Big old k ↔ 300 < (old.getD k []).length) := ⟨fun x => x.2, fun x => ⟨hO, x⟩⟩
              generalize (old.getD k []).length = pO at *
              clear hcO
              by_cases gO : 300 < pO
              · have gO' : (300 : Int) < (pO : Int) := by omega
                go_wp2_with (go_at_call 16; refine (wakesJ _).mono ?_; rintro e w3 ⟨rfl, hb⟩)
                go_ret
                exact ⟨rfl, below_then (unhide HB0) hb⟩
              · have gO' : ¬ (300 : Int) < (pO : Int) := by omega
                have NO : Hid (¬ Big old k) := fun x => gO ((unhide NBO).1 x)
                go_wp2
                go_round
                case rel => exact ⟨k + 1, by omega, by go_num, fun j hj => by
                  by_cases hjk : j = k
                  · subst hjk; rintro (x | x | x)
                    · exact unhide NA x
                    · exact unhide NT x
                    · exact unhide NO x
                  · exact unhide HBF j (by omega)⟩
                case measure => simp [intOf]; omega
            · have hlO : ¬ (k : Int) < (old.length : Int) := by omega
              have NO : Hid (¬ Big old k) := fun x => hO x.1
              go_wp2
              go_round
              case rel => exact ⟨k + 1, by omega, by go_num, fun j hj => by
                by_cases hjk : j = k
                · subst hjk; rintro (x | x | x)
                  · exact unhide NA x
                  · exact unhide NT x
                  · exact unhide NO x
                · exact unhide HBF j (by omega)⟩
              case measure => simp [intOf]; omega
      · have hlA : ¬ (k : Int) < (ahead.length : Int) := by omega
        have NA : Hid (¬ Big ahead k) := fun x => hA x.1
        by_cases hT : k < then_.length
        · obtain ⟨bT, oT, eT, hcT⟩ := (unhide HT) (by rintro rfl; simp at hT)
          subst eT
          obtain ⟨aT', cT', hkT, _⟩ := hcT k hT
          have hmT := (unhide HbT) (then_.getD k []) (by rw [List.getD_eq_getElem?_getD, List.getElem?_eq_getElem hT]; exact List.getElem_mem hT)
          have hlT : (k : Int) < (then_.length : Int) := by omega
          have NBT : Hid (Big then_ k ↔ 300 < (then_.getD k []).length) := ⟨fun x => x.2, fun x => ⟨hT, x⟩⟩
          generalize (then_.getD k []).length = pT at *
          clear hcT
          by_cases gT : 300 < pT
          · have gT' : (300 : Int) < (pT : Int) := by omega
            go_wp2_with (go_at_call 16; refine (wakesJ _).mono ?_; rintro e w3 ⟨rfl, hb⟩)
            go_ret
            exact ⟨rfl, below_then (unhide HB0) hb⟩
          · have gT' : ¬ (300 : Int) < (pT : Int) := by omega
            have NT : Hid (¬ Big then_ k) := fun x => gT ((unhide NBT).1 x)
            by_cases hO : k < old.length
            · obtain ⟨bO, oO, eO, hcO⟩ := (unhide HO) (by rintro rfl; simp at hO)
              subst eO
              obtain ⟨aO', cO', hkO, _⟩ := hcO k hO
              have hmO := (unhide HbO) (old.getD k []) (by rw [List.getD_eq_getElem?_getD, List.getElem?_eq_getElem hO]; exact List.getElem_mem hO)
              have hlO : (k : Int) < (old.length : Int) := by omega
              have NBO : Hid (Big old k ↔ 300 < (old.getD k []).length) := ⟨fun x => x.2, fun x => ⟨hO, x⟩⟩
              generalize (old.getD k []).length = pO at *
              clear hcO
              by_cases gO : 300 < pO
              · have gO' : (300 : Int) < (pO : Int) := by omega
                go_wp2_with (go_at_call 16; refine (wakesJ _).mono ?_; rintro e w3 ⟨rfl, hb⟩)
                go_ret
                exact ⟨rfl, below_then (unhide HB0) hb⟩
              · have gO' : ¬ (300 : Int) < (pO : Int) := by omega
                have NO : Hid (¬ Big old k) := fun x => gO ((unhide NBO).1 x)
                go_wp2
                go_round
                case rel => exact ⟨k + 1, by omega, by go_num, fun j hj => by
                  by_cases hjk : j = k
                  · subst hjk; rintro (x | x | x)
                    · exact unhide NA x
                    · exact unhide NT x
                    · exact unhide NO x
                  · exact unhide HBF j (by omega)⟩
                case measure => simp [intOf]; omega
            · have hlO : ¬ (k : Int) < (old.length : Int) := by omega
              have NO : Hid (¬ Big old k) := fun x => hO x.1
              go_wp2
              go_round
              case rel => exact ⟨k + 1, by omega, by go_num, fun j hj => by
                by_cases hjk : j = k
                · subst hjk; rintro (x | x | x)
                  · exact unhide NA x
                  · exact unhide NT x
                  · exact unhide NO x
                · exact unhide HBF j (by omega)⟩
              case measure => simp [intOf]; omega
        · have hlT : ¬ (k : Int) < (then_.length : Int) := by omega
          have NT : Hid (¬ Big then_ k) := fun x => hT x.1
          by_cases hO : k < old.length
          · obtain ⟨bO, oO, eO, hcO⟩ := (unhide HO) (by rintro rfl; simp at hO)
            subst eO
            obtain ⟨aO', cO', hkO, _⟩ := hcO k hO
            have hmO := (unhide HbO) (old.getD k []) (by rw [List.getD_eq_getElem?_getD, List.getElem?_eq_getElem hO]; exact List.getElem_mem hO)
            have hlO : (k : Int) < (old.length : Int) := by omega
            have NBO : Hid (Big old k ↔ 300 < (old.getD k []).length) := ⟨fun x => x.2, fun x => ⟨hO, x⟩⟩
            generalize (old.getD k []).length = pO at *
            clear hcO
            by_cases gO : 300 < pO
            · have gO' : (300 : Int) < (pO : Int) := by omega
              go_wp2_with (go_at_call 16; refine (wakesJ _).mono ?_; rintro e w3 ⟨rfl, hb⟩)
              go_ret
              exact ⟨rfl, below_then (unhide HB0) hb⟩
            · have gO' : ¬ (300 : Int) < (pO : Int) := by omega
              have NO : Hid (¬ Big old k) := fun x => gO ((unhide NBO).1 x)
              go_wp2
              go_round
              case rel => exact ⟨k + 1, by omega, by go_num, fun j hj => by
                by_cases hjk : j = k
                · subst hjk; rintro (x | x | x)
                  · exact unhide NA x
                  · exact unhide NT x
                  · exact unhide NO x
                · exact unhide HBF j (by omega)⟩
              case measure => simp [intOf]; omega
          · have hlO : ¬ (k : Int) < (old.length : Int) := by omega
            have NO : Hid (¬ Big old k) := fun x => hO x.1
            go_wp2
            go_round
            case rel => exact ⟨k + 1, by omega, by go_num, fun j hj => by
              by_cases hjk : j = k
              · subst hjk; rintro (x | x | x)
                · exact unhide NA x
                · exact unhide NT x
                · exact unhide NO x
              · exact unhide HBF j (by omega)⟩
            case measure => simp [intOf]; omega
    · exfalso
      obtain ⟨i, hi, hx⟩ := unhide HX
      exact unhide HBF i (by omega) hx
end Go.Proofs.Ytfceileohkngnaa
