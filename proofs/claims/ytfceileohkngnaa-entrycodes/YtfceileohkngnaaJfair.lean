/- Contract of layer 4's fair. -/
import Derived.Test.YtfceileohkngnaaJwk
namespace Go.Proofs.Ytfceileohkngnaa
open Go.RowKit
set_option linter.unusedVariables false
set_option maxRecDepth 4000

/-- A step of a script: its kind, its parts, its epoch. -/
structure JStp where
  k : Int
  ps : List (List Int)
  ep : Int
def StpsA (w : World) (A : Option Addr) (l : List JStp) : Prop :=
  l ≠ [] → ∃ b off, A = some ⟨b, off, none⟩ ∧ ∀ i s, l[i]? = some s → w.cell? ⟨b, off + i * 3, none⟩ = some (.int .i64 s.k) ∧ (∃ a cap, w.cell? ⟨b, off + i * 3 + 1, none⟩ = some (.slice a s.ps.length cap) ∧ PartsA w a s.ps) ∧ w.cell? ⟨b, off + i * 3 + 2, none⟩ = some (.int .u32 s.ep)
theorem StpsA.below {w W : World} {A : Option Addr} {l : List JStp} (h : StpsA w A l) (hb : Below w.heap.size w W) : StpsA W A l := by
  intro hne
  obtain ⟨b, off, ha, hc⟩ := h hne
  refine ⟨b, off, ha, fun i s hs => ?_⟩
  obtain ⟨h0, ⟨a, cap, h1, hp⟩, h2⟩ := hc i s hs
  exact ⟨by rw [hb.cell (World.block_lt_of_cell? _ _ h0)]; exact h0, ⟨a, cap, by rw [hb.cell (World.block_lt_of_cell? _ _ h1)]; exact h1, partsA_below hp hb⟩, by rw [hb.cell (World.block_lt_of_cell? _ _ h2)]; exact h2⟩

def fairP : Nat → Nat → List (List Int) → Bool
  | _, _, [] => true
  | n, k, p :: ps => if 4500 < n + min p.length 5000 ∨ 20 < k then false else fairP (n + min p.length 5000) (k + 1) ps
def fairJ : List JStp → Bool
  | [] => true
  | s :: l => fairP 0 0 s.ps && fairJ l
theorem fairP_len : ∀ (ps : List (List Int)) (n k : Nat), fairP n k ps = true → n + ps.flatten.length ≤ 4500 + n ∧ (ps = [] ∨ (n + ps.flatten.length ≤ 4500 ∧ k + ps.length ≤ 21))
  | [], n, k, _ => ⟨by simp, .inl rfl⟩
  | p :: ps, n, k, h => by
    unfold fairP at h
    split at h
    · cases h
    · rename_i hc
      obtain ⟨_, h2⟩ := fairP_len ps _ _ h
      simp only [List.flatten_cons, List.length_append, List.length_cons]
      have hm : min p.length 5000 = p.length := by omega
      rw [hm] at hc h2
      rcases h2 with rfl | h2
      · simp only [List.flatten_nil, List.length_nil]; omega
      · omega
theorem fairJ_get : ∀ (l : List JStp), fairJ l = true → ∀ s ∈ l, fairP 0 0 s.ps = true
  | [], _, s, hs => by cases hs
  | x :: l, h, s, hs => by
    unfold fairJ at h
    rw [Bool.and_eq_true] at h
    rcases List.mem_cons.1 hs with rfl | hs
    · exact h.1
    · exact fairJ_get l h.2 s hs
theorem drop_get {α : Type} (l : List α) (i : Nat) (s : α) (h : l[i]? = some s) : l.drop i = s :: l.drop (i + 1) := by
  obtain ⟨hi, e⟩ := List.getElem?_eq_some_iff.1 h
  rw [List.drop_eq_getElem_cons hi, e]

set_option maxRecDepth 100000 in
set_option maxHeartbeats 2000000 in
theorem fairJ_any (A : Option Addr) (l : List JStp) (cap : Nat) (w : World) (hA : StpsA w A l) (hl : l.length ≤ maxLen) (hp : ∀ s ∈ l, s.ps.length ≤ maxLen ∧ ∀ p ∈ s.ps, p.length ≤ maxLen) :
    Calls Try.prog 15 #[.slice A l.length cap] w fun e w' => e = .returned (.bool (fairJ l && decide (l.length ≤ 60))) ∧ w' = w := by
  have hml : maxLen = 9223372036854775807 := rfl
  rw [hml] at hl hp
  clear hml
  have HA := hide hA
  have HP := hide hp
  have HF : Hid (fairJ (l.drop 0) = fairJ l) := rfl
  clear hA hp
  go_enter Try.func15, Try.ntmps15
  go_wp2
  go_loop [3] (fun i => ∃ k : Nat, k ≤ l.length ∧ i = .int .i64 k ∧ fairJ l = fairJ (l.drop k)) (fun i => l.length - (intOf i).toNat)
  case atStart => exact ⟨0, Nat.zero_le _, rfl, rfl⟩
  case round =>
    obtain ⟨i, hi, rfl, hfi⟩ := hrel
    by_cases hlt : i < l.length
    · obtain ⟨s, hs⟩ : ∃ s, l[i]? = some s := ⟨l[i], List.getElem?_eq_getElem hlt⟩
      obtain ⟨b, off, rfl, hc⟩ := (unhide HA) (by rintro rfl; simp at hlt)
      obtain ⟨h0, ⟨a, c, h1, hpa⟩, h2⟩ := hc i s hs
      obtain ⟨hq1, hq2⟩ := (unhide HP) s (List.mem_of_getElem? hs)
      have HPA := hide hpa
      have HQ2 := hide hq2
      rw [drop_get l i s hs] at hfi
      have HFI : Hid (fairJ l = (fairP 0 0 s.ps && fairJ (l.drop (i + 1)))) := hfi
      have hlt' : (i : Int) < (l.length : Int) := by omega
      obtain ⟨sk, sps, sep⟩ := s
      simp only at h0 h1 h2 hq1 HPA HQ2 HFI
      clear hc hpa hq2 hfi hs
      go_wp2
      go_loop [4, 5] (fun n k => ∃ m q : Nat, q ≤ sps.length ∧ k = .int .i64 q ∧ n = .int .i64 m ∧ m ≤ 4500 ∧ q ≤ 21 ∧ fairP 0 0 sps = fairP m q (sps.drop q)) (fun _ k => sps.length - (intOf k).toNat)
      case atStart => exact ⟨0, 0, Nat.zero_le _, rfl, rfl, by omega, by omega, rfl⟩
      case round =>
        obtain ⟨m, q, hq, rfl, rfl, hm, hq21, hfp⟩ := hrel
        by_cases hqt : q < sps.length
        · obtain ⟨p, hp⟩ : ∃ p, sps[q]? = some p := ⟨sps[q], List.getElem?_eq_getElem hqt⟩
          obtain ⟨b2, off2, rfl, hc2⟩ := (unhide HPA) (by rintro rfl; simp at hqt)
          obtain ⟨a3, c3, h3, _⟩ := hc2 q hqt
          have hpl := (unhide HQ2) p (List.mem_of_getElem? hp)
          have e : sps.getD q [] = p := by rw [List.getD_eq_getElem?_getD, hp]; rfl
          rw [e] at h3
          rw [drop_get sps q p hp] at hfp
          have HFP : Hid (fairP 0 0 sps = (if 4500 < m + min p.length 5000 ∨ 20 < q then false else fairP (m + min p.length 5000) (q + 1) (sps.drop (q + 1)))) := hfp
          have hqt' : (q : Int) < (sps.length : Int) := by omega
          clear hfp hc2 hp e
          generalize p.length = pl at *
          by_cases g1 : 5000 < pl
          · have g1' : (5000 : Int) < (pl : Int) := by omega
            have g2' : (4500 : Int) < (m : Int) + 5000 := by omega
            rw [if_pos (by omega)] at HFP
            go_wp2
            all_goals
              go_ret
              exact ⟨ret_bool (by rw [unhide HFI, unhide HFP]; rfl), rfl⟩
          · have g1' : ¬ (5000 : Int) < (pl : Int) := by omega
            have hmin : min pl 5000 = pl := by omega
            rw [hmin] at HFP
            by_cases g2 : 4500 < m + pl
            · have g2' : (4500 : Int) < (m : Int) + (pl : Int) := by omega
              rw [if_pos (by omega)] at HFP
              go_wp2
              all_goals
                go_ret
                exact ⟨ret_bool (by rw [unhide HFI, unhide HFP]; rfl), rfl⟩
            · have g2' : ¬ (4500 : Int) < (m : Int) + (pl : Int) := by omega
              by_cases g3 : 20 < q
              · have g3' : (20 : Int) < (q : Int) := by omega
                rw [if_pos (by omega)] at HFP
                go_wp2
                all_goals
                  go_ret
                  exact ⟨ret_bool (by rw [unhide HFI, unhide HFP]; rfl), rfl⟩
              · have g3' : ¬ (20 : Int) < (q : Int) := by omega
                rw [if_neg (by omega)] at HFP
                go_wp2
                go_round
                case rel => exact ⟨m + pl, q + 1, by omega, by go_num, by go_num, by omega, by omega, unhide HFP⟩
                case measure => simp [intOf]; omega
        · obtain rfl : q = sps.length := by omega
          rw [List.drop_length] at hfp
          have HFP : Hid (fairP 0 0 sps = true) := hfp
          clear hfp
          go_wp2
          go_round
          case rel => exact ⟨i + 1, by omega, by go_num, by rw [unhide HFI, unhide HFP]; rfl⟩
          case measure => simp [intOf]; omega
    · obtain rfl : i = l.length := by omega
      rw [List.drop_length] at hfi
      have HFI : Hid (fairJ l = true) := hfi
      clear hfi
      go_wp2
      go_ret
      refine ⟨ret_bool ?_, rfl⟩
      rw [unhide HFI]
      simp only [Bool.true_and, decide_eq_decide]
      omega
end Go.Proofs.Ytfceileohkngnaa
