/- Steps as they lie in memory; fair. -/
import Derived.Test.YtcakiohpkebmpaaWakes
namespace Go.Proofs.Ytcakiohpkebmpaa
open Go.RowKit
set_option linter.unusedVariables false

/-- A step as it reads. -/
structure Stp where
  kd : Int
  i : Int
  at_ : Int
  v : Int
  keep : List Bool
def Stp.ok (x : Stp) : Prop := (-9223372036854775808 ≤ x.kd ∧ x.kd ≤ 9223372036854775807) ∧ (-9223372036854775808 ≤ x.i ∧ x.i ≤ 9223372036854775807) ∧ (-9223372036854775808 ≤ x.at_ ∧ x.at_ ≤ 9223372036854775807) ∧ (0 ≤ x.v ∧ x.v ≤ 255) ∧ x.keep.length ≤ maxLen
def Stp.sec (x : Stp) : Sct := stepS x.v x.at_
def scells (x : Stp) (ka : Option Addr) (kc : Nat) : List Value := [.int .i64 x.kd, .int .i64 x.i, .int .i64 x.at_, .int .u8 x.v, .slice ka x.keep.length kc]
/-- At block b, offset o, lies the step x. -/
def StpAt (w : World) (b o : Nat) (x : Stp) : Prop := ∃ ka kc, w.rangeAt b o (scells x ka kc) ∧ BoolsA w ka x.keep ∧ (x.keep ≠ [] → ∀ kb off, ka = some ⟨kb, off, none⟩ → kb < w.heap.size)
def StepsA (w : World) (A : Option Addr) (l : List Stp) : Prop := l ≠ [] → ∃ b off, A = some ⟨b, off, none⟩ ∧ ∀ k x, l[k]? = some x → StpAt w b (off + k * 5) x

theorem stp_below {w w' : World} {b o : Nat} {x : Stp} (h : StpAt w b o x) (hb : Below w.heap.size w w') : StpAt w' b o x := by
  obtain ⟨ka, kc, h1, h2, h3⟩ := h
  refine ⟨ka, kc, ?_, rowA_below h2 hb, fun hk kb off e => Nat.lt_of_lt_of_le (h3 hk kb off e) hb.size⟩
  refine range_of_block h1 (hb.block b ?_)
  exact World.block_lt_of_cell? _ _ (h1 0 _ rfl)
theorem steps_below {w w' : World} {A : Option Addr} {l : List Stp} (h : StepsA w A l) (hb : Below w.heap.size w w') : StepsA w' A l := by
  intro hne
  obtain ⟨b, off, ha, hc⟩ := h hne
  exact ⟨b, off, ha, fun k x hx => stp_below (hc k x hx) hb⟩
theorem stp_cells {w : World} {b o : Nat} {x : Stp} {ka : Option Addr} {kc : Nat} (h : w.rangeAt b o (scells x ka kc)) :
    w.cell? ⟨b, o, none⟩ = some (.int .i64 x.kd) ∧ w.cell? ⟨b, o + 1, none⟩ = some (.int .i64 x.i) ∧ w.cell? ⟨b, o + 2, none⟩ = some (.int .i64 x.at_) ∧ w.cell? ⟨b, o + 3, none⟩ = some (.int .u8 x.v) ∧ w.cell? ⟨b, o + 4, none⟩ = some (.slice ka x.keep.length kc) :=
  ⟨by simpa using h 0 _ rfl, h 1 _ rfl, h 2 _ rfl, h 3 _ rfl, h 4 _ rfl⟩

def fairL (l : List Stp) : Bool := l.all (fun x => decide (x.keep.length ≤ 500)) && decide (l.length ≤ 200)
theorem fairL_len {l : List Stp} (h : fairL l = true) : l.length ≤ 200 ∧ ∀ x ∈ l, x.keep.length ≤ 500 := by
  unfold fairL at h
  rw [Bool.and_eq_true, decide_eq_true_eq, List.all_eq_true] at h
  exact ⟨h.2, fun x hx => by simpa using h.1 x hx⟩

set_option maxHeartbeats 400000 in
theorem fair_any (A : Option Addr) (l : List Stp) (cap : Nat) (w : World) (hA : StepsA w A l) (hok : ∀ x ∈ l, x.ok) (hl : l.length ≤ maxLen) :
    Calls Try.prog 8 #[.slice A l.length cap] w fun e w' => e = .returned (.bool (fairL l)) ∧ w' = w := by
  have hml : maxLen = 9223372036854775807 := rfl
  rw [hml] at hl
  have HA := hide hA
  have HO := hide hok
  clear hA hok
  go_enter Try.func8, Try.ntmps8
  go_wp2
  go_loop [3] (fun i => ∃ k : Nat, k ≤ l.length ∧ i = .int .i64 k ∧ (l.take k).all (fun x => decide (x.keep.length ≤ 500)) = true) (fun i => l.length - (intOf i).toNat)
  case atStart => exact ⟨0, Nat.zero_le _, rfl, rfl⟩
  case round =>
    obtain ⟨k, hk, rfl, hall⟩ := hrel
    have HL := hide hall
    clear hall
    by_cases hlt : k < l.length
    · obtain ⟨x, hx⟩ : ∃ x, l[k]? = some x := ⟨l[k], List.getElem?_eq_getElem hlt⟩
      obtain ⟨b, off, rfl, hc⟩ := (unhide HA) (by rintro rfl; simp at hlt)
      obtain ⟨ka, kc, h1, h2, h3⟩ := hc k x hx
      obtain ⟨_, _, _, _, c4⟩ := stp_cells h1
      have hxm : x ∈ l := List.mem_of_getElem? hx
      have hkl := ((unhide HO) x hxm).2.2.2.2
      rw [hml] at hkl
      have hlt' : (k : Int) < (l.length : Int) := by omega
      have HX := hide hx
      have HM := hide hxm
      clear hc h1 h2 h3 hx hxm hml
      by_cases h5 : x.keep.length ≤ 500
      · have h5' : ¬ (500 : Int) < (x.keep.length : Int) := by omega
        go_wp2
        go_round
        case rel =>
          refine ⟨k + 1, by omega, by go_num, ?_⟩
          have e : l.take (k + 1) = l.take k ++ [x] := by
            rw [List.take_succ_eq_append_getElem hlt]
            have := unhide HX
            rw [List.getElem?_eq_getElem hlt, Option.some.injEq] at this
            rw [this]
          rw [e, List.all_append, unhide HL]
          simpa using h5
        case measure => simp [intOf]; omega
      · have h5' : (500 : Int) < (x.keep.length : Int) := by omega
        have HZ : Hid (fairL l = false) := by
          show _ = _
          cases hf : fairL l with
          | false => rfl
          | true => have := (fairL_len hf).2 x (unhide HM); omega
        go_wp2
        go_ret
        exact ⟨by rw [unhide HZ]; rfl, rfl⟩
    · obtain rfl : k = l.length := by omega
      have HZ : Hid (fairL l = decide ((l.length : Int) ≤ 200)) := by
        show _ = _
        have := unhide HL
        rw [List.take_length] at this
        unfold fairL
        rw [this, Bool.true_and]
        congr 1
        apply propext; omega
      go_wp2
      go_ret
      exact ⟨by rw [unhide HZ]; rfl, rfl⟩
end Go.Proofs.Ytcakiohpkebmpaa
