/- Own texts in one: Chunk. -/
import Derived.RangeFuncNested
import Derived.RangeFuncBound
import Derived.RangeFuncCalls
import Derived.RangeFuncLeaves
import Derived.RangeFuncBox
import Derived.Shelf.Abstract
import Derived.Shelf.RegionOpen
import Derived.WalkKit
import Derived.OwnWalkIn
import Derived.TacticsInMore
import Derived.LoopNIn
import Derived.LoopIn
import Derived.Test.YtfceileohkngnaaMB
/- The iterator over pieces of bytes: its contract. -/
namespace Go.Proofs.Ytfceileohkngnaa
open Go.RowKit Go.Shelf
set_option linter.unusedVariables false
attribute [local go_sem] Oper.semAt_some

/-- The k-th piece of n bytes that lie from off on in block b. -/
def pieceV (b off n k : Nat) : Value := .slice (some ⟨b, off + 63 * k, none⟩) (min 63 (n - 63 * k)) (min 63 (n - 63 * k))

/-- Two blocks lie as they lay. -/
def Two (x y : Nat) (W W' : World) : Prop := W'.heap[x]? = W.heap[x]? ∧ W'.heap[y]? = W.heap[y]?
theorem Two.refl (x y : Nat) (W : World) : Two x y W W := ⟨rfl, rfl⟩
theorem Two.trans {x y : Nat} {A B C : World} (h : Two x y A B) (k : Two x y B C) : Two x y A C := ⟨k.1.trans h.1, k.2.trans h.2⟩
theorem Two.c1 {x y : Nat} {W W' : World} (h : Two x y W W') : W'.cell? ⟨x, 0, none⟩ = W.cell? ⟨x, 0, none⟩ := World.cell?_of_block (w := W) (a := ⟨x, 0, none⟩) h.1
theorem Two.c2 {x y : Nat} {W W' : World} (h : Two x y W W') : W'.cell? ⟨y, 0, none⟩ = W.cell? ⟨y, 0, none⟩ := World.cell?_of_block (w := W) (a := ⟨y, 0, none⟩) h.2

set_option maxRecDepth 100000 in
set_option maxHeartbeats 2000000 in
theorem chunk1_in (F : Fence) (n : Nat) (h38 : F.fn 72) (hro : F.round = none) (hn : 1 ≤ n) (l Bs Bn b off len cap K : Nat) (hlen : len ≤ 100000) (hcap : len ≤ cap) (hK : len ≤ 63 * K) (hK2 : 63 * K < len + 63)
    (J Jx : List Nat → World → Prop)
    (hY : ∀ pre x W, J pre W → pre.length < K → YieldAt F (n - 1) Try.prog l #[pieceV b off len x] W fun e W' =>
      (e = .returned (.bool true) ∧ J (pre ++ [x]) W' ∧ Two Bs Bn W W') ∨ (e = .returned (.bool false) ∧ Jx (pre ++ [x]) W'))
    (W : World) (hBs : W.cell? ⟨Bs, 0, none⟩ = some (.slice (some ⟨b, off, none⟩) len cap)) (hBn : W.cell? ⟨Bn, 0, none⟩ = some (.int .i64 63)) (h0 : J [] W) (hJd : ∀ pre W, J pre W → J pre W.drew) :
    CallsIn F n Try.prog 72 #[.func (.yield l) #[] #[], .pointer (some ⟨Bs, 0, none⟩), .pointer (some ⟨Bn, 0, none⟩)] W fun e W' => (∃ v, e = .returned v) ∧
      (J (List.range K) W' ∨ (∃ pre, Jx pre W')) := by
  refine callsIn_of_wp Try.func72 rfl h38 ?_ hro
  simp only [Try.ntmps72, List.size_toArray, List.length_cons, List.length_nil, Nat.reduceAdd, Nat.reduceSub, Array.replicate_succ, Array.replicate_zero, List.push_toArray, List.append_toArray, List.nil_append, List.cons_append]
  gi_wp2
  gi_loopw [4] (fun i wr => ∃ k : Nat, k ≤ K ∧ i = .int .i64 ((63 * k : Nat) : Int) ∧ J (List.range k) wr ∧ Two Bs Bn W wr)
    (fun i _ => 63 * K - (intOf i).toNat)
  case atStart => exact ⟨0, Nat.zero_le _, rfl, h0, Two.refl _ _ _⟩
  case round =>
    obtain ⟨k, hk, rfl, hJs, hnx⟩ := hrel
    have hBs' := hnx.c1.trans hBs
    have hBn' := hnx.c2.trans hBn
    by_cases hlt : 63 * k < len
    · have hlt' : ((63 * k : Nat) : Int) < (len : Int) := by omega
      have hkK : k < K := by omega
      have hm1 : min 63 (len - 63 * k) + 63 * k ≤ len := by omega
      have hp : pieceV b off len k = .slice (some ⟨b, off + 63 * k, none⟩) (min 63 (len - 63 * k)) (min 63 (len - 63 * k)) := rfl
      have hif : (if ((len - 63 * k : Nat) : Int) < 63 then ((len - 63 * k : Nat) : Int) else 63) = ((min 63 (len - 63 * k) : Nat) : Int) := by split <;> omega
      obtain ⟨fn, tmps, assign, body, hy, hR⟩ := hY _ k wr.drew (hJd _ _ hJs) (by simpa using hkK)
      rw [hp] at hy
      have hBs2 : wr.drew.cell? ⟨Bs, 0, none⟩ = some (.slice (some ⟨b, off, none⟩) len cap) := hBs'
      have hBn2 : wr.drew.cell? ⟨Bn, 0, none⟩ = some (.int .i64 63) := hBn'
      clear hp
      gi_wp2
      gi_region
      all_goals
        clear hif
        generalize hm : min 63 (len - 63 * k) = m at *
        have hm2 : 63 * k + m ≤ cap := by omega
        gi_wp2
        refine hR.mono ?_
        rintro e W3 (⟨rfl, hJ3, hk3⟩ | ⟨rfl, hJx3⟩)
        · have hBn3 : W3.cell? ⟨Bn, 0, none⟩ = some (.int .i64 63) := hk3.c2.trans hBn2
          have hbel : Two Bs Bn W W3 := hnx.trans hk3
          gi_wp2
          go_roundw
          case rel => exact ⟨k + 1, by omega, by go_num, by rw [List.range_succ]; exact hJ3, hbel⟩
          case measure => simp [intOf]; omega
        · gi_wp2
          refine bodyPost_ret (results_none rfl _ _ _) rfl ?_
          exact ⟨⟨_, rfl⟩, .inr ⟨_, hJx3⟩⟩
    · obtain rfl : k = K := by omega
      have hlt' : ¬ ((63 * k : Nat) : Int) < (len : Int) := by omega
      gi_wp2
      go_end0
      exact ⟨⟨_, rfl⟩, .inl hJs⟩
end Go.Proofs.Ytfceileohkngnaa
