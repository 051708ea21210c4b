/- What SectorSafe needs on lists. -/
import Derived.Test.YtcakiohpkebmpaaFlushW
namespace Go.Proofs.Ytcakiohpkebmpaa
open Go.RowKit
set_option linter.unusedVariables false

/-- The first k of L, the others new. -/
def wasL (L : List Sct) (k : Nat) : List Sct := L.take k ++ List.replicate (8 - k) zeroS
theorem wasL_len (L : List Sct) (hL : L.length = 8) (k : Nat) (hk : k ≤ 8) : (wasL L k).length = 8 := by
  unfold wasL
  rw [List.length_append, List.length_take, List.length_replicate]; omega
theorem wasL_full (L : List Sct) (hL : L.length = 8) : wasL L 8 = L := by
  unfold wasL
  rw [List.take_of_length_le (by omega)]; simp
theorem wasL_set (L : List Sct) (hL : L.length = 8) (k : Nat) (hk : k < 8) (s : Sct) (hs : L[k]? = some s) : (wasL L k).set k s = wasL L (k + 1) := by
  have hkl : k < L.length := by omega
  have hs' : s = L[k] := by rw [List.getElem?_eq_getElem hkl] at hs; exact (Option.some.inj hs).symm
  unfold wasL
  have e : 8 - k = (8 - (k + 1)) + 1 := by omega
  rw [List.set_append_right _ _ (by rw [List.length_take]; omega), List.length_take, show k - min k L.length = 0 by omega, e, List.replicate_succ, List.set_cons_zero,
    List.take_succ_eq_append_getElem hkl, List.append_assoc, List.singleton_append, hs']

/-- Does some step of l write y at i? -/
def anyW (n : Int) (l : List Stp) (i : Nat) (y : Sct) : Bool := l.any (fun x => decide ((x.i % n).toNat = i) && decide (y = x.sec))
theorem anyW_snoc {n : Int} {l : List Stp} {k : Nat} {x : Stp} (h : l[k]? = some x) (i : Nat) (y : Sct) : anyW n (l.take (k + 1)) i y = (anyW n (l.take k) i y || (decide ((x.i % n).toNat = i) && decide (y = x.sec))) := by
  rw [take_snocS h]
  unfold anyW
  rw [List.any_append]
  simp
theorem kept_is (L : List Sct) (n : Int) (l : List Stp) (K : List Bool) (i : Nat) : (decide (readS L (keptP (wrs n l) K) i = L.getD i zeroS) || anyW n l i (readS L (keptP (wrs n l) K) i)) = true := by
  rcases foldl_some i (keptP (wrs n l) K) (L.getD i zeroS) with h | ⟨p, hp, h1, h2⟩
  · have : readS L (keptP (wrs n l) K) i = L.getD i zeroS := h
    rw [this]; simp
  · have e : readS L (keptP (wrs n l) K) i = p.2 := h2
    rw [e]
    have hm := kept_mem _ _ _ hp
    unfold wrs at hm
    obtain ⟨x, hx, rfl⟩ := List.mem_map.1 hm
    have : anyW n l i x.sec = true := by
      unfold anyW
      rw [List.any_eq_true]
      exact ⟨x, hx, by simp only [Bool.and_eq_true, decide_eq_true_eq]; exact ⟨h1, trivial⟩⟩
    rw [this, Bool.or_true]
end Go.Proofs.Ytcakiohpkebmpaa
