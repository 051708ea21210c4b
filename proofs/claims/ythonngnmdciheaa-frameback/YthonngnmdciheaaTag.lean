/- The bytes of a frame; tag. -/
import Derived.Test.YthonngnmdciheaaCp
namespace Go.Proofs.Ythonngnmdciheaa
open Go.RowKit
set_option linter.unusedVariables false
theorem heap_new (w : World) (o : Obj) (N : Nat) (h : N = w.heap.size) : (w.alloc o).heap[N]? = some o := by subst h; exact heap_alloc_new w o
theorem heap_new2 (w : World) (o o' : Obj) : ((w.alloc o).alloc o').heap[w.heap.size + 1]? = some o' := by have := heap_alloc_new (w.alloc o) o'; simpa using this
theorem heap_sets6 {w : World} {g : Nat} {x0 x1 x2 x3 x4 x5 : Value} {t : TypeId} (h : w.heap[g]? = some (.cells #[x0, x1, x2, x3, x4, x5] t (0, 0))) (u0 u1 u2 u3 u4 u5 : Value) :
    ((((((w.setCell ⟨g, 0, none⟩ u0).setCell ⟨g, 1, none⟩ u1).setCell ⟨g, 2, none⟩ u2).setCell ⟨g, 3, none⟩ u3).setCell ⟨g, 4, none⟩ u4).setCell ⟨g, 5, none⟩ u5).heap[g]? = some (.cells #[u0, u1, u2, u3, u4, u5] t (0, 0)) := by
  have := heap_set (heap_set (heap_set (heap_set (heap_set (heap_set h 0 u0) 1 u1) 2 u2) 3 u3) 4 u4) 5 u5
  simpa using this
abbrev lay6 (n : Nat) : Array Value := #[Value.int .u8 (byN n 0 : Nat), Value.int .u8 (byN n 1 : Nat), Value.int .u8 (byN n 2 : Nat), Value.int .u8 (byN n 3 : Nat), Value.int .u8 (byN n 4 : Nat), Value.int .u8 (byN n 5 : Nat)]
def twoB (n : Nat) : List Nat := [n / 256, n % 256]
def tciN (f : Fr) : Nat := (f.prio * 8192 + f.vid).toNat
def tagB (f : Fr) : List Nat := if f.tag then 129 :: 0 :: twoB (tciN f) else []
def encB (f : Fr) : List Nat := sixL f.dst ++ (sixL f.src ++ (tagB f ++ (twoB f.kind.toNat ++ f.bs)))
theorem two_row' (n : Nat) (hn : n < 65536) (w : World) : Calls Try.prog 24 #[.int .i64 n] w fun e w' => ∃ N, e = .returned (.slice (some ⟨N, 0, none⟩) 2 2) ∧ RowA w' (some ⟨N, 0, none⟩) (u8s (twoB n)) ∧ Below w.heap.size w w' :=
  (two_any n hn w).mono fun e w' ⟨he, hw⟩ => by
    subst hw
    exact ⟨_, he, two_row w _ rfl, below_alloc (Below.refl _ _) _⟩
theorem rtwo_row' (n : Nat) (hn : n < 65536) (w : World) : Calls Try.prog 26 #[.int .i64 n] w fun e w' => ∃ N, e = .returned (.slice (some ⟨N, 0, none⟩) 2 2) ∧ RowA w' (some ⟨N, 0, none⟩) (u8s (twoB n)) ∧ Below w.heap.size w w' :=
  (rtwo_any n hn w).mono fun e w' ⟨he, hw⟩ => by
    subst hw
    exact ⟨_, he, two_row w _ rfl, below_alloc (Below.refl _ _) _⟩
/-- A row of headers in a fresh block. -/
theorem heads_row (w : World) (vs : List Value) (a : Array Value) (h : a.toList = vs) (t : TypeId) : RowA (w.alloc (.cells a t)) (some ⟨w.heap.size, 0, none⟩) vs := by
  intro _
  refine ⟨_, _, rfl, fun j x hj => ?_⟩
  subst h
  rw [Nat.zero_add, (heap_cell (heap_alloc_new w _) j).1, ← hj]
  exact Array.getElem?_toList.symm
theorem own_row1c {w : World} {base : Nat} {v : Value} {n : Nat} {xs : List Value} (h : w.ownsRow base 5 1 v n xs) : ∃ A cap, v = .slice A n cap ∧ RowA w A xs ∧ n ≤ cap ∧ cap ≤ 9223372036854775807 := by
  obtain ⟨A, cap, he, hr⟩ := own_row1 h
  refine ⟨A, cap, he, hr, ?_⟩
  rcases h.2 with ⟨h1, h2⟩ | ⟨g, c, cur, h1, hb, hg, hnc, hcm, hcs, htk⟩
  · rw [h1] at he; cases he; exact ⟨Nat.le_refl _, Nat.zero_le _⟩
  · rw [h1] at he; cases he; exact ⟨hnc, hcm⟩
/-- join of parts that lie in a fresh block. -/
theorem join_fresh (w : World) (ps : List Part) (a : Array Value) (h : a.toList = partsV ps) (hP : ∀ p ∈ ps, RowA w p.1 (u8s p.2.2)) (hl : (joined ps).length ≤ 100000) (hn : ps.length ≤ 10) (N k : Nat) (hN : N = w.heap.size) (hk : k = ps.length) :
    Calls Try.prog 22 #[.slice (some ⟨N, 0, none⟩) k k] (w.alloc (.cells a 23)) fun e w' => ∃ B d, e = .returned (.slice B (joined ps).length d) ∧ RowA w' B (u8s (joined ps)) ∧ Below w.heap.size w w' ∧ (joined ps).length ≤ d ∧ d ≤ 9223372036854775807 := by
  subst hN hk
  exact (join_any (some ⟨w.heap.size, 0, none⟩) ps.length ps (w.alloc (.cells a 23)) (heads_row w _ a h 23) (fun p hp => rowA_below (hP p hp) (below_alloc (Below.refl _ _) _)) hl hn).mono
    fun e w' ⟨v, he, ho, hb⟩ => by
      obtain ⟨B, d, rfl, hr, h1, h2⟩ := own_row1c ho
      exact ⟨B, d, he, hr, below_then (below_alloc (Below.refl _ _) _) hb, h1, h2⟩
set_option maxHeartbeats 4000000 in
theorem tag_any (f : Fr) (hf : tagF f = true) (A : Option Addr) (c : Nat) (w : World) : Calls Try.prog 23 #[.agg #[.int .u64 (f.dst : Int), .int .u64 (f.src : Int), .bool f.tag, .int .i64 f.prio, .int .i64 f.vid, .int .i64 f.kind, .slice A f.bs.length c]] w fun e w' => ∃ B d, e = .returned (.slice B (tagB f).length d) ∧ RowA w' B (u8s (tagB f)) ∧ Below w.heap.size w w' := by
  cases ht : f.tag with
  | false =>
    have e0 : tagB f = [] := by simp [tagB, ht]
    rw [e0]
    go_enter Try.func23, Try.ntmps23
    go_wp2
    go_ret
    exact ⟨none, 0, rfl, rowA_nil _ _, below_alloc (Below.refl _ _) _⟩
  | true =>
    have hb : (0 ≤ f.prio ∧ f.prio ≤ 7) ∧ 0 ≤ f.vid ∧ f.vid ≤ 4095 := by
      have := hf; simp [tagF, ht] at this; omega
    obtain ⟨⟨hp1, hp2⟩, hv1, hv2⟩ := hb
    have e0 : tagB f = 129 :: 0 :: twoB (tciN f) := by simp [tagB, ht]
    have hn : tciN f < 65536 := by unfold tciN; omega
    have e1 : ((tciN f : Nat) : Int) = f.prio * 8192 + f.vid := by unfold tciN; omega
    have hw1 : IntKind.i64.wrap (f.prio * 8192) = f.prio * 8192 := by rw [IntKind.wrap_i64]; omega
    have hw2 : IntKind.i64.wrap (f.prio * 8192 + f.vid) = f.prio * 8192 + f.vid := by rw [IntKind.wrap_i64]; omega
    have K1 := hide (fun W => two_row' 33024 (by decide) W)
    rw [show ((33024 : Nat) : Int) = 33024 from rfl] at K1
    have K2 := hide (fun W => two_row' (tciN f) hn W)
    rw [e1] at K2
    rw [e0]
    have KJ := hide (fun (W : World) N1 N2 (h1 : RowA W (some ⟨N1, 0, none⟩) (u8s (twoB 33024))) (h2 : RowA W (some ⟨N2, 0, none⟩) (u8s (twoB (tciN f)))) N hN => join_fresh W [(some ⟨N1, 0, none⟩, 2, twoB 33024), (some ⟨N2, 0, none⟩, 2, twoB (tciN f))] #[.slice (some ⟨N1, 0, none⟩) 2 2, .slice (some ⟨N2, 0, none⟩) 2 2] rfl (by intro p hp; simp at hp; rcases hp with rfl | rfl; exact h1; exact h2) (by simp [joined, twoB]) (by simp) N 2 hN rfl)
    have e2 : ∀ N1 N2, joined [(some (⟨N1, 0, none⟩ : Addr), 2, twoB 33024), (some (⟨N2, 0, none⟩ : Addr), 2, twoB (tciN f))] = 129 :: 0 :: twoB (tciN f) := by intro N1 N2; simp [joined, twoB]
    simp only [e2] at KJ
    have HX : Hid ((w.alloc (.cells #[.int .u64 (f.dst : Int), .int .u64 (f.src : Int), .bool f.tag, .int .i64 f.prio, .int .i64 f.vid, .int .i64 f.kind, .slice A f.bs.length c] 25)).heap[w.heap.size]? = some (.cells #[.int .u64 (f.dst : Int), .int .u64 (f.src : Int), .bool f.tag, .int .i64 f.prio, .int .i64 f.vid, .int .i64 f.kind, .slice A f.bs.length c] 25 (0, 0))) := hide (heap_alloc_new _ _)
    have HB : Hid (Below w.heap.size w (w.alloc (.cells #[.int .u64 (f.dst : Int), .int .u64 (f.src : Int), .bool f.tag, .int .i64 f.prio, .int .i64 f.vid, .int .i64 f.kind, .slice A f.bs.length c] 25))) := hide (below_alloc (Below.refl _ _) _)
    clear hf e0 e1 hn e2
    generalize tciN f = n at *
    go_enter Try.func23, Try.ntmps23
    go_wp2
    rw [ht] at HX HB
    generalize w.alloc (.cells #[.int .u64 (f.dst : Int), .int .u64 (f.src : Int), .bool true, .int .i64 f.prio, .int .i64 f.vid, .int .i64 f.kind, .slice A f.bs.length c] 25) = w1 at *
    have HSK := hide (fun (W : World) (hW : Below w1.heap.size w1 W) => (⟨hW, (heap_cell (heap_keep (unhide HX) hW) 3).1, (heap_cell (heap_keep (unhide HX) hW) 4).1⟩ : Below w1.heap.size w1 W ∧ W.cell? ⟨w.heap.size, 3, none⟩ = some (.int .i64 f.prio) ∧ W.cell? ⟨w.heap.size, 4, none⟩ = some (.int .i64 f.vid)))
    go_region_held3 (fun W => Below w1.heap.size w1 W ∧ W.cell? ⟨w.heap.size, 3, none⟩ = some (.int .i64 f.prio) ∧ W.cell? ⟨w.heap.size, 4, none⟩ = some (.int .i64 f.vid))
      ((go_split_ands; refine unhide HSK _ ?_; (repeat (first | (with_reducible assumption) | (with_reducible exact Below.refl _ _) | (with_reducible refine Below.drew ?_) | (with_reducible refine below_drewN ?_ _) | (with_reducible refine below_alloc ?_ _)))))
      (first
        | (go_at_call 24; (with_reducible refine (unhide K1 _).mono ?_); rintro e wa ⟨N1, rfl, hr1, hba⟩; have HR1 := hide hr1; have HA1 := hide (below_then (by (repeat (first | (with_reducible assumption) | (with_reducible exact Below.refl _ _) | (with_reducible refine Below.drew ?_) | (with_reducible refine below_drewN ?_ _) | (with_reducible refine below_alloc ?_ _))) : Below w1.heap.size w1 _) hba); have hba' := unhide HA1; clear hr1 hba)
        | (go_at_call 24; (with_reducible refine (unhide K2 _).mono ?_); rintro e wb ⟨N2, rfl, hr2, hbb⟩; have HR2 := hide hr2; have HR3 := hide (rowA_below (unhide HR1) (below_then (by (repeat (first | (with_reducible assumption) | (with_reducible exact Below.refl _ _) | (with_reducible refine Below.drew ?_) | (with_reducible refine below_drewN ?_ _) | (with_reducible refine below_alloc ?_ _))) : Below wa.heap.size wa _) hbb)); have HA2 := hide (below_then (by (repeat (first | (with_reducible assumption) | (with_reducible exact Below.refl _ _) | (with_reducible refine Below.drew ?_) | (with_reducible refine below_drewN ?_ _) | (with_reducible refine below_alloc ?_ _))) : Below w1.heap.size w1 _) hbb); have hbb' := unhide HA2; clear hr2 hbb)
        | (go_at_call 22; (with_reducible refine (unhide KJ _ _ _ (unhide HR3) (unhide HR2) _ ?_).mono ?_); (focus rfl); rintro e wd ⟨B, d, rfl, hr4, hbd, _, _⟩; have HR4 := hide hr4; have hbd' := below_then (unhide HA2) hbd; clear hr4 hbd))
    all_goals
      go_wp2
      go_ret
      exact ⟨B, d, rfl, unhide HR4, below_then (unhide HB) hbd'⟩
end Go.Proofs.Ythonngnmdciheaa
