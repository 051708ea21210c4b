/- The reference's small functions: Member, Vlan, less. -/
import Derived.Test.YtbbadncdkiganabKall
namespace Go.Proofs.Ytbbadncdkiganab
open Go.RowKit
set_option linter.unusedVariables false
set_option maxRecDepth 4000

set_option maxHeartbeats 1000000 in
theorem rmem_any (v : VlanC) (p : Int) (hp : -9223372036854775808 ≤ p ∧ p ≤ 9223372036854775807) (w : World) : Calls Try.prog 9 #[.agg #[.int .i64 v.1, .int .u8 v.2.1, .int .u8 v.2.2], .int .i64 p] w fun e w' => e = .returned (.bool (isMem v p)) ∧ Below w.heap.size w w' := by
  have HB := hide (below_alloc (Below.refl w.heap.size w) (.cells #[.int .i64 v.1, .int .u8 v.2.1, .int .u8 v.2.2] 42))
  by_cases h0 : 0 ≤ p
  · by_cases h8 : p < 8
    · have hw : IntKind.u64.wrap p = p := by rw [IntKind.wrap_u64]; omega
      go_enter Try.func9, Try.ntmps9
      go_wp2
      go_ret
      exact ⟨ret_bool (by unfold isMem; rw [wi_of h0 (by omega)]; simp), unhide HB⟩
    · go_enter Try.func9, Try.ntmps9
      go_wp2
      go_ret
      exact ⟨ret_bool (by unfold isMem; rw [wi_not (by omega)]; simp), unhide HB⟩
  · go_enter Try.func9, Try.ntmps9
    go_wp2
    go_ret
    exact ⟨ret_bool (by unfold isMem; rw [wi_not (by omega)]; simp), unhide HB⟩
set_option maxHeartbeats 1000000 in
theorem rless_any (a b : StatC) (w : World) : Calls Try.prog 11 #[.agg #[.int .u64 a.1, .int .i64 a.2.1, .int .i64 a.2.2], .agg #[.int .u64 b.1, .int .i64 b.2.1, .int .i64 b.2.2]] w fun e w' => e = .returned (.bool (ltS a b)) ∧ Below w.heap.size w w' := by
  have HB := hide (below_alloc (below_alloc (Below.refl w.heap.size w) (.cells #[.int .u64 a.1, .int .i64 a.2.1, .int .i64 a.2.2] 46)) (.cells #[.int .u64 b.1, .int .i64 b.2.1, .int .i64 b.2.2] 46))
  by_cases h1 : a.2.1 < b.2.1
  · go_enter Try.func11, Try.ntmps11
    go_wp2
    go_ret
    exact ⟨ret_bool (by simp [ltS, h1]), below_alloc (below_alloc (Below.refl _ _) _) _⟩
  · by_cases h2 : a.2.1 = b.2.1
    · go_enter Try.func11, Try.ntmps11
      go_wp2
      go_ret
      exact ⟨ret_bool (by simp [ltS, h2]), below_alloc (below_alloc (Below.refl _ _) _) _⟩
    · go_enter Try.func11, Try.ntmps11
      go_wp2
      go_ret
      exact ⟨ret_bool (by simp [ltS, h1, h2]), below_alloc (below_alloc (Below.refl _ _) _) _⟩
def VlanAt (vs : List VlanC) (id r : Int) : Prop := (∃ (k : Nat) (v : VlanC), r = k ∧ vs[k]? = some v ∧ findV vs id = some v) ∨ (r = -1 ∧ findV vs id = none)
set_option maxHeartbeats 1000000 in
theorem rvlan_any (x0 x1 x2 : Int) (Ap As : Option Addr) (np cp ns cs : Nat) (A : Option Addr) (vs : List VlanC) (cap : Nat) (id : Int) (w : World) (hA : RowA w A (fl encV vs)) (hl : vs.length ≤ 100) :
    Calls Try.prog 10 #[.agg #[.int .i64 x0, .int .i64 x1, .int .i64 x2, .slice Ap np cp, .slice A vs.length cap, .slice As ns cs], .int .i64 id] w fun e w' => ∃ r, e = .returned (.int .i64 r) ∧ VlanAt vs id r ∧ Below w.heap.size w w' := by
  obtain ⟨n, hn⟩ : ∃ n, vs.length = n := ⟨_, rfl⟩
  have HN := hide hn
  rw [hn] at hl ⊢
  clear hn
  have HB := hide (below_alloc (Below.refl w.heap.size w) (.cells #[.int .i64 x0, .int .i64 x1, .int .i64 x2, .slice Ap np cp, .slice A n cap, .slice As ns cs] 26))
  have c4 : (w.alloc (.cells #[.int .i64 x0, .int .i64 x1, .int .i64 x2, .slice Ap np cp, .slice A n cap, .slice As ns cs] 26)).cell? ⟨w.heap.size, 4, none⟩ = some (.slice A n cap) := cell_lit rfl rfl
  go_enter Try.func10, Try.ntmps10
  go_wp2
  generalize w.alloc (.cells #[.int .i64 x0, .int .i64 x1, .int .i64 x2, .slice Ap np cp, .slice A n cap, .slice As ns cs] 26) = w1 at *
  go_loop [5] (fun i => ∃ k : Nat, k ≤ n ∧ i = .int .i64 k ∧ Aside (∀ j x, j < k → vs[j]? = some x → x.1 ≠ id)) (fun i => (n - (intOf i).toNat))
  case atStart => exact ⟨0, Nat.zero_le _, rfl, fun j x hj => absurd hj (Nat.not_lt_zero _)⟩
  case round =>
    obtain ⟨k, hk, rfl, M⟩ := hrel
    by_cases hlt : k < n
    · have hltz : (k : Int) < (n : Int) := by omega
      obtain ⟨b, off, rfl, hc⟩ := rowV_at hA (by have := unhide HN; omega)
      obtain ⟨v, hv⟩ : ∃ v, vs[k]? = some v := ⟨_, List.getElem?_eq_getElem (by have := unhide HN; omega)⟩
      obtain ⟨c0, -, -⟩ := hc w1 (unhide HB) k v hv
      have HV := hide hv
      clear hc hv hA
      by_cases e : v.1 = id
      · have E := hide e
        rw [e] at c0
        clear e
        go_wp2
        go_ret
        obtain ⟨p1, p2⟩ := pos_hit (unhide HV) (unhide E) M.out
        exact ⟨_, rfl, .inl ⟨k, v, rfl, unhide HV, p2⟩, unhide HB⟩
      · have E := hide e
        generalize v.1 = y at c0 e
        go_wp2
        go_round
        case rel =>
          refine ⟨k + 1, by omega, by go_num, (show Aside _ from fun j x hj hx => ?_)⟩
          by_cases e : j = k
          · subst e
            have := unhide HV
            rw [this] at hx
            cases hx
            exact unhide E
          · exact M.out j x (by omega) hx
        case measure => simp [intOf]; omega
    · have hltz : ¬ (k : Int) < (n : Int) := by omega
      have : k = n := by omega
      subst this
      go_wp2
      go_ret
      exact ⟨_, rfl, .inr ⟨rfl, pos_miss (fun j x hj => M.out j x (by have := unhide HN; omega))⟩, unhide HB⟩
theorem rvlan_no (x0 x1 x2 : Int) (Ap As : Option Addr) (np cp ns cs : Nat) (A : Option Addr) (vs : List VlanC) (cap : Nat) (id : Int) (w : World) (hA : RowA w A (fl encV vs)) (hl : vs.length ≤ 100) (hf : findV vs id = none) :
    Calls Try.prog 10 #[.agg #[.int .i64 x0, .int .i64 x1, .int .i64 x2, .slice Ap np cp, .slice A vs.length cap, .slice As ns cs], .int .i64 id] w fun e w' => e = .returned (.int .i64 (-1)) ∧ Below w.heap.size w w' := by
  refine (rvlan_any x0 x1 x2 Ap As np cp ns cs A vs cap id w hA hl).mono ?_
  rintro e w' ⟨r, h1, ⟨k, v, hr, h2, h3⟩ | ⟨hr, h2⟩, h4⟩
  · rw [hf] at h3; cases h3
  · subst hr; exact ⟨h1, h4⟩
theorem rvlan_yes (x0 x1 x2 : Int) (Ap As : Option Addr) (np cp ns cs : Nat) (A : Option Addr) (vs : List VlanC) (cap : Nat) (id : Int) (w : World) (hA : RowA w A (fl encV vs)) (hl : vs.length ≤ 100) {v : VlanC} (hf : findV vs id = some v) :
    Calls Try.prog 10 #[.agg #[.int .i64 x0, .int .i64 x1, .int .i64 x2, .slice Ap np cp, .slice A vs.length cap, .slice As ns cs], .int .i64 id] w fun e w' => ∃ k : Nat, e = .returned (.int .i64 k) ∧ vs[k]? = some v ∧ Below w.heap.size w w' := by
  refine (rvlan_any x0 x1 x2 Ap As np cp ns cs A vs cap id w hA hl).mono ?_
  rintro e w' ⟨r, h1, ⟨k, v', hr, h2, h3⟩ | ⟨hr, h2⟩, h4⟩
  · rw [hf] at h3; cases h3; subst hr; exact ⟨k, h1, h2, h4⟩
  · rw [hf] at h2; cases h2
end Go.Proofs.Ytbbadncdkiganab
