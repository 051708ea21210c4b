/- An edit of a port. -/
import Derived.Test.YtbbadncdkiganaaKputs
namespace Go.Proofs.Ytbbadncdkiganaa
open Go.RowKit
set_option linter.unusedVariables false
set_option maxRecDepth 4000

theorem fl_set1 {α : Type} {enc : α → List Value} (h : ∀ x, (enc x).length = 3) : ∀ (l : List α) (k j : Nat) (u : Value) (x x' : α), l[k]? = some x → j < 3 → enc x' = (enc x).set j u → (fl enc l).set (k * 3 + j) u = fl enc (l.set k x')
  | [], k, j, u, x, x', hx, _, _ => by simp at hx
  | y :: t, 0, j, u, x, x', hx, hj, he => by
    simp at hx
    subst hx
    unfold fl
    rw [List.set_cons_zero, List.flatMap_cons, List.flatMap_cons, he, Nat.zero_mul, Nat.zero_add, List.set_append_left _ _ (by rw [h]; exact hj)]
  | y :: t, k + 1, j, u, x, x', hx, hj, he => by
    have := fl_set1 h t k j u x x' (by simpa using hx) hj he
    unfold fl at this ⊢
    rw [List.set_cons_succ, List.flatMap_cons, List.flatMap_cons, List.set_append_right _ _ (by rw [h]; omega), h, show (k + 1) * 3 + j - 3 = k * 3 + j from by omega, this]
/-- One cell of one element is written. -/
theorem own_put1 {α : Type} {enc : α → List Value} (h : ∀ x, (enc x).length = 3) {w : World} {base : Nat} {e : TypeId} {g n cap : Nat} {cur : List Value} {l : List α} (hC : Cur w e g cap cur) (hb : base ≤ g) (hn : n ≤ cap) (hc : cap ≤ maxLen) (htk : cur.take (n * 3) = fl enc l)
    {k j : Nat} {u : Value} {x x' : α} (hx : l[k]? = some x) (hj : j < 3) (he : enc x' = (enc x).set j u) : (w.setCell ⟨g, k * 3 + j, none⟩ u).ownsRow base e 3 (.slice (some ⟨g, 0, none⟩) n cap) n (fl enc (l.set k x')) := by
  have hC' : Cur (w.setCell ⟨g, k * 3 + j, none⟩ u) e g cap (cur.set (k * 3 + j) u) := ⟨by simpa using heap_set hC.heap (k * 3 + j) u, by rw [List.length_set]; exact hC.len⟩
  exact own_shut hC' hb hn hc (by rw [List.take_set, htk, fl_set1 h l k j u x x' hx hj he])
theorem grown_set (w : World) (g i : Nat) (u : Value) : w.grownBy (w.setCell ⟨g, i, none⟩ u) (some g) :=
  ⟨rfl, rfl, rfl, by simp [World.setCell], fun k hk hr => Below.heap_setCell _ _ _ _ (by intro e; subst e; exact hr rfl)⟩
theorem withinI_t {x a b : Int} (h : wi x a b = true) (w : World) : Calls Try.prog 64 #[.int .i64 x, .int .i64 a, .int .i64 b] w fun e w' => e = .returned (.bool true) ∧ w' = w := by
  have := withinI_any x a b w
  rw [h] at this
  exact this
theorem withinI_f {x a b : Int} (h : wi x a b = false) (w : World) : Calls Try.prog 64 #[.int .i64 x, .int .i64 a, .int .i64 b] w fun e w' => e = .returned (.bool false) ∧ w' = w := by
  have := withinI_any x a b w
  rw [h] at this
  exact this
theorem portE_no {ps : List PortC} {e : Ed} (h : e.port < 0 ∨ (ps.length : Int) ≤ e.port) : portE ps e = (1, ps) := by
  unfold portE
  rcases h with h | h
  · cases ps[e.port.toNat]? with
    | none => rfl
    | some p => simp [h]
  · rw [List.getElem?_eq_none (by omega)]
set_option maxHeartbeats 4000000 in
theorem port_any (base : Nat) (ps : List PortC) (v : Value) (e : Ed) (w : World) (hl : ps.length ≤ 100) (ho : w.ownsRow base 50 3 v ps.length (fl encP ps)) :
    Calls Try.prog 51 #[v, .agg #[.int .i64 e.kind, .int .i64 e.port, .int .i64 e.n, .int .i64 e.vlan, .int .u8 e.member, .int .u8 e.tagged, .int .u64 e.mac]] w fun x w' => x = .returned (.int .i64 (portE ps e).1) ∧ w'.ownsRow base 50 3 v ps.length (fl encP (portE ps e).2) ∧ w.grownBy w' v.ownBlock := by
  by_cases hp : e.port < 0 ∨ (ps.length : Int) ≤ e.port
  · rw [portE_no hp]
    have HO := hide (own_below ho (below_alloc (Below.refl _ _) (.cells #[.int .i64 e.kind, .int .i64 e.port, .int .i64 e.n, .int .i64 e.vlan, .int .u8 e.member, .int .u8 e.tagged, .int .u64 e.mac] 44)))
    obtain ⟨A, cp, rfl, hA⟩ := own_row ho
    obtain ⟨kind, port, nn, vlan, member, tagged, mac⟩ := e
    dsimp only at *
    clear ho hA
    generalize ps.length = n at *
    by_cases h1 : port < 0
    · clear hp
      go_enter Try.func51, Try.ntmps51
      go_wp2
      go_ret
      exact ⟨rfl, unhide HO, grown_below (below_alloc (Below.refl _ _) _)⟩
    · have h2 : (n : Int) ≤ port := by omega
      clear hp
      go_enter Try.func51, Try.ntmps51
      go_wp2
      go_ret
      exact ⟨rfl, unhide HO, grown_below (below_alloc (Below.refl _ _) _)⟩
  · obtain ⟨k, hk⟩ : ∃ k : Nat, e.port = k := ⟨e.port.toNat, by omega⟩
    have hkn : k < ps.length := by omega
    obtain ⟨p, hpk⟩ : ∃ p, ps[k]? = some p := ⟨_, List.getElem?_eq_getElem hkn⟩
    have hE : portE ps e = (if e.kind = 4 ∧ wi e.n 0 1 = true then (0, ps.set k (decide (e.n = 1), p.2.1, p.2.2)) else if e.kind = 5 ∧ wi e.n 0 4294967295 = true then (0, ps.set k (p.1, e.n, p.2.2)) else if e.kind = 6 then (0, ps.set k (p.1, p.2.1, e.n)) else (1, ps)) := by
      unfold portE
      rw [hk, Int.toNat_natCast, hpk]
      simp only
      rw [if_neg (by omega)]
    rw [hE]
    have HO := hide (own_below ho (below_alloc (Below.refl _ _) (.cells #[.int .i64 e.kind, .int .i64 e.port, .int .i64 e.n, .int .i64 e.vlan, .int .u8 e.member, .int .u8 e.tagged, .int .u64 e.mac] 44)))
    obtain ⟨g, cap, cur, rfl, hbg, hnc, hcm, hC, htk⟩ := own_open ho (by omega)
    have HCA : Hid (Cur (w.alloc (.cells #[.int .i64 e.kind, .int .i64 e.port, .int .i64 e.n, .int .i64 e.vlan, .int .u8 e.member, .int .u8 e.tagged, .int .u64 e.mac] 44)) 50 g cap cur) := hide (hC.keep (r := none) (grown_below (below_alloc (Below.refl _ _) _)) (by simp))
    have hlen := (unhide HCA).len
    have m0 := ((unhide HCA).cell (k * 3)).trans (getD_of _ undef 0 (by omega))
    have m1 := ((unhide HCA).cell (k * 3 + 1)).trans (getD_of _ undef 0 (by omega))
    have m2 := ((unhide HCA).cell (k * 3 + 2)).trans (getD_of _ undef 0 (by omega))
    have l0 := (unhide HCA).frozen (k * 3)
    have l1 := (unhide HCA).frozen (k * 3 + 1)
    have l2 := (unhide HCA).frozen (k * 3 + 2)
    have HQ := hide (fun j u x' hj he => own_put1 encP_len (unhide HCA) hbg hnc hcm htk (j := j) (u := u) (x' := x') hpk hj he)
    obtain ⟨kind, port, nn, vlan, member, tagged, mac⟩ := e
    dsimp only at *
    subst hk
    clear ho hC htk hE hp HCA hpk hlen hbg hcm
    generalize ps.length = n at *
    have hk2 : (k : Int) < (n : Int) := by omega
    by_cases h4 : kind = 4
    · subst h4
      cases hw : wi nn 0 1 with
      | true =>
        have g1 := hide (within_t hw)
        rw [if_pos ⟨rfl, rfl⟩]
        go_enter Try.func51, Try.ntmps51
        go_wp2_with (go_at_call 42; (with_reducible refine (unhide g1 _).mono ?_); rintro x w' ⟨rfl, rfl⟩)
        go_ret
        exact ⟨rfl, unhide HQ 0 _ _ (by omega) rfl, grown_trans (grown_below (below_alloc (Below.refl _ _) _)) (grown_set _ _ _ _)⟩
      | false =>
        have g1 := hide (within_f hw)
        rw [if_neg (by simp), if_neg (by simp), if_neg (by simp)]
        go_enter Try.func51, Try.ntmps51
        go_wp2_with (go_at_call 42; (with_reducible refine (unhide g1 _).mono ?_); rintro x w' ⟨rfl, rfl⟩)
        go_ret
        exact ⟨rfl, unhide HO, grown_below (below_alloc (Below.refl _ _) _)⟩
    · by_cases h5 : kind = 5
      · subst h5
        cases hw : wi nn 0 4294967295 with
        | true =>
          have g1 := hide (withinI_t hw)
          have hb := wi_t hw
          obtain ⟨hb1, hb2⟩ := hb
          rw [if_neg (by simp), if_pos ⟨rfl, rfl⟩]
          go_enter Try.func51, Try.ntmps51
          go_wp2_with (go_at_call 64; (with_reducible refine (unhide g1 _).mono ?_); rintro x w' ⟨rfl, rfl⟩)
          go_ret
          exact ⟨rfl, unhide HQ 1 _ _ (by omega) rfl, grown_trans (grown_below (below_alloc (Below.refl _ _) _)) (grown_set _ _ _ _)⟩
        | false =>
          have g1 := hide (withinI_f hw)
          rw [if_neg (by simp), if_neg (by simp), if_neg (by simp)]
          go_enter Try.func51, Try.ntmps51
          go_wp2_with (go_at_call 64; (with_reducible refine (unhide g1 _).mono ?_); rintro x w' ⟨rfl, rfl⟩)
          go_ret
          exact ⟨rfl, unhide HO, grown_below (below_alloc (Below.refl _ _) _)⟩
      · by_cases h6 : kind = 6
        · subst h6
          rw [if_neg (by simp), if_neg (by simp), if_pos rfl]
          go_enter Try.func51, Try.ntmps51
          go_wp2
          go_ret
          exact ⟨rfl, unhide HQ 2 _ _ (by omega) rfl, grown_trans (grown_below (below_alloc (Below.refl _ _) _)) (grown_set _ _ _ _)⟩
        · rw [if_neg (by simp [h4]), if_neg (by simp [h5]), if_neg h6]
          go_enter Try.func51, Try.ntmps51
          go_wp2
          go_ret
          exact ⟨rfl, unhide HO, grown_below (below_alloc (Below.refl _ _) _)⟩
end Go.Proofs.Ytbbadncdkiganaa
