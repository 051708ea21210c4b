/- Whether a configuration may be: all of it. -/
import Derived.Test.YtbbadncdkiganaaKgoos
namespace Go.Proofs.Ytbbadncdkiganaa
open Go.RowKit
set_option linter.unusedVariables false
set_option maxRecDepth 4000

def Lens (c : Cfg) : Prop := c.ports.length ≤ maxLen ∧ c.vlans.length ≤ maxLen ∧ c.stats.length ≤ maxLen
def Mems (c : Cfg) : Prop := ∀ v ∈ c.vlans, 0 ≤ v.2.1 ∧ v.2.1 ≤ 255
theorem sizes_lim {c : Cfg} (h : sizesB c = true) : (1 ≤ c.ports.length ∧ c.ports.length ≤ 8) ∧ (1 ≤ c.vlans.length ∧ c.vlans.length ≤ 16) ∧ c.stats.length ≤ 16 := by
  simp only [sizesB, Bool.and_eq_true, decide_eq_true_eq] at h
  obtain ⟨⟨h1, h2⟩, h3⟩ := h
  have a := wi_t h1
  have b := wi_t h2
  omega
theorem bool_to {a b : Bool} {f : Nat} {args : Array Value} {w : World} (h : Calls Try.prog f args w fun e w' => e = .returned (.bool a) ∧ Below w.heap.size w w') (e : a = b) : Calls Try.prog f args w fun e w' => e = .returned (.bool b) ∧ Below w.heap.size w w' := e ▸ h
set_option maxHeartbeats 4000000 in
theorem good_any (c : Cfg) (Ap Av As : Option Addr) (cp cv cs : Nat) (hL : Lens c) (hM : Mems c) (w : World) (hA : CfgA w c Ap Av As) :
    Calls Try.prog 14 #[.agg #[.int .i64 c.prio, .int .i64 c.age, .int .i64 c.delay, .slice Ap c.ports.length cp, .slice Av c.vlans.length cv, .slice As c.stats.length cs]] w fun e w' => e = .returned (.bool (goodB c)) ∧ Below w.heap.size w w' := by
  have g1 := hide (fun W (hW : Below w.heap.size w W) => sizes_any c.prio c.age c.delay Ap Av As c.ports.length cp c.vlans.length cv c.stats.length cs hL.1 hL.2.1 hL.2.2 W)
  have g2 := hide (fun W (hW : Below w.heap.size w W) => tree_any c.prio c.age c.delay (.slice Ap c.ports.length cp) (.slice Av c.vlans.length cv) (.slice As c.stats.length cs) W)
  have HB1 : Hid (∀ o, Below w.heap.size w (w.alloc o)) := hide (fun o => below_alloc (Below.refl _ _) _)
  have e1 : (wi c.ports.length 1 8 && wi c.vlans.length 1 16 && decide ((c.stats.length : Int) ≤ 16)) = sizesB c := rfl
  have e2 : treeI c.prio c.age c.delay = treeB c := rfl
  cases h1 : sizesB c with
  | false =>
    have g1 := hide (fun W hW => bool_to (unhide g1 W hW) (e1.trans h1))
    have hF : goodB c = false := by simp [goodB, h1]
    rw [hF]
    clear e1 e2 hF h1
    go_enter Try.func14, Try.ntmps14
    go_wp2_with (go_at_call 27; (with_reducible refine (unhide g1 _ (unhide HB1 _)).mono ?_); rintro e w2 ⟨rfl, hb2⟩; have HB2 := hide (below_then (unhide HB1 _) hb2); have HX := hide hb2; clear hb2)
    go_ret
    exact ⟨rfl, unhide HB2⟩
  | true =>
    have hlim := sizes_lim h1
    have g3 := hide (fun W (hW : Below w.heap.size w W) => vlans_any c.prio c.age c.delay Ap Av As c.ports.length cp cv c.stats.length cs c.vlans hlim.1.2 (by omega) W (rowA_below hA.2.1 hW))
    have g4 := hide (fun W (hW : Below w.heap.size w W) => ports_any c.prio c.age c.delay Ap Av As cp cv c.stats.length cs c.ports c.vlans (by omega) (by omega) W (rowA_below hA.1 hW) (rowA_below hA.2.1 hW))
    have g5 := hide (fun W (hW : Below w.heap.size w W) => stats_any c.prio c.age c.delay Ap Av As c.ports.length cp cv cs c.stats c.vlans (by omega) (by omega) hM W (rowA_below hA.2.2 hW) (rowA_below hA.2.1 hW))
    have g1 := hide (fun W hW => bool_to (unhide g1 W hW) (e1.trans h1))
    have e3 : (c.vlans.all (vlanOk (everyI c.ports.length)) && risB ltV c.vlans) = vlansB c := rfl
    have e4 : c.ports.all (portOk c.vlans) = portsB c := rfl
    have e5 : (c.stats.all (statOk c.vlans) && risB ltS c.stats) = statsB c := rfl
    generalize (⟨c.ports.length, c.vlans.length, c.stats.length⟩ : Nat × Nat × Nat) = N0
    have hcell : ∀ j v, (#[.int .i64 c.prio, .int .i64 c.age, .int .i64 c.delay, .slice Ap c.ports.length cp, .slice Av c.vlans.length cv, .slice As c.stats.length cs] : Array Value)[j]? = some v → ∀ W, Below (w.alloc (.cells #[.int .i64 c.prio, .int .i64 c.age, .int .i64 c.delay, .slice Ap c.ports.length cp, .slice Av c.vlans.length cv, .slice As c.stats.length cs] 26)).heap.size (w.alloc (.cells #[.int .i64 c.prio, .int .i64 c.age, .int .i64 c.delay, .slice Ap c.ports.length cp, .slice Av c.vlans.length cv, .slice As c.stats.length cs] 26)) W → W.cell? ⟨w.heap.size, j, none⟩ = some v := fun j v hj W hW => keep_cell (cell_lit rfl hj) hW
    have HC := hide hcell
    clear hcell hlim hA hM hL
    have hG : goodB c = (sizesB c && treeB c && vlansB c && portsB c && statsB c) := rfl
    rw [hG, h1]
    clear hG
    cases h2 : treeB c with
    | false =>
      have g2 := hide (fun W hW => bool_to (unhide g2 W hW) (e2.trans h2))
      clear e1 e2 h1 h2 e3 e4 e5
      go_enter Try.func14, Try.ntmps14
      go_wp2_with (first | (go_at_call 27; (with_reducible refine (unhide g1 _ (unhide HB1 _)).mono ?_); rintro e w2 ⟨rfl, hb2⟩; have kw20 := unhide HC 0 _ rfl w2 (hb2); have kw21 := unhide HC 1 _ rfl w2 (hb2); have kw22 := unhide HC 2 _ rfl w2 (hb2); have kw23 := unhide HC 3 _ rfl w2 (hb2); have kw24 := unhide HC 4 _ rfl w2 (hb2); have kw25 := unhide HC 5 _ rfl w2 (hb2); have HB2 := hide (below_then (unhide HB1 _) hb2); have HX2 := hide hb2; clear hb2) | (go_at_call 28; (with_reducible refine (unhide g2 _ (unhide HB2)).mono ?_); rintro e w3 ⟨rfl, hb3⟩; have HB3 := hide (below_then (unhide HB2) hb3); clear hb3))
      go_ret
      exact ⟨rfl, unhide HB3⟩
    | true =>
      have g2 := hide (fun W hW => bool_to (unhide g2 W hW) (e2.trans h2))
      cases h3 : vlansB c with
      | false =>
        have g3 := hide (fun W hW => bool_to (unhide g3 W hW) (e3.trans h3))
        clear e1 e2 h1 h2 e3 e4 e5 h3
        go_enter Try.func14, Try.ntmps14
        go_wp2_with (first | (go_at_call 27; (with_reducible refine (unhide g1 _ (unhide HB1 _)).mono ?_); rintro e w2 ⟨rfl, hb2⟩; have kw20 := unhide HC 0 _ rfl w2 (hb2); have kw21 := unhide HC 1 _ rfl w2 (hb2); have kw22 := unhide HC 2 _ rfl w2 (hb2); have kw23 := unhide HC 3 _ rfl w2 (hb2); have kw24 := unhide HC 4 _ rfl w2 (hb2); have kw25 := unhide HC 5 _ rfl w2 (hb2); have HB2 := hide (below_then (unhide HB1 _) hb2); have HX2 := hide hb2; clear hb2) | (go_at_call 28; (with_reducible refine (unhide g2 _ (unhide HB2)).mono ?_); rintro e w3 ⟨rfl, hb3⟩; have hx3 := below_then (unhide HX2) hb3; have kw30 := unhide HC 0 _ rfl w3 (hx3); have kw31 := unhide HC 1 _ rfl w3 (hx3); have kw32 := unhide HC 2 _ rfl w3 (hx3); have kw33 := unhide HC 3 _ rfl w3 (hx3); have kw34 := unhide HC 4 _ rfl w3 (hx3); have kw35 := unhide HC 5 _ rfl w3 (hx3); have HB3 := hide (below_then (unhide HB2) hb3); have HX3 := hide hx3; clear hb3 hx3) | (go_at_call 29; (with_reducible refine (unhide g3 _ (unhide HB3)).mono ?_); rintro e w4 ⟨rfl, hb4⟩; have HB4 := hide (below_then (unhide HB3) hb4); clear hb4))
        go_ret
        exact ⟨rfl, unhide HB4⟩
      | true =>
        have g3 := hide (fun W hW => bool_to (unhide g3 W hW) (e3.trans h3))
        cases h4 : portsB c with
        | false =>
          have g4 := hide (fun W hW => bool_to (unhide g4 W hW) (e4.trans h4))
          clear e1 e2 h1 h2 e3 e4 e5 h3 h4
          go_enter Try.func14, Try.ntmps14
          go_wp2_with (first | (go_at_call 27; (with_reducible refine (unhide g1 _ (unhide HB1 _)).mono ?_); rintro e w2 ⟨rfl, hb2⟩; have kw20 := unhide HC 0 _ rfl w2 (hb2); have kw21 := unhide HC 1 _ rfl w2 (hb2); have kw22 := unhide HC 2 _ rfl w2 (hb2); have kw23 := unhide HC 3 _ rfl w2 (hb2); have kw24 := unhide HC 4 _ rfl w2 (hb2); have kw25 := unhide HC 5 _ rfl w2 (hb2); have HB2 := hide (below_then (unhide HB1 _) hb2); have HX2 := hide hb2; clear hb2) | (go_at_call 28; (with_reducible refine (unhide g2 _ (unhide HB2)).mono ?_); rintro e w3 ⟨rfl, hb3⟩; have hx3 := below_then (unhide HX2) hb3; have kw30 := unhide HC 0 _ rfl w3 (hx3); have kw31 := unhide HC 1 _ rfl w3 (hx3); have kw32 := unhide HC 2 _ rfl w3 (hx3); have kw33 := unhide HC 3 _ rfl w3 (hx3); have kw34 := unhide HC 4 _ rfl w3 (hx3); have kw35 := unhide HC 5 _ rfl w3 (hx3); have HB3 := hide (below_then (unhide HB2) hb3); have HX3 := hide hx3; clear hb3 hx3) | (go_at_call 29; (with_reducible refine (unhide g3 _ (unhide HB3)).mono ?_); rintro e w4 ⟨rfl, hb4⟩; have hx4 := below_then (unhide HX3) hb4; have kw40 := unhide HC 0 _ rfl w4 (hx4); have kw41 := unhide HC 1 _ rfl w4 (hx4); have kw42 := unhide HC 2 _ rfl w4 (hx4); have kw43 := unhide HC 3 _ rfl w4 (hx4); have kw44 := unhide HC 4 _ rfl w4 (hx4); have kw45 := unhide HC 5 _ rfl w4 (hx4); have HB4 := hide (below_then (unhide HB3) hb4); have HX4 := hide hx4; clear hb4 hx4) | (go_at_call 30; (with_reducible refine (unhide g4 _ (unhide HB4)).mono ?_); rintro e w5 ⟨rfl, hb5⟩; have HB5 := hide (below_then (unhide HB4) hb5); clear hb5))
          go_ret
          exact ⟨rfl, unhide HB5⟩
        | true =>
          have g4 := hide (fun W hW => bool_to (unhide g4 W hW) (e4.trans h4))
          have g5 := hide (fun W hW => bool_to (unhide g5 W hW) e5)
          obtain ⟨r, hr⟩ : ∃ r, statsB c = r := ⟨_, rfl⟩
          rw [hr] at g5 ⊢
          clear e1 e2 h1 h2 e3 e4 e5 h3 h4 hr
          go_enter Try.func14, Try.ntmps14
          go_wp2_with (first | (go_at_call 27; (with_reducible refine (unhide g1 _ (unhide HB1 _)).mono ?_); rintro e w2 ⟨rfl, hb2⟩; have kw20 := unhide HC 0 _ rfl w2 (hb2); have kw21 := unhide HC 1 _ rfl w2 (hb2); have kw22 := unhide HC 2 _ rfl w2 (hb2); have kw23 := unhide HC 3 _ rfl w2 (hb2); have kw24 := unhide HC 4 _ rfl w2 (hb2); have kw25 := unhide HC 5 _ rfl w2 (hb2); have HB2 := hide (below_then (unhide HB1 _) hb2); have HX2 := hide hb2; clear hb2) | (go_at_call 28; (with_reducible refine (unhide g2 _ (unhide HB2)).mono ?_); rintro e w3 ⟨rfl, hb3⟩; have hx3 := below_then (unhide HX2) hb3; have kw30 := unhide HC 0 _ rfl w3 (hx3); have kw31 := unhide HC 1 _ rfl w3 (hx3); have kw32 := unhide HC 2 _ rfl w3 (hx3); have kw33 := unhide HC 3 _ rfl w3 (hx3); have kw34 := unhide HC 4 _ rfl w3 (hx3); have kw35 := unhide HC 5 _ rfl w3 (hx3); have HB3 := hide (below_then (unhide HB2) hb3); have HX3 := hide hx3; clear hb3 hx3) | (go_at_call 29; (with_reducible refine (unhide g3 _ (unhide HB3)).mono ?_); rintro e w4 ⟨rfl, hb4⟩; have hx4 := below_then (unhide HX3) hb4; have kw40 := unhide HC 0 _ rfl w4 (hx4); have kw41 := unhide HC 1 _ rfl w4 (hx4); have kw42 := unhide HC 2 _ rfl w4 (hx4); have kw43 := unhide HC 3 _ rfl w4 (hx4); have kw44 := unhide HC 4 _ rfl w4 (hx4); have kw45 := unhide HC 5 _ rfl w4 (hx4); have HB4 := hide (below_then (unhide HB3) hb4); have HX4 := hide hx4; clear hb4 hx4) | (go_at_call 30; (with_reducible refine (unhide g4 _ (unhide HB4)).mono ?_); rintro e w5 ⟨rfl, hb5⟩; have hx5 := below_then (unhide HX4) hb5; have kw50 := unhide HC 0 _ rfl w5 (hx5); have kw51 := unhide HC 1 _ rfl w5 (hx5); have kw52 := unhide HC 2 _ rfl w5 (hx5); have kw53 := unhide HC 3 _ rfl w5 (hx5); have kw54 := unhide HC 4 _ rfl w5 (hx5); have kw55 := unhide HC 5 _ rfl w5 (hx5); have HB5 := hide (below_then (unhide HB4) hb5); have HX5 := hide hx5; clear hb5 hx5) | (go_at_call 31; (with_reducible refine (unhide g5 _ (unhide HB5)).mono ?_); rintro e w6 ⟨rfl, hb6⟩; have HB6 := hide (below_then (unhide HB5) hb6); clear hb6))
          all_goals
            go_ret
            exact ⟨rfl, unhide HB6⟩
end Go.Proofs.Ytbbadncdkiganaa
