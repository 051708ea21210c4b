/- One edit: what a change of a list leaves. -/
import Derived.Test.YtbbadncdkiganaaKapp
namespace Go.Proofs.Ytbbadncdkiganaa
open Go.RowKit
set_option linter.unusedVariables false
set_option maxRecDepth 4000

/-- What a change of the VLANs leaves, where the variable is written behind it. -/
theorem ced_vlans {base g : Nat} {c : Cfg} {w W w2 : World} {Av : Option Addr} {cv n' c' : Nat} {A' : Option Addr} {vp vs : Value} {l : List VlanC} (hbg : base ≤ g) (hbw : base ≤ w.heap.size) (hW : Below w.heap.size w W)
    (hH : W.heap[g]? = some (.cells #[.int .i64 c.prio, .int .i64 c.age, .int .i64 c.delay, vp, .slice Av c.vlans.length cv, vs] 26 (0, 0))) (hO : CfgO W base c vp (.slice Av c.vlans.length cv) vs)
    (h1 : w2.ownsRow base 46 3 (.slice A' n' c') l.length (fl encV l)) (h2 : W.grownBy w2 (Value.slice Av c.vlans.length cv).ownBlock) :
    w2.heap[g]? = some (.cells #[.int .i64 c.prio, .int .i64 c.age, .int .i64 c.delay, vp, .slice Av c.vlans.length cv, vs] 26 (0, 0)) ∧ Ced (w2.setCell ⟨g, 4, none⟩ (.slice A' n' c')) base g { c with vlans := l } ∧ Below base w (w2.setCell ⟨g, 4, none⟩ (.slice A' n' c')) := by
  have hH2 := heap_grown hH h2 (fun e => own_ne hO.2.1 hH (by decide) e.symm)
  have hbw2 : base ≤ W.heap.size := by have := hW.size; omega
  refine ⟨hH2, ⟨hbg, by have := h2.size; simp [World.setCell]; omega, vp, _, vs, heap_set hH2 4 _, ?_, ?_, ?_⟩, ?_⟩
  · exact own_set_other (own_grown_other hO.1 h2 (own_apart hO.1 hO.2.1 (by decide))) (own_ne (own_grown_other hO.1 h2 (own_apart hO.1 hO.2.1 (by decide))) hH2 (by decide)) 4 _
  · exact own_set_other h1 (own_ne h1 hH2 (by decide)) 4 _
  · exact own_set_other (own_grown_other hO.2.2 h2 (own_apart hO.2.2 hO.2.1 (by decide))) (own_ne (own_grown_other hO.2.2 h2 (own_apart hO.2.2 hO.2.1 (by decide))) hH2 (by decide)) 4 _
  · refine (((hW.mono hbw).trans (below_base h2 hbw2 (fun k hk => ?_)))).setCell hbg _
    rcases hO.2.1.2 with ⟨h, _⟩ | ⟨g', cap, cur, h, hb', _⟩
    · rw [h] at hk; cases hk
    · rw [h] at hk; cases hk; exact hb'
/-- What a change of the statics leaves, where the variable is written behind it. -/
theorem ced_stats {base g : Nat} {c : Cfg} {w W w2 : World} {Av : Option Addr} {cv n' c' : Nat} {A' : Option Addr} {vp vs : Value} {l : List StatC} (hbg : base ≤ g) (hbw : base ≤ w.heap.size) (hW : Below w.heap.size w W)
    (hH : W.heap[g]? = some (.cells #[.int .i64 c.prio, .int .i64 c.age, .int .i64 c.delay, vp, vs, .slice Av c.stats.length cv] 26 (0, 0))) (hO : CfgO W base c vp vs (.slice Av c.stats.length cv))
    (h1 : w2.ownsRow base 52 3 (.slice A' n' c') l.length (fl encS l)) (h2 : W.grownBy w2 (Value.slice Av c.stats.length cv).ownBlock) :
    w2.heap[g]? = some (.cells #[.int .i64 c.prio, .int .i64 c.age, .int .i64 c.delay, vp, vs, .slice Av c.stats.length cv] 26 (0, 0)) ∧ Ced (w2.setCell ⟨g, 5, none⟩ (.slice A' n' c')) base g { c with stats := l } ∧ Below base w (w2.setCell ⟨g, 5, none⟩ (.slice A' n' c')) := by
  have hH2 := heap_grown hH h2 (fun e => own_ne hO.2.2 hH (by decide) e.symm)
  have hbw2 : base ≤ W.heap.size := by have := hW.size; omega
  refine ⟨hH2, ⟨hbg, by have := h2.size; simp [World.setCell]; omega, vp, vs, _, heap_set hH2 5 _, ?_, ?_, ?_⟩, ?_⟩
  · exact own_set_other (own_grown_other hO.1 h2 (own_apart hO.1 hO.2.2 (by decide))) (own_ne (own_grown_other hO.1 h2 (own_apart hO.1 hO.2.2 (by decide))) hH2 (by decide)) 5 _
  · exact own_set_other (own_grown_other hO.2.1 h2 (own_apart hO.2.1 hO.2.2 (by decide))) (own_ne (own_grown_other hO.2.1 h2 (own_apart hO.2.1 hO.2.2 (by decide))) hH2 (by decide)) 5 _
  · exact own_set_other h1 (own_ne h1 hH2 (by decide)) 5 _
  · refine (((hW.mono hbw).trans (below_base h2 hbw2 (fun k hk => ?_)))).setCell hbg _
    rcases hO.2.2.2 with ⟨h, _⟩ | ⟨g', cap, cur, h, hb', _⟩
    · rw [h] at hk; cases hk
    · rw [h] at hk; cases hk; exact hb'
end Go.Proofs.Ytbbadncdkiganaa
