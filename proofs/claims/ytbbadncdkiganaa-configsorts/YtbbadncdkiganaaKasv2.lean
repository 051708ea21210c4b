/- One edit: statics. -/
import Derived.Test.YtbbadncdkiganaaKced
namespace Go.Proofs.Ytbbadncdkiganaa
open Go.RowKit
set_option linter.unusedVariables false
set_option maxRecDepth 4000

set_option maxHeartbeats 16000000 in
theorem apply_sset (base g : Nat) (c : Cfg) (e : Ed) (w : World) (hl : c.stats.length ≤ 99) (hr : risB ltS c.stats = true) (hC : Ced w base g c) (hk : e.kind = 9) :
    Calls Try.prog 38 #[.pointer (some ⟨g, 0, none⟩), .agg #[.int .i64 e.kind, .int .i64 e.port, .int .i64 e.n, .int .i64 e.vlan, .int .u8 e.member, .int .u8 e.tagged, .int .u64 e.mac]] w fun x w' => x = .returned (.int .i64 (applyE c e).1) ∧ Ced w' base g (applyE c e).2 ∧ Below base w w' := by
  obtain ⟨hbg, hbw, vp, vv, vs, hH, hO⟩ := hC
  have hb1 : Below w.heap.size w (w.alloc (.cells (eCells e) 44)) := below_alloc (Below.refl _ _) _
  have hA : applyE c e = (0, { c with stats := putL ltS eqS (e.mac, e.vlan, e.port) c.stats }) := by
    unfold applyE
    rw [if_neg (by omega), if_neg (by omega), if_neg (by omega), if_neg (by omega), if_neg (by omega), if_neg (by omega), if_pos hk]
  rw [hA]
  have hO1 := hO.below hb1
  have hH1 := heap_keep hH hb1
  have HP := hide (fun W hW => putS_any base c.stats vs (e.mac, e.vlan, e.port) W hl (own_below hO1.2.2 hW) (by have := hW.size; have := hb1.size; omega) hr)
  obtain ⟨Av, cv, hvp, -⟩ := own_row hO1.2.2
  subst hvp
  have HFIN : Hid (∀ W w2 A' n' c', Below (w.alloc (.cells (eCells e) 44)).heap.size (w.alloc (.cells (eCells e) 44)) W → w2.ownsRow base 52 3 (.slice A' n' c') (putL ltS eqS (e.mac, e.vlan, e.port) c.stats).length (fl encS (putL ltS eqS (e.mac, e.vlan, e.port) c.stats)) → W.grownBy w2 (Value.slice Av c.stats.length cv).ownBlock → _) := hide (fun W w2 A' n' c' hW h1 h2 => ced_stats (w := w) hbg hbw (hb1.trans (hW.mono hb1.size)) (heap_keep hH1 hW) (hO1.below hW) h1 h2)
  have HC4 := hide (fun W (hW : Below (w.alloc (.cells (eCells e) 44)).heap.size (w.alloc (.cells (eCells e) 44)) W) => keep_cell (heap_cell hH1 5).1 hW)
  have hec : ∀ j v, (eCells e)[j]? = some v → (w.alloc (.cells (eCells e) 44)).cell? ⟨w.heap.size, j, none⟩ = some v := fun j v hj => cell_lit rfl hj
  have e0 := hec 0 _ rfl
  have e3 := hec 3 _ rfl
  have e1 := hec 1 _ rfl
  have e6 := hec 6 _ rfl
  have c4 := (heap_cell hH1 5).1
  clear hH hO hH1 hO1 hb1 hA hr hec
  generalize c.stats.length = n at *
  obtain ⟨kind, port, nn, vlan, member, tagged, mac⟩ := e
  dsimp only [eCells] at *
  generalize putL ltS eqS (mac, vlan, port) c.stats = pl at *
  subst hk
  go_enter Try.func38, Try.ntmps38
  go_wp2
  generalize w.alloc (.cells #[.int .i64 9, .int .i64 port, .int .i64 nn, .int .i64 vlan, .int .u8 member, .int .u8 tagged, .int .u64 mac] 44) = w1 at *
  go_region_with (first | (go_at_call 54; refine (unhide HP w1.drew (Below.drew (Below.refl _ _))).mono ?_; rintro x w2 ⟨v', rfl, ho2, hg2⟩; obtain ⟨A', c', rfl, -⟩ := own_row ho2; have HF := hide (unhide HFIN w1.drew w2 A' _ c' (Below.drew (Below.refl _ _)) ho2 hg2); obtain ⟨x4, y4⟩ := heap_cell (unhide HF).1 5; clear ho2 hg2))
  all_goals
    go_wp2
    go_ret
    exact ⟨rfl, (unhide HF).2.1, (unhide HF).2.2⟩
end Go.Proofs.Ytbbadncdkiganaa
