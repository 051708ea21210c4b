/- The first configuration. -/
import Derived.Test.YtbbadncdkiganaaKput
namespace Go.Proofs.Ytbbadncdkiganaa
open Go.RowKit
set_option linter.unusedVariables false
set_option maxRecDepth 4000

set_option maxHeartbeats 2000000 in
theorem mul_any (n : Nat) (h1 : 1 ≤ n) (h8 : n ≤ 8) (w : World) : Calls Try.prog 41 #[.int .u64 1, .int .u64 n] w fun e w' => e = .returned (.tuple #[.int .u64 0, .int .u64 n]) ∧ w' = w := by
  have h : n = 1 ∨ n = 2 ∨ n = 3 ∨ n = 4 ∨ n = 5 ∨ n = 6 ∨ n = 7 ∨ n = 8 := by omega
  rcases h with rfl | rfl | rfl | rfl | rfl | rfl | rfl | rfl
  all_goals
    go_enter Try.func41, Try.ntmps41
    go_wp2
    go_ret2
    exact ⟨rfl, rfl⟩
theorem rep_step {cur : List Value} {p : PortC} {n kk m : Nat} (hl : cur.length = n * 3) (hk : cur.take (kk * 3) = fl encP (List.replicate kk p)) (hm : m ≤ kk) (hn : kk + m ≤ n) :
    (splice cur (kk * 3) (cur.take (m * 3))).take ((kk + m) * 3) = fl encP (List.replicate (kk + m) p) := by
  have h1 : cur.take (m * 3) = fl encP (List.replicate m p) := by
    have : cur.take (m * 3) = (cur.take (kk * 3)).take (m * 3) := by rw [List.take_take, show min (m * 3) (kk * 3) = m * 3 from by omega]
    rw [this, hk, ← fl_take encP_len, List.take_replicate, show min m kk = m from by omega]
  have h2 := fl_len encP_len (List.replicate kk p)
  have h3 := fl_len encP_len (List.replicate m p)
  rw [List.length_replicate] at h2 h3
  unfold splice
  rw [h1, hk, ← List.append_assoc, List.take_left' (by rw [List.length_append, h2, h3]; omega), ← fl_app, List.replicate_append_replicate]
theorem rep_first {cur : List Value} {p : PortC} {n : Nat} (hl : cur.length = n * 3) (hn : 1 ≤ n) : (splice cur 0 (encP p)).take (1 * 3) = fl encP (List.replicate 1 p) := by
  unfold splice
  rw [List.take_zero, List.nil_append, List.take_left' (by rfl)]
  simp [fl]
theorem slice_inj {g g' n c c' : Nat} (h : Value.slice (some ⟨g, 0, none⟩) n c = .slice (some ⟨g', 0, none⟩) n c') : g' = g ∧ c' = c := by
  cases h
  exact ⟨rfl, rfl⟩
set_option maxHeartbeats 4000000 in
theorem repeat_any (n : Nat) (h1 : 1 ≤ n) (h8 : n ≤ 8) (N : Nat) (p : PortC) (w : World) (hN : w.heap[N]? = some (.cells (encP p).toArray 50 (0, 0))) :
    Calls Try.prog 22 #[.slice (some ⟨N, 0, none⟩) 1 1, .int .i64 n] w fun e w' => ∃ c, e = .returned (.slice (some ⟨w.heap.size, 0, none⟩) n c) ∧ w'.ownsRow w.heap.size 50 3 (.slice (some ⟨w.heap.size, 0, none⟩) n c) n (fl encP (List.replicate n p)) ∧ Below w.heap.size w w' := by
  obtain ⟨i0, hi0, hz0, hz1, hz2⟩ := info_parts Try.info50
  have HM := hide (mul_any n h1 h8)
  have HN := hide hN
  have hNlt := lt_of_get hN
  clear hN
  have HZ1 := hide hz1
  have HZ2 := hide hz2
  have HZ0 := hide hz0
  clear hz0 hz1 hz2
  have hsz : (Try.prog.info? 50).map (·.size) = some 3 := by rw [hi0]; simp [unhide HZ1]
  have HSZ := hide hsz
  clear hsz
  go_enter Try.func22, Try.ntmps22
  go_wp2_with (first
    | (go_at_call 41; (with_reducible refine (unhide HM _).mono ?_); rintro e w ⟨rfl, rfl⟩)
    | ((refine wpList_make_full _ rfl _ _ 22 rfl w.heap.size 50 i0 _ 3 Try.underlying22 hi0 (unhide HZ0) (unhide HZ1) .i64 .i64 _ _ n rfl rfl ?_ ?_ ?_ ?_ (Nat.le_refl _) ?_); (focus rfl); (focus rfl); (focus (rw [unhide HZ2]; omega)); (focus (exact maxLen_ge _ (by omega))); intro w1 ho1 hg1; obtain ⟨g', cap, cur, heq, k1, k2, k3, k4, k5⟩ := own_open ho1 (by omega); obtain ⟨hgg, hcc⟩ := slice_inj heq; subst hgg; subst hcc; have HC1 := hide k4; have HG1 := hide hg1; have HN1 := hide (((unhide HG1).block N hNlt (by simp)).trans (unhide HN)); clear heq k1 k2 k3 k4 k5 ho1 hg1)
    | ((refine wpList_copy3 rfl _ _ 22 22 rfl 50 Try.underlying22 (unhide HSZ) w.heap.size 0 cap cap N 0 1 1 cap _ (encP p) 1 (by simp [Act.eval]) (by simp [Act.eval]) ?_ (unhide HC1) rfl ?_ ?_ (encP_one p) ?_; (focus (simp only [Nat.min_def]; split <;> omega)); (focus (intro j v hj; rw [Nat.zero_add, (heap_cell (unhide HN1) j).1]; simpa using hj)); (focus (rw [(unhide HC1).len, encP_len]; omega)); intro w3 HC3 HG3)))
  have hK3 := unhide HC3
  have HT := hide (rep_first (p := p) (unhide HC1).len h1)
  have HGG := hide (grown_new (r := none) (unhide HG1) (unhide HG3) (Nat.le_refl _))
  clear hK3
  go_loopg [8] cap (fun gg s8 wr => ∃ (kk : Nat) (ck : List Value), 1 ≤ kk ∧ kk ≤ cap ∧ cap - kk ≤ gg ∧ s8 = .int .i64 kk ∧ Aside (Cur wr 50 w.heap.size cap ck) ∧ Aside (ck.take (kk * 3) = fl encP (List.replicate kk p)) ∧ Aside (w.grownBy wr none))
  case atStart => exact ⟨1, _, by omega, by omega, by omega, rfl, unhide HC3, unhide HT, unhide HGG⟩
  case round =>
    obtain ⟨kk, ck, hk1, hk2, hg, rfl, CK, TK, GK⟩ := hrel
    by_cases hlt : kk < cap
    · have hltz : (kk : Int) < (cap : Int) := by omega
      have hne : ¬ cap = kk := by omega
      have hle : kk ≤ cap := by omega
      obtain ⟨m, hm⟩ : ∃ m, Nat.min kk (cap - kk) = m := ⟨_, rfl⟩
      have HM2 := hide hm
      have hmb : m ≤ kk ∧ kk + m ≤ cap ∧ 1 ≤ m := by rw [← hm]; simp only [Nat.min_def]; split <;> omega
      obtain ⟨hm1, hm2, hm3⟩ := hmb
      have HCD := hide CK.out.drew
      have hwr : IntKind.i64.wrap ((kk : Int) + (m : Int)) = (kk : Int) + (m : Int) := by rw [IntKind.wrap_i64]; omega
      clear hm
      go_wp2
      go_region_law ((refine step_copy3 rfl _ _ 22 22 rfl 50 Try.underlying22 (unhide HSZ) w.heap.size (kk * 3) (cap - kk) (cap - kk) w.heap.size 0 kk cap cap ck (ck.take (m * 3)) m (by simp [Act.eval, Act.put]) (by simp [Act.eval, Act.put]) (unhide HM2) (unhide HCD) ?_ ?_ ?_ ?_ ?_); (focus (rw [List.length_take, (unhide HCD).len]; omega)); (focus (intro j v hj; rw [Nat.zero_add, (unhide HCD).cell]; rw [List.getElem?_take] at hj; split at hj; exact hj; cases hj)); (focus (rw [List.length_take, (unhide HCD).len]; omega)); (focus (intro v hv; refine fl_one encP_one (List.replicate kk p) v ?_; rw [← TK.out]; rw [show ck.take (m * 3) = (ck.take (kk * 3)).take (m * 3) by rw [List.take_take, show min (m * 3) (kk * 3) = m * 3 from by omega]] at hv; exact List.mem_of_mem_take hv)); intro w5 HC5 HG5)
      all_goals
        go_wp2
        go_roundg (cap - (kk + m))
        case measure => omega
        case rel => exact ⟨kk + m, _, by omega, by omega, by omega, by go_num, unhide HC5, rep_step CK.out.len TK.out hm1 hm2, grown_new (grown_trans GK.out grown_drew) (unhide HG5) (Nat.le_refl _)⟩
    · obtain rfl : kk = cap := by omega
      have hltz : ¬ (kk : Int) < (kk : Int) := by omega
      go_wp2
      go_ret
      exact ⟨_, rfl, own_shut CK.out (Nat.le_refl _) (Nat.le_refl _) (maxLen_ge _ (by omega)) TK.out, below_of_grown GK.out⟩
end Go.Proofs.Ytbbadncdkiganaa
