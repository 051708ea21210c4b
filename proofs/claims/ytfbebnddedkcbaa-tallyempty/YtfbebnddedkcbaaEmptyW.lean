/- The walk of TallyEmpty. -/
import Derived.Test.YtfbebnddedkcbaaSumsW
namespace Go.Proofs.Ytfbebnddedkcbaa
open Go.RowKit
set_option linter.unusedVariables false
attribute [local go_sem ↓] Go.wp_at_zero Go.wp_at_succ

/-- Each part between two without bytes. -/
def padded : List (List Int) → List (List Int)
  | [] => []
  | p :: r => [] :: p :: [] :: padded r

theorem padded_app (xs ys : List (List Int)) : padded (xs ++ ys) = padded xs ++ padded ys := by
  induction xs with
  | nil => rfl
  | cons x r ih => simp [padded, ih]
theorem padded_flat (xs : List (List Int)) : (padded xs).flatten = xs.flatten := by
  induction xs with
  | nil => rfl
  | cons x r ih => simp [padded, ih]
theorem padded_len (xs : List (List Int)) : (padded xs).length = 3 * xs.length := by
  induction xs with
  | nil => rfl
  | cons x r ih => simp [padded, ih]; omega

def lens : List (List Int) → Int
  | [] => 0
  | p :: r => p.length + lens r
theorem lens_app (xs ys : List (List Int)) : lens (xs ++ ys) = lens xs + lens ys := by
  induction xs with
  | nil => simp [lens]
  | cons x r ih => simp [lens, ih]; omega
theorem lens_nonneg (xs : List (List Int)) : 0 ≤ lens xs := by
  induction xs with
  | nil => simp [lens]
  | cons x r ih => simp [lens]; omega
theorem lens_flat (xs : List (List Int)) : (xs.flatten.length : Int) = lens xs := by
  induction xs with
  | nil => simp [lens]
  | cons x r ih => simp [lens] at ih ⊢; omega
theorem fair_lens (n : Int) (hn : 0 ≤ n) (pss : List (List Int)) (hn2 : n ≤ 20000) (h : fairFrom n pss = true) : n + lens pss ≤ 20000 := by
  induction pss generalizing n with
  | nil => simp [lens]; exact hn2
  | cons q r ih =>
    simp only [fairFrom] at h
    split at h
    · cases h
    · rename_i hc
      have := ih _ (by omega) (by omega) h
      simp only [lens]
      omega
theorem lens_take (pss : List (List Int)) (k : Nat) : lens (pss.take k) ≤ lens pss := by
  have h := lens_app (pss.take k) (pss.drop k)
  rw [List.take_append_drop] at h
  have := lens_nonneg (pss.drop k)
  omega

theorem tot_app (xs ys : List Int) : tot (xs ++ ys) = tot xs + tot ys := by
  induction xs with
  | nil => simp [tot]
  | cons x r ih => simp [tot, ih]; omega
theorem tot_lim (xs : List Int) (h : ∀ x ∈ xs, 0 ≤ x ∧ x ≤ 255) : 0 ≤ tot xs ∧ tot xs ≤ 255 * (xs.length : Int) := by
  induction xs with
  | nil => simp [tot]
  | cons x r ih =>
    have h1 := h x (by simp)
    have h2 := ih (fun y hy => h y (by simp [hy]))
    simp [tot]; omega

/-- One byte more makes another sum, while the lower half has not gone round. -/
theorem more_other (bs : List Int) (v : Int) (h : ∀ x ∈ bs, 0 ≤ x ∧ x ≤ 255) (hv : 0 ≤ v ∧ v ≤ 255) (hl : bs.length ≤ 200) : more 1 (bs ++ [v]) ≠ more 1 bs := by
  have e : halves 1 = (1, 0) := by decide
  unfold more
  rw [e, adl_snoc]
  intro hj
  have hlim := adl_lim bs (1, 0) one_lim
  have hp := join_inj (by
    obtain ⟨l1, l2, l3, l4⟩ := hlim
    refine ⟨?_, ?_, ?_, ?_⟩ <;> simp only <;> omega) hlim hj
  have hlow := adl_low bs (1, 0)
  have ht := tot_lim bs h
  have h2 := congrArg Prod.snd hp
  obtain ⟨l1, l2, l3, l4⟩ := hlim
  simp only at hlow h2
  omega

theorem sums_other (pss : List (List Int)) (v : Int) (hB : ∀ p ∈ pss, ∀ x ∈ p, 0 ≤ x ∧ x ≤ 255) (hv : 0 ≤ v ∧ v ≤ 255) (hl : lens pss ≤ 200) : (sums 1 (pss ++ [[v]]) == sums 1 pss) = false := by
  rw [sums_flat _ _ fine_one, sums_flat _ _ fine_one, List.flatten_append]
  rw [beq_eq_false_iff_ne]
  have := more_other pss.flatten v (fun x hx => by
    obtain ⟨p, hp, hx⟩ := List.mem_flatten.1 hx
    exact hB p hp x hx) hv (by have := lens_flat pss; omega)
  simpa using this

theorem sums_padded (pss : List (List Int)) : sums 1 (padded pss) = sums 1 pss := by
  rw [sums_flat _ _ fine_one, sums_flat _ _ fine_one, padded_flat]

theorem headsA_mk {w : World} : ∀ {pss : List (List Int)} (f : Nat → Value), (∀ i, i < pss.length → ∃ a cap, f i = .slice a (pss.getD i []).length cap ∧ BysA w a (pss.getD i [])) → HeadsA w ((List.range pss.length).map f) pss
  | [], _, _ => trivial
  | p :: r, f, h => by
    rw [List.length_cons, List.range_succ_eq_map, List.map_cons, List.map_map]
    refine ⟨?_, headsA_mk (f ∘ Nat.succ) (fun i hi => ?_)⟩
    · simpa using h 0 (by simp)
    · simpa using h (i + 1) (by simpa using hi)

theorem headsA_one {w : World} : ∀ {hs : List Value} {ps : List (List Int)}, HeadsA w hs ps → ∀ u ∈ hs, u.oneCell' = true
  | [], [], _, u, hu => by simp at hu
  | h :: hs, p :: ps, ⟨⟨a, cap, h1, h2⟩, r⟩, u, hu => by
    rcases List.mem_cons.1 hu with rfl | hu
    · rw [h1]; rfl
    · exact headsA_one r u hu

/-- The headers of parts. -/
theorem heads_parts {w : World} {a : Option Addr} {pss : List (List Int)} (h : PartsA w a pss) : ∃ hs, RowA w a hs ∧ HeadsA w hs pss := by
  by_cases hne : pss = []
  · subst hne; exact ⟨[], rowA_nil _ _, trivial⟩
  · obtain ⟨b, off, rfl, hc⟩ := h hne
    have hex : ∀ i, ∃ v : Value, i < pss.length → w.cell? ⟨b, off + i, none⟩ = some v ∧ ∃ a cap, v = .slice a (pss.getD i []).length cap ∧ BysA w a (pss.getD i []) := fun i => by
      by_cases hi : i < pss.length
      · obtain ⟨a', cap', h1, h2⟩ := hc i hi
        exact ⟨_, fun _ => ⟨h1, a', cap', rfl, h2⟩⟩
      · exact ⟨.bool true, fun hh => absurd hh hi⟩
    refine ⟨(List.range pss.length).map (fun i => Classical.choose (hex i)), fun _ => ⟨b, off, rfl, fun j u hj => ?_⟩, headsA_mk _ (fun i hi => (Classical.choose_spec (hex i) hi).2)⟩
    rw [List.getElem?_map] at hj
    have hjl : j < pss.length := by
      rcases Nat.lt_or_ge j pss.length with h | h
      · exact h
      · rw [List.getElem?_eq_none (by simpa using h)] at hj; cases hj
    rw [List.getElem?_range hjl] at hj
    cases hj
    exact (Classical.choose_spec (hex j) hjl).1

/-- 'append([][]byte{}, parts...)': a row of the call's own with the parts' headers. -/
theorem wpList_copyH {w0 W : World} {ops : Array Oper} {rest : List Oper} {o : Oper} {a : Act} {Q : Exit → Act → World → Prop} (hgd : o.guard = none) (s x : Operand)
    (ho : o.op = .call { callee := .builtin .append, args := #[s, x], argTypes := #[22, 22] }) (N : Nat) (hN : N = W.heap.size)
    (hs : a.eval s = .slice (some ⟨N, 0, none⟩) 0 0) (A : Option Addr) (m c : Nat) (hds : List Value) (hx : a.eval x = .slice A m c) (hl : hds.length = m) (hR : RowA w0 A hds) (hone : ∀ u ∈ hds, u.oneCell' = true) (hw : Below w0.heap.size w0 W)
    (hlen : m ≤ 1000)
    (h : ∀ v' W', W'.ownsRow w0.heap.size 26 1 v' m hds → Below w0.heap.size w0 W' → wpList Try.prog ops Q rest (a.put o.dst v') W') :
    wpList Try.prog ops Q (o :: rest) a (W.alloc (.cells #[] 26)) := by
  subst hN
  obtain ⟨i0, hi, hz0, hz1, hz2⟩ := info_parts Try.info26
  have hown : (W.alloc (.cells #[] 26)).ownsRow w0.heap.size 26 1 (.slice (some ⟨W.heap.size, 0, none⟩) 0 0) 0 [] :=
    World.ownsRow_lit W #[] 0 hw.size (by simp) (by simp)
  refine wpList_append_row hgd s x 22 ho w0.heap.size 26 i0 (.slice none 0 0) 1 24 Try.underlying22 hi hz0 hz1 hz2 rfl (by decide) (by decide) _ 0 [] hs hown A m c hds hx (by omega)
    (rowA_below hR (below_alloc hw _)) hone (by omega) (by have := hw.size; simp; omega) ?_
  intro v' W' hown' hgrow hat
  rw [Nat.zero_add, List.nil_append] at hown'
  exact h v' W' hown' ((below_alloc hw _).grown hgrow (by have := hw.size; simp; omega) (fun k hk => (hown.lt k hk).1))

theorem byts_get {pss : List (List Int)} (h : Byts pss) : ∀ p ∈ pss, Byt p ∧ p.length ≤ maxLen := by
  intro p hp
  obtain ⟨i, hi, rfl⟩ := List.getElem_of_mem hp
  have := h i
  rw [List.getD_eq_getElem?_getD, List.getElem?_eq_getElem hi] at this
  exact this
theorem byts_mem {pss : List (List Int)} (h : Byts pss) : ∀ p ∈ pss, ∀ x ∈ p, 0 ≤ x ∧ x ≤ 255 := by
  intro p hp x hx
  obtain ⟨i, hi, rfl⟩ := List.getElem_of_mem hx
  have := (byts_get h p hp).1 i
  rw [List.getD_eq_getElem?_getD, List.getElem?_eq_getElem hi] at this
  exact this
theorem padded_mem {q : List Int} : ∀ {pss : List (List Int)}, q ∈ padded pss → q = [] ∨ q ∈ pss
  | [], h => by simp [padded] at h
  | p :: r, h => by
    simp only [padded, List.mem_cons] at h
    rcases h with h | h | h | h
    · exact .inl h
    · exact .inr (by simp [h])
    · exact .inl h
    · rcases padded_mem h with h | h
      · exact .inl h
      · exact .inr (by simp [h])
theorem byts_padded {pss : List (List Int)} (h : Byts pss) : Byts (padded pss) := byts_of (fun p hp => by
  rcases padded_mem hp with rfl | hp
  · exact ⟨byt_nil, maxLen_ge _ (by simp)⟩
  · exact byts_get h p hp)

set_option maxHeartbeats 400000 in
theorem empty_no (a : Option Addr) (pss : List (List Int)) (cap : Nat) (v : Int) (w : World) (hp : PartsA w a pss) (hB : Byts pss) (hl : pss.length ≤ maxLen) (hf : fairB pss = false) :
    Calls Try.prog 6 #[.slice a pss.length cap, .int .u8 v] w fun e w' => e = .returned (.bool true) ∧ Below w.heap.size w w' := by
  have F := hide (fair_any a pss cap w hp hB hl)
  rw [hf] at F
  clear hf
  go_enter Try.func6, Try.ntmps6
  go_wp2_with fail
  refine (unhide F).mono ?_
  rintro e w' ⟨rfl, rfl⟩
  go_wp2_with fail
  refine (wakes_any _).mono ?_
  rintro e w' ⟨rfl, hb⟩
  go_wp2
  go_ret
  exact ⟨rfl, hb⟩

set_option maxHeartbeats 1000000 in
theorem empty_walk (a : Option Addr) (pss : List (List Int)) (cap : Nat) (v : Int) (hv : 0 ≤ v ∧ v ≤ 255) (w : World) (hp : PartsA w a pss) (hB : Byts pss) (hl : pss.length ≤ maxLen) (hf : fairB pss = true) :
    Calls Try.prog 6 #[.slice a pss.length cap, .int .u8 v] w fun e w' => e = .returned (.bool true) ∧ Below w.heap.size w w' := by
  have F := hide (fair_any a pss cap w hp hB hl)
  have hfl : lens pss ≤ 20000 := by
    have h2 := hf
    unfold fairB at h2
    rw [Bool.and_eq_true] at h2
    have := fair_lens 0 (by omega) pss (by omega) h2.1
    omega
  rw [hf] at F
  have hfg := fair_get hf
  clear hf
  have h100 := (hfg 0).2
  have HP := hide hp
  have HB := hide hB
  clear hp hB
  go_enter Try.func6, Try.ntmps6
  go_wp2_with fail
  refine (unhide F).mono ?_
  rintro e w' ⟨rfl, rfl⟩
  clear F
  go_wp2_with fail
  go_loopw [5, 6, 7] (fun v n i wr => ∃ (k : Nat) (hs : List Value), k ≤ pss.length ∧ i = .int .i64 k ∧ n = .int .i64 (lens (pss.take k)) ∧ Below w'.heap.size w' wr ∧ wr.ownsRow w'.heap.size 26 1 v (3 * k) hs ∧ HeadsA w' hs (padded (pss.take k))) (fun _ _ i _ => pss.length - (intOf i).toNat)
  case atStart => exact ⟨0, [], Nat.zero_le _, rfl, rfl, Below.refl _ _, World.ownsRow_nil _ _ _ _, trivial⟩
  case round =>
    obtain ⟨k, hds, hk, rfl, rfl, hbel, hown, hheads⟩ := hrel
    by_cases hlt : k < pss.length
    · obtain ⟨b, off, rfl, hc⟩ := (unhide HP) (by rintro rfl; simp at hlt)
      obtain ⟨a', cap', hck0, hby⟩ := hc k hlt
      have hck : wr.cell? ⟨b, off + k, none⟩ = some (.slice a' (pss.getD k []).length cap') := by rw [hbel.cell (World.block_lt_of_cell? _ _ hck0)]; exact hck0
      have hbl0 := World.block_lt_of_cell? _ _ hck0
      have h20 := (hfg k).1
      have HS := hide (takes_snoc pss k hlt)
      have hki : (k : Int) < (pss.length : Int) := by omega
      have HL := hide (show lens (pss.take (k + 1)) = lens (pss.take k) + ((pss.getD k []).length : Int) by rw [takes_snoc pss k hlt, lens_app]; simp [lens])
      have hln := lens_nonneg (pss.take k)
      have hln2 := lens_take pss (k + 1)
      rw [unhide HL] at hln2
      generalize pss.getD k [] = ps at *
      obtain ⟨A, capA, rfl, hrow, hlen⟩ := own_form hown
      have HO := hide hown
      have HH := hide hheads
      have HY := hide hby
      have HC := hide hck0
      have hblt : b < wr.heap.size := World.block_lt_of_cell? _ _ hck
      clear hown hheads hby hc hck0
      go_wp2_with (at_builtin; refine wpList_push (w0 := w') (W1 := wr.alloc (.cells #[] 5)) rfl _ _ rfl _ (by simp) _ (3 * k) hds rfl (own_below (unhide HO) (below_alloc (Below.refl _ _) _)) 3 [.slice none 0 0, .slice a' ps.length cap', .slice (some ⟨wr.heap.size, 0, none⟩) 0 0] rfl rfl (by simp [Value.oneCell']) (by omega) (below_alloc hbel _) ?_; intro v2 w2 hown2 hb2 hbl2; have hck2 : w2.cell? ⟨b, off + k, none⟩ = some (.slice a' ps.length cap') := (by rw [hb2.cell hbl0]; exact unhide HC))
      go_roundw
      case rel =>
        refine ⟨k + 1, hds ++ [.slice none 0 0, .slice a' ps.length cap', .slice (some ⟨wr.heap.size, 0, none⟩) 0 0], by omega, by go_num, by rw [unhide HL], hb2, hown2, ?_⟩
        rw [unhide HS, padded_app]
        exact headsA_app (unhide HH) ⟨⟨_, _, rfl, bysA_nil _ _⟩, ⟨_, _, rfl, unhide HY⟩, ⟨_, _, rfl, bysA_nil _ _⟩, trivial⟩
      case measure => simp [intOf]; omega
    · obtain rfl : k = pss.length := by omega
      rw [List.take_length] at hheads ⊢
      obtain ⟨A, capA, rfl, hrow, hlen⟩ := own_form hown
      have hpi := parts_heads hrow (headsA_below hbel hheads)
      have hpp := partsA_below (unhide HP) hbel
      obtain ⟨hds0, hrow0, hheads0⟩ := heads_parts hpp
      have hl0 := headsA_len hheads0
      have hone0 := headsA_one hheads0
      have hml : maxLen = 9223372036854775807 := rfl
      have hl2 := hl
      rw [hml] at hl
      have hln := lens_nonneg pss
      have HI := hide hpi
      have HQ := hide hpp
      have HR := hide hrow0
      have HH := hide hheads0
      have HN := hide hone0
      clear hml hown hheads hrow hpi hpp hheads0 hrow0 hone0
      go_wp2_with fail
      refine (sum_any a pss cap _ (unhide HQ) (unhide HB) hl2).mono ?_
      rintro e W1 ⟨rfl, rfl⟩
      go_wp2_with (first
        | (at_builtin; refine wpList_copyH (w0 := W1) (W := W1) rfl _ _ rfl _ rfl rfl a pss.length cap hds0 rfl hl0 (unhide HR) (unhide HN) (Below.refl _ _) (by omega) ?_; intro v1 w1 hown1 hb1)
        | (at_builtin; refine wpList_push (w0 := W1) (W1 := w1.alloc (.cells #[.int .u8 v] 5)) rfl _ _ rfl _ (by simp) _ pss.length hds0 rfl (own_below hown1 (below_alloc (Below.refl _ _) _)) 1 [.slice (some ⟨w1.heap.size, 0, none⟩) 1 1] rfl rfl (by simp [Value.oneCell']) (by omega) (below_alloc hb1 _) ?_; intro v2 w2 hown2 hb2 hbl2))
      have hbv : BysA w2 (some ⟨w1.heap.size, 0, none⟩) [v] := bys_rowA (Blk.row (hbl2 w1.heap.size 1 [.int .u8 v] ⟨#[.int .u8 v], heap_alloc_new w1 _, rfl, rfl⟩))
      obtain ⟨A2, cap2, rfl, hrow2, hlen2⟩ := own_form hown2
      have hp2 : PartsA w2 A2 (pss ++ [[v]]) := parts_heads hrow2 (headsA_app (headsA_below hb2 (unhide HH)) ⟨⟨_, 1, rfl, hbv⟩, trivial⟩)
      have hB2 : Byts (pss ++ [[v]]) := byts_of (fun p hp => by
        rcases List.mem_append.1 hp with h | h
        · obtain ⟨i, hi, rfl⟩ := List.getElem_of_mem h
          have := (unhide HB) i
          rw [List.getD_eq_getElem?_getD, List.getElem?_eq_getElem hi] at this
          exact this
        · rw [List.mem_singleton] at h; subst h; exact ⟨byt_of (by simpa using hv), maxLen_ge _ (by simp)⟩)
      have hln3 : (pss ++ [[v]]).length = pss.length + 1 := by simp
      have S2 := hide (sum_any A2 (pss ++ [[v]]) cap2 w2 hp2 hB2 (maxLen_ge _ (by omega)))
      rw [hln3] at S2
      refine (unhide S2).mono ?_
      rintro e W2 ⟨rfl, rfl⟩
      have hB3 : Byts (padded pss) := byts_padded (unhide HB)
      have S3 := hide (sum_any A (padded pss) capA W2 (partsA_below (unhide HI) hb2) hB3 (maxLen_ge _ (by rw [padded_len]; omega)))
      rw [padded_len, sums_padded] at S3
      obtain ⟨t2, ht2⟩ : ∃ t, t = sums 1 (pss ++ [[v]]) := ⟨_, rfl⟩
      rw [← ht2]
      have HT2 := hide ht2
      clear ht2
      go_wp2_with fail
      refine (unhide S3).mono ?_
      rintro e W3 ⟨rfl, rfl⟩
      have hsl := sums_lim 1 pss (by omega)
      have M := hide (more_any (sums 1 pss) hsl none [] 0 W3 (bysA_nil _ _) byt_nil (maxLen_ge _ (by simp)))
      rw [more_nil _ (fine_sums _ _ fine_one)] at M
      have hW3 := below_then hbel hb2
      generalize hsum : sums 1 pss = s at *
      have HE := hide hsum
      clear hsum
      by_cases h200 : (200 : Int) < lens pss
      · go_wp2_with fail
        refine (unhide M).mono ?_
        rintro e W4 ⟨rfl, rfl⟩
        go_wp2_with fail
        refine (wakes_any _).mono ?_
        rintro e W5 ⟨rfl, hb5⟩
        go_wp2_with fail
        go_ret
        exact ⟨rfl, below_then hW3 hb5⟩
      · have hne : (t2 == s) = false := by
          rw [unhide HT2, ← unhide HE]
          exact sums_other pss v (byts_mem (unhide HB)) hv (by omega)
        have hne2 : (t2 != s) = true := by simp [bne, hne]
        go_wp2_with fail
        refine (unhide M).mono ?_
        rintro e W4 ⟨rfl, rfl⟩
        go_wp2_with fail
        refine (wakes_any _).mono ?_
        rintro e W5 ⟨rfl, hb5⟩
        go_wp2_with fail
        go_ret
        exact ⟨rfl, below_then hW3 hb5⟩
end Go.Proofs.Ytfbebnddedkcbaa
