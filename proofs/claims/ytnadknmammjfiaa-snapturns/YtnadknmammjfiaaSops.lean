/- snap: Load, spare, save, Save. -/
import Derived.Test.YtnadknmammjfiaaSnw2
import Derived.Test.YtnadknmammjfiaaSover
namespace Go.Proofs.Ytnadknmammjfiaa
open Go.RowKit
set_option linter.unusedVariables false
set_option maxRecDepth 4000

theorem newest_none {base g gs : Nat} {S : List Sct} (w : World) (h : Dsk 71 82 w base g gs S []) (hp : 32 ≤ S.length) (hn : newK S 2 = none) :
    Calls Try.prog 27 #[.iface 25 (.pointer (some ⟨g, 0, none⟩)), .slice (some ⟨w.heap.size, 0, none⟩) 2 2] (w.alloc (.cells #[.int .i64 0, .int .i64 16] 3)) fun e w' => e = .returned (.tuple #[.agg #[.int .i64 0, .int .u32 0, .slice none 0 0], .bool false]) ∧ Below w.heap.size w w' := by
  have hb0 : Below w.heap.size w (w.alloc (.cells #[.int .i64 0, .int .i64 16] 3)) := below_alloc (Below.refl _ _) _
  refine (newest_any _ (h.below hb0) hp w.heap.size (cell_at _ _ _ _ _ 0 rfl) (cell_at _ _ _ _ _ 1 rfl)).mono ?_
  rintro e w' ⟨v1, v2, v3, f, rfl, hr, hb⟩
  rw [hn] at hr
  obtain ⟨rfl, rfl, rfl, rfl⟩ := hr
  exact ⟨rfl, below_then hb0 hb⟩
theorem newest_some {base g gs : Nat} {S : List Sct} (w : World) (h : Dsk 71 82 w base g gs S []) (hp : 32 ≤ S.length) {p : Nat} {ep : Int} {b : List Int} (hn : newK S 2 = some (p, ep, b)) :
    Calls Try.prog 27 #[.iface 25 (.pointer (some ⟨g, 0, none⟩)), .slice (some ⟨w.heap.size, 0, none⟩) 2 2] (w.alloc (.cells #[.int .i64 0, .int .i64 16] 3)) fun e w' => ∃ A c, e = .returned (.tuple #[.agg #[.int .i64 p, .int .u32 ep, .slice A b.length c], .bool true]) ∧ w'.ownsRow w.heap.size 5 1 (.slice A b.length c) b.length (b.map (Value.int .u8)) ∧ Below w.heap.size w w' := by
  have hb0 : Below w.heap.size w (w.alloc (.cells #[.int .i64 0, .int .i64 16] 3)) := below_alloc (Below.refl _ _) _
  refine (newest_any _ (h.below hb0) hp w.heap.size (cell_at _ _ _ _ _ 0 rfl) (cell_at _ _ _ _ _ 1 rfl)).mono ?_
  rintro e w' ⟨v1, v2, v3, f, rfl, hr, hb⟩
  rw [hn] at hr
  obtain ⟨rfl, rfl, ⟨A, c, e3, ho⟩, rfl⟩ := hr
  simp only at e3 ho
  subst e3
  exact ⟨A, c, rfl, own_mono ho hb0.size, below_then hb0 hb⟩

theorem load_no {base g gs : Nat} {S : List Sct} {P : List (Nat × Sct)} (w : World) (h : Dsk 71 82 w base g gs S P) (hS : S.length < 32) :
    Calls Try.prog 14 #[.pointer (some ⟨g, 0, none⟩)] w fun e w' => e = .returned (.tuple #[.int .u32 0, .slice none 0 0, .int .i64 1]) ∧ w' = w := by
  have HH := hide (hp_no w h hS)
  clear h
  go_enter Try.func14, Try.ntmps14
  go_wp2_with (go_at_call 26; (with_reducible refine (unhide HH).mono ?_); rintro e w2 ⟨rfl, rfl⟩)
  go_ret3
  exact ⟨rfl, rfl⟩
theorem load_nil (w : World) : Calls Try.prog 14 #[.pointer none] w fun e w' => e = .returned (.tuple #[.int .u32 0, .slice none 0 0, .int .i64 1]) ∧ w' = w := by
  have HH := hide (hp_nil w)
  go_enter Try.func14, Try.ntmps14
  go_wp2_with (go_at_call 26; (with_reducible refine (unhide HH).mono ?_); rintro e w2 ⟨rfl, rfl⟩)
  go_ret3
  exact ⟨rfl, rfl⟩
theorem load_none {base g gs : Nat} {S : List Sct} (w : World) (h : Dsk 71 82 w base g gs S []) (hp : 32 ≤ S.length) (hn : newK S 2 = none) :
    Calls Try.prog 14 #[.pointer (some ⟨g, 0, none⟩)] w fun e w' => e = .returned (.tuple #[.int .u32 0, .slice none 0 0, .int .i64 13]) ∧ Below w.heap.size w w' := by
  have HH := hide (hp_yes w h hp)
  have HN := hide (newest_none w h hp hn)
  clear h hn
  go_enter Try.func14, Try.ntmps14
  go_wp2_with (first
    | (go_at_call 26; (with_reducible refine (unhide HH).mono ?_); rintro e w2 ⟨rfl, rfl⟩)
    | (go_at_call 27; (with_reducible refine (unhide HN).mono ?_); rintro e w3 ⟨rfl, hb3⟩; have HB3 := hide hb3; clear hb3))
  go_ret3
  exact ⟨rfl, below_alloc (unhide HB3) _⟩
theorem load_some {base g gs : Nat} {S : List Sct} (w : World) (h : Dsk 71 82 w base g gs S []) (hp : 32 ≤ S.length) {p : Nat} {ep : Int} {b : List Int} (hn : newK S 2 = some (p, ep, b)) :
    Calls Try.prog 14 #[.pointer (some ⟨g, 0, none⟩)] w fun e w' => ∃ A c, e = .returned (.tuple #[.int .u32 ep, .slice A b.length c, .int .i64 0]) ∧ w'.ownsRow w.heap.size 5 1 (.slice A b.length c) b.length (b.map (Value.int .u8)) ∧ Below w.heap.size w w' := by
  have HH := hide (hp_yes w h hp)
  have HN := hide (newest_some w h hp hn)
  clear h hn
  go_enter Try.func14, Try.ntmps14
  go_wp2_with (first
    | (go_at_call 26; (with_reducible refine (unhide HH).mono ?_); rintro e w2 ⟨rfl, rfl⟩)
    | (go_at_call 27; (with_reducible refine (unhide HN).mono ?_); rintro e w3 ⟨A, c, rfl, ho3, hb3⟩; have HB3 := hide hb3; have HO3 := hide ho3; clear hb3 ho3))
  go_quiet (fail)
  go_wp2
  go_ret3
  exact ⟨_, _, rfl, own_below (unhide HO3) (below_drewN (below_alloc (Below.refl _ _) _) _), below_drewN (below_alloc (unhide HB3) _) _⟩

/-- The place to write at. -/
def spareS (S : List Sct) : Nat := match newK S 2 with
  | some r => if r.1 = 0 then 16 else 0
  | none => 0
theorem spare_le (S : List Sct) : spareS S + 16 ≤ 32 := by
  unfold spareS
  split
  · split <;> omega
  · omega
theorem spare_any {base g gs : Nat} {S : List Sct} (w : World) (h : Dsk 71 82 w base g gs S []) (hp : 32 ≤ S.length) :
    Calls Try.prog 36 #[.iface 25 (.pointer (some ⟨g, 0, none⟩))] w fun e w' => e = .returned (.int .i64 (spareS S : Int)) ∧ Below w.heap.size w w' := by
  unfold spareS
  cases hn : newK S 2 with
  | none =>
    have HN := hide (newest_none w h hp hn)
    clear h hn
    go_enter Try.func36, Try.ntmps36
    go_wp2_with (go_at_call 27; (with_reducible refine (unhide HN).mono ?_); rintro e w3 ⟨rfl, hb3⟩; have HB3 := hide hb3; clear hb3)
    go_ret
    exact ⟨rfl, below_alloc (unhide HB3) _⟩
  | some r =>
    obtain ⟨p, ep, b⟩ := r
    have HN := hide (newest_some w h hp hn)
    clear h hn
    simp only
    by_cases h0 : p = 0
    · subst h0
      rw [if_pos rfl]
      go_enter Try.func36, Try.ntmps36
      go_wp2_with (go_at_call 27; (with_reducible refine (unhide HN).mono ?_); rintro e w3 ⟨A, c, rfl, ho3, hb3⟩; have HB3 := hide hb3; clear hb3 ho3)
      go_ret
      exact ⟨rfl, below_alloc (unhide HB3) _⟩
    · rw [if_neg h0]
      have h0' : ¬ (p : Int) = 0 := by omega
      go_enter Try.func36, Try.ntmps36
      go_wp2_with (go_at_call 27; (with_reducible refine (unhide HN).mono ?_); rintro e w3 ⟨A, c, rfl, ho3, hb3⟩; have HB3 := hide hb3; clear hb3 ho3)
      go_ret
      exact ⟨rfl, below_alloc (unhide HB3) _⟩

theorem save_no {base g gs : Nat} {S : List Sct} {P : List (Nat × Sct)} (w : World) (h : Dsk 71 82 w base g gs S P) (hS : S.length < 32) (ep : Int) (A : Option Addr) (n c : Nat) :
    Calls Try.prog 25 #[.iface 25 (.pointer (some ⟨g, 0, none⟩)), .int .u32 ep, .slice A n c] w fun e w' => e = .returned (.int .i64 1) ∧ w' = w := by
  have HH := hide (hp_no w h hS)
  clear h
  go_enter Try.func25, Try.ntmps25
  go_wp2_with (go_at_call 26; (with_reducible refine (unhide HH).mono ?_); rintro e w2 ⟨rfl, rfl⟩)
  go_ret
  exact ⟨rfl, rfl⟩
theorem save_nil (w : World) (ep : Int) (A : Option Addr) (n c : Nat) :
    Calls Try.prog 25 #[.iface 25 (.pointer none), .int .u32 ep, .slice A n c] w fun e w' => e = .returned (.int .i64 1) ∧ w' = w := by
  have HH := hide (hp_nil w)
  go_enter Try.func25, Try.ntmps25
  go_wp2_with (go_at_call 26; (with_reducible refine (unhide HH).mono ?_); rintro e w2 ⟨rfl, rfl⟩)
  go_ret
  exact ⟨rfl, rfl⟩
/-- A snapshot's sectors. -/
def snS (ep : Int) (b : List Int) : List Sct := cutS (entL 2 ep 0 b)
theorem snS_len (ep : Int) (b : List Int) : (snS ep b).length = (b.length + 77) / 63 := by
  unfold snS
  rw [cutS_len, pieces_ent]
set_option maxHeartbeats 1000000 in
theorem save_yes {base g gs : Nat} {S : List Sct} (w : World) (h : Dsk 71 82 w base g gs S []) (hp : 32 ≤ S.length) (ep : Int) (hep : 0 ≤ ep ∧ ep ≤ 4294967295) (A : Option Addr) (b : List Int) (c : Nat) (hA : BysA w A b) (hB : Byt b) (hl : b.length ≤ 930) :
    Calls Try.prog 25 #[.iface 25 (.pointer (some ⟨g, 0, none⟩)), .int .u32 ep, .slice A b.length c] w fun e w' => e = .returned (.int .i64 0) ∧ Dsk 71 82 w' base g gs (layS S (spareS S) (snS ep b)) [] ∧ Turned 82 base g gs w w' := by
  have HH := hide (hp_yes w h hp)
  have hsl := snS_len ep b
  have HEN : Hid (Calls Try.prog 34 #[.agg #[.int .i64 2, .int .u32 ep, .int .u32 0, .slice A b.length c]] w fun x w' => ∃ g c, x = .returned (.tuple #[.slice (some ⟨g, 0, none⟩) (snS ep b).length c, .int .i64 0]) ∧ w'.ownsRow w.heap.size 44 64 (.slice (some ⟨g, 0, none⟩) (snS ep b).length c) (snS ep b).length (flatS (snS ep b)) ∧ Below w.heap.size w w') := encode_ok 2 ep 0 (by omega) hep (by omega) A b c (by omega) hB w hA
  have HSP : Hid (∀ W : World, Below w.heap.size w W → Calls Try.prog 36 #[.iface 25 (.pointer (some ⟨g, 0, none⟩))] W fun e w' => e = .returned (.int .i64 (spareS S : Int)) ∧ Below W.heap.size W w') := fun W hW => spare_any W (h.below hW) hp
  have hsp := spare_le S
  have HLY : Hid (∀ (W : World) (q cq : Nat), Below w.heap.size w W → W.ownsRow w.heap.size 44 64 (.slice (some ⟨q, 0, none⟩) (snS ep b).length cq) (snS ep b).length (flatS (snS ep b)) → Calls Try.prog 35 #[.iface 25 (.pointer (some ⟨g, 0, none⟩)), .int .i64 (spareS S : Int), .slice (some ⟨q, 0, none⟩) (snS ep b).length cq] W fun e w' => e = .returned (.int .i64 0) ∧ Dsk 71 82 w' base g gs (layS S (spareS S) (snS ep b)) [] ∧ Turned 82 base g gs W w') := fun W q cq hW ho => by
    obtain ⟨hq1, cur, hq2⟩ := own_block ho (g := q) rfl
    obtain ⟨A', c2, e', hsc, hcc⟩ := own_scs ho
    cases e'
    have hlt := h.lt
    exact lay_any W (h.below hW) (spareS S) (snS ep b) q cq (by omega) hsc hcc ⟨lt_of_get hq2, by omega, by omega, .inr (fun cur' fr' e2 => by rw [hq2] at e2; cases e2)⟩ (by omega)
  have hl16 : ((snS ep b).length : Int) ≤ 16 := by omega
  have hl16' : ¬ (16 : Int) < ((snS ep b).length : Int) := by omega
  generalize spareS S = sp at *
  generalize layS S sp (snS ep b) = S' at *
  clear h hA hB hsl
  generalize (snS ep b).length = sl at *
  go_enter Try.func25, Try.ntmps25
  go_wp2_with (first
    | (go_at_call 26; (with_reducible refine (unhide HH).mono ?_); rintro e w2 ⟨rfl, rfl⟩)
    | (go_at_call 34; (with_reducible refine (unhide HEN).mono ?_); rintro e w3 ⟨q, cq, rfl, ho3, hb3⟩; have HB3 := hide hb3; have HO3 := hide ho3; clear hb3 ho3)
    | (go_at_call 36; (with_reducible refine (unhide HSP _ (unhide HB3)).mono ?_); rintro e w4 ⟨rfl, hb4⟩; have HB4 := hide (below_then (unhide HB3) hb4); have HO4 := hide (own_below (unhide HO3) hb4); clear hb4)
    | (go_at_call 35; (with_reducible refine (unhide HLY _ _ _ (unhide HB4) (unhide HO4)).mono ?_); rintro e w5 ⟨rfl, hd5, ht5⟩; have HD5 := hide hd5; have HT5 := hide ((Turned.of_below (unhide HB4)).trans ht5); clear hd5 ht5))
  go_ret
  exact ⟨rfl, unhide HD5, unhide HT5⟩
theorem Save_no {base g gs : Nat} {S : List Sct} {P : List (Nat × Sct)} (w : World) (h : Dsk 71 82 w base g gs S P) (hS : S.length < 32) (ep : Int) (A : Option Addr) (n c : Nat) :
    Calls Try.prog 12 #[.pointer (some ⟨g, 0, none⟩), .int .u32 ep, .slice A n c] w fun e w' => e = .returned (.int .i64 1) ∧ w' = w := by
  have HS := hide (save_no w h hS ep A n c)
  clear h
  go_enter Try.func12, Try.ntmps12
  go_wp2_with (go_at_call 25; (with_reducible refine (unhide HS).mono ?_); rintro e w2 ⟨rfl, rfl⟩)
  go_ret
  exact ⟨rfl, rfl⟩
theorem Save_nil (w : World) (ep : Int) (A : Option Addr) (n c : Nat) :
    Calls Try.prog 12 #[.pointer none, .int .u32 ep, .slice A n c] w fun e w' => e = .returned (.int .i64 1) ∧ w' = w := by
  have HS := hide (save_nil w ep A n c)
  go_enter Try.func12, Try.ntmps12
  go_wp2_with (go_at_call 25; (with_reducible refine (unhide HS).mono ?_); rintro e w2 ⟨rfl, rfl⟩)
  go_ret
  exact ⟨rfl, rfl⟩
theorem Save_yes {base g gs : Nat} {S : List Sct} (w : World) (h : Dsk 71 82 w base g gs S []) (hp : 32 ≤ S.length) (ep : Int) (hep : 0 ≤ ep ∧ ep ≤ 4294967295) (A : Option Addr) (b : List Int) (c : Nat) (hA : BysA w A b) (hB : Byt b) (hl : b.length ≤ 930) :
    Calls Try.prog 12 #[.pointer (some ⟨g, 0, none⟩), .int .u32 ep, .slice A b.length c] w fun e w' => e = .returned (.int .i64 0) ∧ Dsk 71 82 w' base g gs (overS S (spareS S) (snS ep b)) [] ∧ Turned 82 base g gs w w' := by
  have hs := snS_len ep b
  have hsp := spare_le S
  have HS := save_yes w h hp ep hep A b c hA hB hl
  rw [lay_over S (spareS S) (snS ep b) (by omega) (by omega)] at HS
  have HS := hide HS
  clear h hA hB hl hs hsp
  go_enter Try.func12, Try.ntmps12
  go_wp2_with (go_at_call 25; (with_reducible refine (unhide HS).mono ?_); rintro e w2 ⟨rfl, hd, ht⟩)
  go_ret
  exact ⟨rfl, hd, ht⟩
end Go.Proofs.Ytnadknmammjfiaa
