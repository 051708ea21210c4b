/- Contract: Encode. -/
import Derived.Test.YtpaolllkpmkgkaaEnc2
namespace Go.Proofs.Ytpaolllkpmkgkaa
open Go.RowKit
set_option linter.unusedVariables false

/-- An entry as one value. -/
def entV (k e s : Int) (A : Option Addr) (n cap : Nat) : Value := .agg #[.int .i64 k, .int .u32 e, .int .u32 s, .slice A n cap]
theorem pieces_ent (k e s : Int) (b : List Int) : pieces (entL k e s b).length = (b.length + 77) / 63 := by unfold pieces; rw [entL_len]; omega

set_option maxHeartbeats 1000000 in
theorem encode_ok (k e s : Int) (hk : 0 ≤ k ∧ k ≤ 255) (he : 0 ≤ e ∧ e ≤ 4294967295) (hs : 0 ≤ s ∧ s ≤ 4294967295) (A : Option Addr) (b : List Int) (cap : Nat) (hl : b.length ≤ 4000) (hB : Byt b) (w : World) (hA : BysA w A b) :
    Calls Try.prog 10 #[.agg #[.int .i64 k, .int .u32 e, .int .u32 s, .slice A b.length cap]] w fun x w' => ∃ g c, x = .returned (.tuple #[.slice (some ⟨g, 0, none⟩) (cutS (entL k e s b)).length c, .int .i64 0]) ∧ w'.ownsRow w.heap.size 44 64 (.slice (some ⟨g, 0, none⟩) (cutS (entL k e s b)).length c) (cutS (entL k e s b)).length (flatS (cutS (entL k e s b))) ∧ Below w.heap.size w w' := by
  have HE := hide he
  have HS := hide hs
  have HB := hide hB
  have HA := hide hA
  have HK := hide hk
  obtain ⟨k1, k2⟩ := hk
  obtain ⟨e1, e2⟩ := he
  obtain ⟨s1, s2⟩ := hs
  have hn1 : (b.length : Int) ≤ 4000 := by omega
  have HBL : Hid (∀ (o1 o2 : Obj), BysA ((w.alloc o1).alloc o2) A b) := fun o1 o2 => bysA_alloc (bysA_alloc (unhide HA) _) _
  have HLN : Hid ((entL k e s b).length = 15 + b.length) := entL_len k e s b
  have HEB := hide (entL_byt (e := e) (s := s) (unhide HK) hB)
  have HCL : Hid (0 < (cutS (entL k e s b)).length) := by show _ < _; rw [cutS_len, pieces_ent]; omega
  have HBW : Hid (∀ (o1 o2 : Obj), Below w.heap.size w ((w.alloc o1).alloc o2)) := fun o1 o2 => below_alloc (below_alloc (Below.refl _ _) _) _
  clear hB hA
  go_enter Try.func10, Try.ntmps10
  go_wp2_with (first
    | (go_at_call 42; refine (rbytes_any k e s (unhide HK) (unhide HE) (unhide HS) A b cap hl (unhide HB) _ (unhide HBL _ _)).mono ?_; rintro x w2 ⟨g, c, rfl, ho, hb⟩; have hb2 := below_then (unhide HBW _ _) hb; obtain ⟨A9, c9, e9, hbys, hc9⟩ := own_bys ho; cases e9; have HY := hide hbys; clear ho hbys)
    | (go_at_call 41; refine (cut_any _ _ _ (entL k e s b) _ (unhide HEB) ?_ ?_ hc9 (unhide HY)).mono ?_; (focus (rw [unhide HLN]; omega)); (focus (rw [unhide HLN]; omega)); rintro x w3 ⟨v, rfl, ho, hb3⟩; obtain ⟨gv, cv, rfl⟩ : ∃ gv cv, v = .slice (some ⟨gv, 0, none⟩) (cutS (entL k e s b)).length cv := (by rcases ho.2 with ⟨_, h0⟩ | ⟨g', cap', cur, h', _⟩; (have := unhide HCL; omega); exact ⟨g', cap', h'⟩); have HO := hide (own_mono ho hb2.size); clear ho))
  go_ret2
  exact ⟨gv, cv, rfl, unhide HO, below_then hb2 hb3⟩

theorem encode_form (k e s : Int) (hk : k < 0 ∨ 255 < k) (A : Option Addr) (n cap : Nat) (w : World) :
    Calls Try.prog 10 #[.agg #[.int .i64 k, .int .u32 e, .int .u32 s, .slice A n cap]] w fun x w' => x = .returned (.tuple #[.slice none 0 0, .int .i64 11]) ∧ Below w.heap.size w w' := by
  by_cases h : k < 0
  · go_enter Try.func10, Try.ntmps10
    go_wp2
    go_ret2
    exact ⟨rfl, below_alloc (Below.refl _ _) _⟩
  · have h2 : 255 < k := by omega
    have h3 : ¬ k < 0 := h
    go_enter Try.func10, Try.ntmps10
    go_wp2
    go_ret2
    exact ⟨rfl, below_alloc (Below.refl _ _) _⟩
theorem encode_long (k e s : Int) (hk : 0 ≤ k ∧ k ≤ 255) (A : Option Addr) (n cap : Nat) (hn : 4000 < n) (w : World) :
    Calls Try.prog 10 #[.agg #[.int .i64 k, .int .u32 e, .int .u32 s, .slice A n cap]] w fun x w' => x = .returned (.tuple #[.slice none 0 0, .int .i64 2]) ∧ Below w.heap.size w w' := by
  obtain ⟨k1, k2⟩ := hk
  have h2 : (4000 : Int) < (n : Int) := by omega
  go_enter Try.func10, Try.ntmps10
  go_wp2
  go_ret2
  exact ⟨rfl, below_alloc (Below.refl _ _) _⟩
end Go.Proofs.Ytpaolllkpmkgkaa
