/- What tally.More, weirgateref01.More and weirgatekeep.Mod come to: contracts over the translation. -/
import Derived.Test.YtpaolllkpmkgkaaProg
import Derived.Test.YtpaolllkpmkgkaaMath
import Derived.Test.YtpaolllkpmkgkaaBase
import Derived.WalkKit
import Derived.WalkSpells
import Derived.LoopTactic
import Derived.Below
namespace Go.Proofs.Ytpaolllkpmkgkaa
open Go.RowKit
set_option linter.unusedVariables false

/-- The bytes bs lie at address a in w (nothing is asked of an empty list). -/
def BysA (w : World) (a : Option Addr) (bs : List Int) : Prop :=
  bs ≠ [] → ∃ b off, a = some ⟨b, off, none⟩ ∧ ∀ i, i < bs.length → w.cell? ⟨b, off + i, none⟩ = some (.int .u8 (bs.getD i 0))

def Byt (bs : List Int) : Prop := ∀ i, 0 ≤ bs.getD i 0 ∧ bs.getD i 0 ≤ 255

theorem ret_int {k : IntKind} {a b : Int} (h : a = b) : Ending.returned (.int k a) = .returned (.int k b) := by rw [h]

theorem take_snoc (l : List Int) (k : Nat) (h : k < l.length) : l.take (k + 1) = l.take k ++ [l.getD k 0] := by
  rw [List.take_succ_eq_append_getElem h, List.getD_eq_getElem?_getD, List.getElem?_eq_getElem h]; rfl

set_option maxHeartbeats 400000 in
theorem more_any (s : Int) (hs : 0 ≤ s ∧ s ≤ 4294967295) (a : Option Addr) (bs : List Int) (cap : Nat) (w : World)
    (hb : BysA w a bs) (hB : Byt bs) (hl : bs.length ≤ maxLen) :
    Calls Try.prog 77 #[.int .u32 s, .slice a bs.length cap] w fun e w' => e = .returned (.int .u32 (more s bs)) ∧ w' = w := by
  unfold maxLen at hl
  obtain ⟨hs1, hs2⟩ := hs
  go_enter Try.func77, Try.ntmps77
  go_wp2
  go_loop [5, 6, 17] (fun lo hi i => ∃ k : Nat, k ≤ bs.length ∧ i = .int .i64 k ∧ lo = .int .u32 (adl (bs.take k) (halves s)).1 ∧ hi = .int .u32 (adl (bs.take k) (halves s)).2) (fun _ _ i => bs.length - (intOf i).toNat)
  case atStart => exact ⟨0, Nat.zero_le _, rfl, rfl, rfl⟩
  case round =>
    obtain ⟨k, hk, rfl, rfl, rfl⟩ := hrel
    by_cases hlt : k < bs.length
    · obtain ⟨b, off, rfl, hc⟩ := hb (by rintro rfl; simp at hlt)
      have hck := hc k hlt
      obtain ⟨x1, x2⟩ := hB k
      have HS : Hid (bs.take (k + 1) = bs.take k ++ [bs.getD k 0]) := take_snoc bs k hlt
      generalize bs.getD k 0 = x at *
      have hL := adl_lim (bs.take k) _ (halves_lim s)
      have HP : Hid (adl (bs.take (k + 1)) (halves s) = (((adl (bs.take k) (halves s)).1 + x) % 65521, ((adl (bs.take k) (halves s)).2 + ((adl (bs.take k) (halves s)).1 + x) % 65521) % 65521)) := by
        show _ = _
        rw [HS.out, adl_snoc]
      clear HS hc hb hB
      generalize adl (bs.take k) (halves s) = p at *
      obtain ⟨p1, p2⟩ := p
      obtain ⟨l1, l2, l3, l4⟩ := hL
      simp only at l1 l2 l3 l4
      go_wp2
      go_round
      case rel => exact ⟨k + 1, by omega, by go_num, by rw [HP.out], by rw [HP.out]⟩
      case measure => simp [intOf]; omega
    · have hL := adl_lim (bs.take k) _ (halves_lim s)
      have HT : Hid (bs.take k = bs) := List.take_of_length_le (by omega)
      have HM : Hid (more s bs = join (adl (bs.take k) (halves s))) := by show _ = _; rw [HT.out]; rfl
      generalize adl (bs.take k) (halves s) = p at *
      obtain ⟨p1, p2⟩ := p
      obtain ⟨l1, l2, l3, l4⟩ := hL
      simp only at l1 l2 l3 l4
      go_wp2
      go_ret
      exact ⟨ret_int (by rw [HM.out]; rfl), rfl⟩

set_option maxHeartbeats 400000 in
theorem refmore_any (s : Int) (hs : 0 ≤ s ∧ s ≤ 4294967295) (a : Option Addr) (bs : List Int) (cap : Nat) (w : World)
    (hb : BysA w a bs) (hB : Byt bs) (hl : bs.length ≤ maxLen) :
    Calls Try.prog 78 #[.int .u32 s, .slice a bs.length cap] w fun e w' => e = .returned (.int .u32 (more s bs)) ∧ w' = w := by
  unfold maxLen at hl
  obtain ⟨hs1, hs2⟩ := hs
  go_enter Try.func78, Try.ntmps78
  go_wp2
  go_loop [5, 6, 7] (fun lo hi i => ∃ k : Nat, k ≤ bs.length ∧ i = .int .i64 k ∧ lo = .int .u32 (adl (bs.take k) (halves s)).1 ∧ hi = .int .u32 (adl (bs.take k) (halves s)).2) (fun _ _ i => bs.length - (intOf i).toNat)
  case atStart => exact ⟨0, Nat.zero_le _, rfl, rfl, rfl⟩
  case round =>
    obtain ⟨k, hk, rfl, rfl, rfl⟩ := hrel
    by_cases hlt : k < bs.length
    · obtain ⟨b, off, rfl, hc⟩ := hb (by rintro rfl; simp at hlt)
      have hck := hc k hlt
      obtain ⟨x1, x2⟩ := hB k
      have HS : Hid (bs.take (k + 1) = bs.take k ++ [bs.getD k 0]) := take_snoc bs k hlt
      generalize bs.getD k 0 = x at *
      have hL := adl_lim (bs.take k) _ (halves_lim s)
      have HP : Hid (adl (bs.take (k + 1)) (halves s) = (((adl (bs.take k) (halves s)).1 + x) % 65521, ((adl (bs.take k) (halves s)).2 + ((adl (bs.take k) (halves s)).1 + x) % 65521) % 65521)) := by
        show _ = _
        rw [HS.out, adl_snoc]
      clear HS hc hb hB
      generalize adl (bs.take k) (halves s) = p at *
      obtain ⟨p1, p2⟩ := p
      obtain ⟨l1, l2, l3, l4⟩ := hL
      simp only at l1 l2 l3 l4
      go_wp2
      go_round
      case rel => exact ⟨k + 1, by omega, by go_num, by rw [HP.out], by rw [HP.out]⟩
      case measure => simp [intOf]; omega
    · have hL := adl_lim (bs.take k) _ (halves_lim s)
      have HT : Hid (bs.take k = bs) := List.take_of_length_le (by omega)
      have HM : Hid (more s bs = join (adl (bs.take k) (halves s))) := by show _ = _; rw [HT.out]; rfl
      generalize adl (bs.take k) (halves s) = p at *
      obtain ⟨p1, p2⟩ := p
      obtain ⟨l1, l2, l3, l4⟩ := hL
      simp only at l1 l2 l3 l4
      go_wp2
      go_ret
      exact ⟨ret_int (by rw [HM.out]; rfl), rfl⟩

theorem mod_any (k n : Int) (hk : -9223372036854775808 ≤ k ∧ k ≤ 9223372036854775807) (hn : 1 ≤ n ∧ n ≤ 4611686018427387904) (w : World) :
    Calls Try.prog 18 #[.int .i64 k, .int .i64 n] w fun e w' => e = .returned (.int .i64 (k % n)) ∧ w' = w := by
  obtain ⟨k1, k2⟩ := hk
  obtain ⟨n1, n2⟩ := hn
  obtain ⟨h1, h2, h3⟩ := tmod_facts k n n1
  have hm : Hid ((k.tmod n + n) % n = k % n) := h3
  clear h3
  go_enter Try.func18, Try.ntmps18
  go_wp2
  go_ret
  exact ⟨ret_int hm.out, rfl⟩

/-- The parts pss lie at address a in w. -/
def PartsA (w : World) (a : Option Addr) (pss : List (List Int)) : Prop :=
  pss ≠ [] → ∃ b off, a = some ⟨b, off, none⟩ ∧ ∀ i, i < pss.length → ∃ a' cap', w.cell? ⟨b, off + i, none⟩ = some (.slice a' (pss.getD i []).length cap') ∧ BysA w a' (pss.getD i [])

def Byts (pss : List (List Int)) : Prop := ∀ i, Byt (pss.getD i []) ∧ (pss.getD i []).length ≤ maxLen

theorem takes_snoc (l : List (List Int)) (k : Nat) (h : k < l.length) : l.take (k + 1) = l.take k ++ [l.getD k []] := by
  rw [List.take_succ_eq_append_getElem h, List.getD_eq_getElem?_getD, List.getElem?_eq_getElem h]; rfl

set_option maxHeartbeats 400000 in
theorem sum_any (a : Option Addr) (pss : List (List Int)) (cap : Nat) (w : World)
    (hp : PartsA w a pss) (hB : Byts pss) (hl : pss.length ≤ maxLen) :
    Calls Try.prog 63 #[.slice a pss.length cap] w fun e w' => e = .returned (.int .u32 (sums 1 pss)) ∧ w' = w := by
  have hml : maxLen = 9223372036854775807 := rfl
  rw [hml] at hl
  clear hml
  go_enter Try.func63, Try.ntmps63
  go_wp2
  go_loop [3, 8] (fun t i => ∃ k : Nat, k ≤ pss.length ∧ i = .int .i64 k ∧ t = .int .u32 (sums 1 (pss.take k))) (fun _ i => pss.length - (intOf i).toNat)
  case atStart => exact ⟨0, Nat.zero_le _, rfl, rfl⟩
  case round =>
    obtain ⟨k, hk, rfl, rfl⟩ := hrel
    by_cases hlt : k < pss.length
    · obtain ⟨b, off, rfl, hc⟩ := hp (by rintro rfl; simp at hlt)
      obtain ⟨a', cap', hck, hby⟩ := hc k hlt
      obtain ⟨hB1, hB2⟩ := hB k
      have HS : Hid (sums 1 (pss.take (k + 1)) = more (sums 1 (pss.take k)) (pss.getD k [])) := by
        show _ = _
        rw [takes_snoc pss k hlt, sums_snoc]
      have hL := sums_lim 1 (pss.take k) (by omega)
      generalize pss.getD k [] = ps at *
      generalize sums 1 (pss.take k) = t at *
      clear hc hp hB
      go_wp2_with (go_at_call 77; refine (more_any t hL a' ps cap' _ hby hB1 hB2).mono ?_; rintro e w' ⟨rfl, rfl⟩)
      go_round
      case rel => exact ⟨k + 1, by omega, by go_num, by rw [HS.out]⟩
      case measure => simp [intOf]; omega
    · have HT : Hid (pss.take k = pss) := List.take_of_length_le (by omega)
      go_wp2
      go_ret
      exact ⟨ret_int (by rw [HT.out]), rfl⟩

set_option maxHeartbeats 400000 in
theorem refsum_any (a : Option Addr) (pss : List (List Int)) (cap : Nat) (w : World)
    (hp : PartsA w a pss) (hB : Byts pss) (hl : pss.length ≤ maxLen) :
    Calls Try.prog 65 #[.slice a pss.length cap] w fun e w' => e = .returned (.int .u32 (sums 1 pss)) ∧ w' = w := by
  have hml : maxLen = 9223372036854775807 := rfl
  rw [hml] at hl
  clear hml
  go_enter Try.func65, Try.ntmps65
  go_wp2
  go_loop [3, 4] (fun t i => ∃ k : Nat, k ≤ pss.length ∧ i = .int .i64 k ∧ t = .int .u32 (sums 1 (pss.take k))) (fun _ i => pss.length - (intOf i).toNat)
  case atStart => exact ⟨0, Nat.zero_le _, rfl, rfl⟩
  case round =>
    obtain ⟨k, hk, rfl, rfl⟩ := hrel
    by_cases hlt : k < pss.length
    · obtain ⟨b, off, rfl, hc⟩ := hp (by rintro rfl; simp at hlt)
      obtain ⟨a', cap', hck, hby⟩ := hc k hlt
      obtain ⟨hB1, hB2⟩ := hB k
      have HS : Hid (sums 1 (pss.take (k + 1)) = more (sums 1 (pss.take k)) (pss.getD k [])) := by
        show _ = _
        rw [takes_snoc pss k hlt, sums_snoc]
      have hL := sums_lim 1 (pss.take k) (by omega)
      generalize pss.getD k [] = ps at *
      generalize sums 1 (pss.take k) = t at *
      clear hc hp hB
      go_wp2_with (go_at_call 78; refine (refmore_any t hL a' ps cap' _ hby hB1 hB2).mono ?_; rintro e w' ⟨rfl, rfl⟩)
      go_round
      case rel => exact ⟨k + 1, by omega, by go_num, by rw [HS.out]⟩
      case measure => simp [intOf]; omega
    · have HT : Hid (pss.take k = pss) := List.take_of_length_le (by omega)
      go_wp2
      go_ret
      exact ⟨ret_int (by rw [HT.out]), rfl⟩

/-- Not fair: more bytes than are gone through, or more than a hundred parts. -/
def fairFrom (n : Int) : List (List Int) → Bool
  | [] => true
  | p :: r => let n' := n + min (p.length : Int) 20001; if n' > 20000 then false else fairFrom n' r

theorem fairFrom_append (n : Int) (xs ys : List (List Int)) (h : fairFrom n (xs ++ ys) = true) : fairFrom n xs = true := by
  induction xs generalizing n with
  | nil => rfl
  | cons x r ih =>
    simp only [List.cons_append, fairFrom] at h ⊢
    split
    · rename_i hc; rw [if_pos hc] at h; cases h
    · rename_i hc; rw [if_neg hc] at h; exact ih _ h

def fairB (pss : List (List Int)) : Bool := fairFrom 0 pss && decide (pss.length ≤ 100)

end Go.Proofs.Ytpaolllkpmkgkaa
