/- wakes. -/
import Derived.Test.YtlnffmppkkkhjaaPar
import Derived.Test.YtlnffmppkkkhjaaRpa
namespace Go.Proofs.Ytlnffmppkkkhjaa
open Go.RowKit
set_option linter.unusedVariables false
theorem p_one : prsN { data := #[48, 49, 58, 56, 48, 58, 99, 50, 58, 48, 48, 58, 48, 48, 58, 48, 102] } = (1652522221583, 0) := by
  have := prs_txt 1652522221583 (by decide)
  rw [show str (txtP 1652522221583 6) = { data := #[48, 49, 58, 56, 48, 58, 99, 50, 58, 48, 48, 58, 48, 48, 58, 48, 102] } by rfl] at this
  exact this
theorem p_two : prsN { data := #[48, 49, 58, 56, 48, 58, 67, 50, 58, 48, 48, 58, 48, 48, 58, 48, 102] } = (0, 11) :=
  prs_no _ fun h => absurd ((h.2 6 (by decide)).2 (by decide)) (by decide)
theorem t_one : str (txt 4328719615) = { data := #[48, 48, 58, 48, 49, 58, 48, 50, 58, 48, 51, 58, 48, 52, 58, 102, 102] } := by rfl
theorem six_row (w : World) (u0 u1 u2 u3 u4 u5 : Value) : RowA (w.alloc (.cells #[u0, u1, u2, u3, u4, u5] 5)) (some ⟨w.heap.size, 0, none⟩) [u0, u1, u2, u3, u4, u5] := by
  intro _
  refine ⟨_, _, rfl, fun j x hj => ?_⟩
  rw [World.cell?_alloc_at _ _ _ _ rfl, Nat.zero_add]
  rw [← hj]; exact (Array.getElem?_toList).symm
theorem o_one (w : World) : Calls Try.prog 9 #[.slice (some ⟨w.heap.size, 0, none⟩) 6 6] (w.alloc (.cells #[.int .u8 0, .int .u8 1, .int .u8 2, .int .u8 3, .int .u8 4, .int .u8 255] 5)) fun e w' => e = .returned (.tuple #[.int .u64 4328719615, .int .i64 0]) ∧ w' = w.alloc (.cells #[.int .u8 0, .int .u8 1, .int .u8 2, .int .u8 3, .int .u8 4, .int .u8 255] 5) :=
  of_any _ _ 6 [0, 1, 2, 3, 4, 255] (by decide) (six_row w _ _ _ _ _ _)
set_option maxHeartbeats 4000000 in
theorem wakes_any (w : World) : Calls Try.prog 7 #[] w fun e w' => e = .returned (.bool true) ∧ Below w.heap.size w w' := by
  have P1 := hide (fun W => (parse_any { data := #[48, 49, 58, 56, 48, 58, 99, 50, 58, 48, 48, 58, 48, 48, 58, 48, 102] } W))
  have P2 := hide (fun W => (parse_any { data := #[48, 49, 58, 56, 48, 58, 67, 50, 58, 48, 48, 58, 48, 48, 58, 48, 102] } W))
  rw [p_one] at P1
  rw [p_two] at P2
  have T1 := hide (fun W => text_any 4328719615 (by decide) W)
  rw [t_one] at T1
  have O1 := hide (fun W => o_one W)
  have K1 := hide (fun W => kept_any 1652522221583 W)
  have G1 := hide (fun W => group_any 1652522221583 (by decide) W)
  have G2 := hide (fun W => group_any 4328719615 (by decide) W)
  have D1 := hide (fun W => good_any 4328719615 W)
  rw [show keptN 1652522221583 = true by rfl] at K1
  rw [show groupN 1652522221583 = true by rfl] at G1
  rw [show groupN 4328719615 = false by rfl] at G2
  rw [show goodN 4328719615 = true by rfl] at D1
  go_enter Try.func7, Try.ntmps7
  go_upto_region 2 with (go_at_call 11; refine (unhide P1 _).mono ?_; rintro e w1 ⟨rfl, hb1⟩; have HB1 := hide hb1; clear hb1)
  go_upto_region 3 with (go_at_call 9; refine (unhide O1 _).mono ?_; rintro e w2 ⟨rfl, rfl⟩)
  go_upto_region 4 with (go_at_call 11; refine (unhide P2 _).mono ?_; rintro e w3 ⟨rfl, hb3⟩; have HB3 := hide hb3; clear hb3)
  go_wp2_with (first
    | (go_at_call 17; refine (unhide K1 _).mono ?_; rintro e w' ⟨rfl, rfl⟩)
    | (go_at_call 15; refine (unhide G1 _).mono ?_; rintro e w' ⟨rfl, rfl⟩)
    | (go_at_call 15; refine (unhide G2 _).mono ?_; rintro e w' ⟨rfl, rfl⟩)
    | (go_at_call 13; refine (unhide D1 _).mono ?_; rintro e w' ⟨rfl, rfl⟩)
    | (go_at_call 21; refine (unhide T1 _).mono ?_; rintro e w4 ⟨rfl, hb4⟩; have HB4 := hide hb4; clear hb4))
  go_ret
  exact ⟨rfl, below_then (below_then (below_alloc (unhide HB1) _) (unhide HB3)) (unhide HB4)⟩
end Go.Proofs.Ytlnffmppkkkhjaa
