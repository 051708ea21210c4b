/- The reference's Text. -/
import Derived.Test.YtlnffmppkkkhjaaTxt
namespace Go.Proofs.Ytlnffmppkkkhjaa
open Go.RowKit
set_option linter.unusedVariables false
theorem str_app (xs ys : List Nat) : str xs ++ str ys = str (xs ++ ys) := by
  unfold str
  apply ByteArray.ext
  simp [ByteArray.data_append]
theorem str_size (xs : List Nat) : (str xs).size = xs.length := by simp [str, ByteArray.size]
theorem hex_cut (d : Nat) (h : d < 16) : (ByteArray.extract { data := #[48, 49, 50, 51, 52, 53, 54, 55, 56, 57, 97, 98, 99, 100, 101, 102] } d (d + 1)) = str [chr d] := by
  have : d = 0 ∨ d = 1 ∨ d = 2 ∨ d = 3 ∨ d = 4 ∨ d = 5 ∨ d = 6 ∨ d = 7 ∨ d = 8 ∨ d = 9 ∨ d = 10 ∨ d = 11 ∨ d = 12 ∨ d = 13 ∨ d = 14 ∨ d = 15 := by omega
  rcases this with rfl | rfl | rfl | rfl | rfl | rfl | rfl | rfl | rfl | rfl | rfl | rfl | rfl | rfl | rfl | rfl <;> rfl
theorem rtext_any (n : Nat) (hn : n < 18446744073709551616) (w : World) : Calls Try.prog 22 #[.int .u64 n] w fun e w' => e = .returned (.string (str (txt n))) ∧ Below w.heap.size w w' := by
  by_cases h : n < 281474976710656
  · have e : txt n = txtP n 6 := if_pos h
    have hg := rgood_any n w
    rw [show goodN n = true by simp [goodN, h]] at hg
    rw [e]
    clear e
    have HBY := hide (fun (W : World) => rbytes_any n W)
    go_enter Try.func22, Try.ntmps22
    go_wp2_with (first
      | (go_at_call 14; refine hg.mono ?_; rintro e w' ⟨rfl, rfl⟩)
      | (go_at_call 20; refine (unhide HBY _).mono ?_; rintro e w2 ⟨rfl, rfl⟩))
    go_loopw [4, 5] (fun s i W => ∃ k : Nat, k ≤ 6 ∧ i = .int .i64 k ∧ s = .string (str (txtP n k)) ∧ Below (w'.alloc (.cells (lay n 6) 5)).heap.size (w'.alloc (.cells (lay n 6) 5)) W) (fun _ i _ => (6 - intOf i).toNat)
    case atStart => exact ⟨0, by omega, rfl, rfl, Below.refl _ _⟩
    case round =>
      obtain ⟨k, hk, rfl, rfl, hb⟩ := hrel
      have HB := hide hb
      have hz0 : (str (txtP n k)).size ≤ 17 := by rw [str_size, txtP_len]; omega
      by_cases hk6 : k < 6
      · have hc : wr.cell? ⟨w'.heap.size, k, none⟩ = some (.int .u8 (byN n k : Nat)) := by
          rw [hb.cell (by simp), World.cell?_alloc_at _ _ _ _ rfl, lay_get n 6 k hk6]
          unfold cel; rw [if_pos hk6]
        have hlt := byN_lt n k
        obtain ⟨d1, hd1⟩ : ∃ d, d = byN n k / 16 := ⟨_, rfl⟩
        obtain ⟨d2, hd2⟩ : ∃ d, d = byN n k % 16 := ⟨_, rfl⟩
        have h1 : (byN n k : Int) / 16 = (d1 : Int) := by omega
        have h2 : (byN n k : Int) % 16 = (d2 : Int) := by omega
        have hl1 : d1 < 16 := by omega
        have hl2 : d2 < 16 := by omega
        have HE : Hid (txtP n (k + 1) = txtP n k ++ ((if 0 < k then [58] else []) ++ [chr d1, chr d2])) := by rw [hd1, hd2]; rfl
        have hw1 : IntKind.u8.wrap (d1 : Int) = d1 := by rw [IntKind.wrap_u8]; omega
        have hw2 : IntKind.u8.wrap (d2 : Int) = d2 := by rw [IntKind.wrap_u8]; omega
        have hv1 : IntKind.u8.wrap ((d1 : Int) + 1) = d1 + 1 := by rw [IntKind.wrap_u8]; omega
        have hv2 : IntKind.u8.wrap ((d2 : Int) + 1) = d2 + 1 := by rw [IntKind.wrap_u8]; omega
        have hu1 : ((d1 : Int) + 1) ≤ 16 := by omega
        have hu2 : ((d2 : Int) + 1) ≤ 16 := by omega
        have ht1 : ((d1 : Int) + 1).toNat = d1 + 1 := by omega
        have ht2 : ((d2 : Int) + 1).toNat = d2 + 1 := by omega
        have hx1 := hex_cut d1 hl1
        have hx2 := hex_cut d2 hl2
        have hs1 : (str [chr d1]).size = 1 := str_size _
        have hs2 : (str [chr d2]).size = 1 := str_size _
        clear hb hd1 hd2
        generalize byN n k = B at *
        by_cases hk0 : 0 < k
        · have hz1 : (str (txtP n k) ++ { data := #[58] }).size ≤ 18 := by rw [ByteArray.size_append]; have : (ByteArray.size { data := #[58] }) = 1 := rfl; omega
          have HS := hide (show (str (txtP n k) ++ { data := #[58] }) ++ (str [chr d1] ++ str [chr d2]) = str (txtP n (k + 1)) by
            rw [unhide HE, if_pos hk0, str_app, show ({ data := #[58] } : ByteArray) = str [58] from rfl, str_app, str_app, List.append_assoc]; rfl)
          generalize str (txtP n k) = s0 at *
          go_wp2
          generalize s0 ++ { data := #[58] } = s1 at *
          go_region
          go_wp2
          go_roundw
          case rel => exact ⟨k + 1, by omega, by go_num, by rw [unhide HS], Below.drew (unhide HB)⟩
          case measure => simp [intOf]; omega
        · obtain rfl : k = 0 := by omega
          have HS := hide (show str (txtP n 0) ++ (str [chr d1] ++ str [chr d2]) = str (txtP n 1) by
            rw [unhide HE, str_app, str_app]; rfl)
          generalize str (txtP n 0) = s0 at *
          go_wp2
          go_region
          go_wp2
          go_roundw
          case rel => exact ⟨1, by omega, by go_num, by rw [unhide HS], Below.drew (unhide HB)⟩
          case measure => simp [intOf]
      · obtain rfl : k = 6 := by omega
        clear hb
        go_wp2
        go_ret
        exact ⟨rfl, below_then (below_alloc (Below.refl _ _) _) (unhide HB)⟩
  · have e : txt n = [] := if_neg h
    have hg := rgood_any n w
    rw [show goodN n = false by simp [goodN, h]] at hg
    rw [e]
    clear e
    go_enter Try.func22, Try.ntmps22
    go_wp2_with (go_at_call 14; refine hg.mono ?_; rintro e w' ⟨rfl, rfl⟩)
    go_ret
    exact ⟨rfl, Below.refl _ _⟩
end Go.Proofs.Ytlnffmppkkkhjaa
