/- The walk of SectorFlushes. -/
import Derived.Test.YtcakiohpkebmpaaLastW
namespace Go.Proofs.Ytcakiohpkebmpaa
open Go.RowKit
set_option linter.unusedVariables false
attribute [local go_sem ↓] ldS_of
attribute [local go_sem] eql36 eqGuard36 sv_is

theorem zero_any (t : TypeId) (n : Nat) (h : (Try.prog.info? t).map (fun i => i.zero) = some (some (.agg (Array.replicate (n * 64) (.int .u8 0))))) :
    ∃ i, Try.prog.info? t = some i ∧ i.zero = some (.agg (Array.replicate (n * 64) (.int .u8 0))) := by
  obtain ⟨i, hi, hz⟩ := Option.map_eq_some_iff.1 h
  exact ⟨i, hi, hz⟩
theorem secs_zeros {w : World} {e : TypeId} {b n : Nat} (h : w.heap[b]? = some (.cells (Value.agg (Array.replicate (n * 64) (.int .u8 0))).cells e (0, 0))) : SecsAt w e b (List.replicate n zeroS) := by
  refine ⟨⟨_, h, by simp [Value.cells]⟩, fun i s hs => ?_⟩
  have hi : i < n := by have := (List.getElem?_eq_some_iff.1 hs).1; simpa using this
  obtain rfl : s = zeroS := by rw [List.getElem?_replicate, if_pos hi] at hs; exact (Option.some.inj hs).symm
  intro j v hv
  have hj : j < 64 := by have := (List.getElem?_eq_some_iff.1 hv).1; rwa [bytes_len] at this
  rw [cell_of_row w b (i * 64 + j) _ e (0, 0) h]
  have h3 : v = .int .u8 0 := by
    unfold zeroS at hv
    rw [bytes_full, List.getElem?_replicate, if_pos hj] at hv
    exact (Option.some.inj hv).symm
  rw [h3]
  show (Array.replicate (n * 64) (Value.int .u8 0))[i * 64 + j]? = _
  rw [Array.getElem?_replicate, if_pos (by omega)]

theorem Try.zero57 : (Try.prog.info? 57).map (fun i => i.zero) = some (some (.agg (Array.replicate (6 * 64) (.int .u8 0)))) := by kernel_rfl

set_option maxHeartbeats 400000 in
theorem flushes_no (A : Option Addr) (l : List Stp) (cap : Nat) (ka : Option Addr) (K : List Bool) (kc : Nat) (w : World) (hA : StepsA w A l) (hok : ∀ x ∈ l, x.ok) (hl : l.length ≤ maxLen) (hf : fairL l = false ∨ 500 < K.length) (hkl : K.length ≤ maxLen) :
    Calls Try.prog 7 #[.slice A l.length cap, .slice ka K.length kc] w fun e w' => e = .returned (.bool true) ∧ Below w.heap.size w w' := by
  have hml : maxLen = 9223372036854775807 := rfl
  rw [hml] at hkl
  have HA := hide hA
  have HO := hide hok
  have HL := hide hl
  clear hml hA hok hl
  have key : ∀ b : Bool, fairL l = b → (b = false ∨ 500 < K.length) → Calls Try.prog 7 #[.slice A l.length cap, .slice ka K.length kc] w fun e w' => e = .returned (.bool true) ∧ Below w.heap.size w w' := by
    intro b hb hor
    have HB := hide hb
    clear hf hb
    by_cases h5 : 500 < K.length
    · have h5' : (500 : Int) < (K.length : Int) := by omega
      clear hor
      go_enter Try.func7, Try.ntmps7
      go_wp2_with fail
      refine (new_yes 6 (by omega) (by omega) _).mono ?_
      rintro e w1 ⟨g, gs, rfl, _, hb1⟩
      go_wp2_with fail
      have F := hide (fair_any A l cap w1 (steps_below (unhide HA) hb1) (unhide HO) (unhide HL))
      rw [unhide HB] at F
      refine (unhide F).mono ?_
      rintro e w2 ⟨rfl, rfl⟩
      cases b
      all_goals
        go_wp2_with fail
        refine (wakes_any _).mono ?_
        rintro e w3 ⟨rfl, hb3⟩
        go_wp2
        go_ret
        exact ⟨rfl, below_then hb1 hb3⟩
    · obtain rfl : b = false := by rcases hor with h | h; exact h; omega
      have h5' : ¬ (500 : Int) < (K.length : Int) := by omega
      clear hor
      go_enter Try.func7, Try.ntmps7
      go_wp2_with fail
      refine (new_yes 6 (by omega) (by omega) _).mono ?_
      rintro e w1 ⟨g, gs, rfl, _, hb1⟩
      go_wp2_with fail
      have F := hide (fair_any A l cap w1 (steps_below (unhide HA) hb1) (unhide HO) (unhide HL))
      rw [unhide HB] at F
      refine (unhide F).mono ?_
      rintro e w2 ⟨rfl, rfl⟩
      go_wp2_with fail
      refine (wakes_any _).mono ?_
      rintro e w3 ⟨rfl, hb3⟩
      go_wp2
      go_ret
      exact ⟨rfl, below_then hb1 hb3⟩
  exact key _ rfl hf

set_option maxHeartbeats 400000 in
theorem flushes_walk (A : Option Addr) (l : List Stp) (cap : Nat) (ka : Option Addr) (K : List Bool) (kc : Nat) (w : World) (hA : StepsA w A l) (hok : ∀ x ∈ l, x.ok) (hl : l.length ≤ maxLen) (hf : fairL l = true) (hK : BoolsA w ka K) (hkl : K.length ≤ 500) :
    Calls Try.prog 7 #[.slice A l.length cap, .slice ka K.length kc] w fun e w' => e = .returned (.bool true) ∧ Below w.heap.size w w' := by
  obtain ⟨i36, hi36, hz36⟩ := Try.zero36
  obtain ⟨i57, hi57, hz57⟩ := zero_any 57 6 Try.zero57
  have HA := hide hA
  have HO := hide hok
  have HL := hide hl
  have HF := hide hf
  have HK := hide hK
  have h200 := (fairL_len hf).1
  have h5' : ¬ (500 : Int) < (K.length : Int) := by omega
  clear hA hok hl hf hK
  go_enter Try.func7, Try.ntmps7
  go_wp2_with fail
  refine (new_yes 6 (by omega) (by omega) _).mono ?_
  rintro e w1 ⟨g, gs, rfl, hd1, hb1⟩
  have H1 : Hid (St w w1 g gs (List.replicate 6 zeroS) []) := ⟨hd1, hb1⟩
  have F := hide (fair_any A l cap w1 (steps_below (unhide HA) hb1) (unhide HO) (unhide HL))
  rw [unhide HF] at F
  clear hd1 hb1
  go_wp2_with fail
  refine (unhide F).mono ?_
  rintro e w2 ⟨rfl, rfl⟩
  clear F
  go_wp2_with (with_reducible refine wpList_allocT 57 i57 _ hi57 hz57 ?_; intro w1 hb1 hs1 hg1)
  have S1 : Hid (St w w1 g gs (List.replicate 6 zeroS) []) := (unhide H1).below hb1
  have V1 : Hid (Var w w1 g gs 57 w2.heap.size (List.replicate 6 zeroS)) := Var.new (unhide H1) (secs_zeros hg1) (by decide)
  clear hb1 hs1 hg1 H1
  generalize w2.heap.size = bn at V1 ⊢
  go_loopw [8, 9] (fun t _ wr => ∃ k : Nat, k ≤ l.length ∧ t = .int .i64 k ∧ St w wr g gs (List.replicate 6 zeroS) (wrs 6 (l.take k)) ∧ Var w wr g gs 57 bn (flushS (List.replicate 6 zeroS) (wrs 6 (l.take k)))) (fun t _ _ => l.length - (intOf t).toNat)
  case atStart => exact ⟨0, Nat.zero_le _, rfl, unhide S1, unhide V1⟩
  case round =>
    obtain ⟨k, hk, rfl, hS, hV1⟩ := hrel
    clear S1 V1
    by_cases hlt : k < l.length
    · obtain ⟨x, hx⟩ : ∃ x, l[k]? = some x := ⟨l[k], List.getElem?_eq_getElem hlt⟩
      obtain ⟨b, off, rfl, hc⟩ := (unhide HA) (by rintro rfl; simp at hlt)
      obtain ⟨xa, xc, h1, h2, h3⟩ := hc k x hx
      have hblt : b < w.heap.size := World.block_lt_of_cell? _ _ (h1 0 _ rfl)
      have hxok := (unhide HO) x (List.mem_of_getElem? hx)
      obtain ⟨j, hj, hj4⟩ : ∃ j : Nat, x.i % 6 = (j : Int) ∧ j < 6 := ⟨(x.i % 6).toNat, by omega, by omega⟩
      have hjn : (x.i % 6).toNat = j := by omega
      have HW : Hid (wrs 6 (l.take (k + 1)) = wrs 6 (l.take k) ++ [(j, x.sec)]) := by
        show _ = _
        rw [wrs_snoc hx, hjn]
      have HN : Hid ((wrs 6 (l.take k)).length = k) := by
        show _ = _
        rw [wrs_len, List.length_take]; omega
      have M := hide (fun w => mod_any x.i 6 hxok.2.1 (by omega) w)
      rw [hj] at M
      have C := hide (fun w => sector_any x.kd x.i x.at_ x.v (.slice xa x.keep.length xc) hxok.2.2.1 hxok.2.2.2.1 w)
      have hr := range_of_block h1 (hS.2.block b hblt)
      obtain ⟨d0, d1, d2, d3, d4⟩ := stp_cells hr
      have HR := hide h1
      have HS := hide hS
      have HV1 := hide hV1
      have hlt' : (k : Int) < (l.length : Int) := by omega
      clear hc h1 h2 h3 hx hxok hj hjn hS hV1 hr
      generalize wrs 6 (l.take k) = P at *
      go_wp2_with (go_at_call 23; refine (unhide M _).mono ?_; rintro e w' ⟨rfl, rfl⟩)
      refine (unhide C _).mono ?_
      rintro e w3 ⟨rfl, hb3⟩
      have HS3 := hide ((unhide HS).below hb3)
      have HV13 := hide ((unhide HV1).below hb3)
      clear HS HV1 hb3 d0 d1 d2 d3 d4 M
      go_wp2_with fail
      refine (write_yes w3 (unhide HS3).1 j (by simpa using hj4) x.sec (by rw [unhide HN]; omega)).mono ?_
      rintro e w4 ⟨rfl, hd4, ht4⟩
      have HS4 := hide ((unhide HS3).turned hd4 ht4)
      have HV14 := hide ((unhide HV13).turned ht4)
      have HC4 := hide (pending_any w4 (unhide HS4).1)
      rw [List.length_append, unhide HN] at HC4
      obtain ⟨d0, d1, d2, d3, d4⟩ := stp_cells (range_of_block (unhide HR) ((unhide HS4).2.block b hblt))
      have hLn : Hid ((flushS (List.replicate 6 zeroS) P).length = 6) := by
        show _ = _
        rw [flushS_len]; simp
      have HQ := hide (flushS_snoc (List.replicate 6 zeroS) P (j, x.sec))
      clear HS3 HV13 hd4 ht4
      go_wp2_with fail
      refine (unhide HC4).mono ?_
      rintro e w5 ⟨rfl, rfl⟩
      clear HC4
      go_wp2_with fail
      refine (unhide C _).mono ?_
      rintro e w6 ⟨rfl, hb6⟩
      have HS6 := hide ((unhide HS4).below hb6)
      have HV16 := hide ((unhide HV14).below hb6)
      have hth := (unhide HV16).theres (i := j) (by rw [unhide hLn]; exact hj4)
      have hj6 : (j : Int) < 6 := by omega
      clear HS4 HV14 hb6 d0 d1 d2 d3 d4
      go_wp2_with ((with_reducible refine wpList_storeS Try.size36 _ _ bn (j * 64) x.sec ?_ ?_ hth ?_); (focus rfl); (focus rfl); intro w7 H7)
      go_roundw
      case rel =>
        refine ⟨k + 1, by omega, by go_num, ?_, ?_⟩
        · rw [unhide HW, unhide H7]; exact (unhide HS6).store (unhide HV16) _ _
        · rw [unhide HW, unhide HQ, unhide H7]; exact (unhide HV16).store (by rw [unhide hLn]; exact hj4) _
      case measure => simp [intOf]; omega
    · obtain rfl : k = l.length := by omega
      rw [List.take_length] at hS hV1
      have HN : Hid ((wrs 6 l).length ≤ 200) := by
        show _ ≤ _
        rw [wrs_len]; exact h200
      have HS := hide hS
      have HV1 := hide hV1
      have hLn : Hid ((flushS (List.replicate 6 zeroS) (wrs 6 l)).length = 6) := by
        show _ = _
        rw [flushS_len]; simp
      clear hS hV1
      generalize wrs 6 l = P at *
      go_wp2_with fail
      refine (flush_any wr (unhide HS).1 (by have := unhide HN; omega)).mono ?_
      rintro e w3 ⟨rfl, hd3, ht3⟩
      have HS3 := hide ((unhide HS).turned hd3 ht3)
      have HV13 := hide ((unhide HV1).turned ht3)
      clear HS HV1 hd3 ht3 HN
      generalize flushS (List.replicate 6 zeroS) P = L at *
      go_wp2_with fail
      refine (pending_any w3 (unhide HS3).1).mono ?_
      rintro e w4 ⟨rfl, rfl⟩
      go_wp2_with (at_builtin; refine wpList_copyB (W := w4) rfl _ _ rfl _ rfl rfl ka kc K rfl (rowA_below (unhide HK) (unhide HS3).2) (by omega) ?_; intro gk capk cur w6 hgk hb6 hcur hK6)
      have HS6 := hide ((unhide HS3).below hb6)
      refine (crash_any w6 (unhide HS6).1 (by simp) _ K capk hK6 (fun _ b off e => by cases e; exact safe_new (unhide HS3) hb6 hgk hcur) (by omega)).mono ?_
      rintro e w7 ⟨rfl, hd7, ht7⟩
      have hS7 := (unhide HS6).turned hd7 ht7
      have e7 : flushS L (keptP [] K) = L := by
        have : keptP [] K = [] := by cases K <;> rfl
        rw [this]; rfl
      rw [e7] at hS7
      have HS7 := hide hS7
      have HV17 := hide (((unhide HV13).below hb6).turned ht7)
      clear HS3 HV13 hgk hb6 hcur hK6 HS6 hd7 ht7 e7 hS7
      go_wp2_with fail
      go_loopw [10] (fun t wx => ∃ k : Nat, k ≤ 6 ∧ t = .int .i64 k ∧ St w wx g gs L [] ∧ Var w wx g gs 57 bn L) (fun t _ => 6 - (intOf t).toNat)
      case atStart => exact ⟨0, by omega, rfl, unhide HS7, unhide HV17⟩
      case round =>
        obtain ⟨k, hk6, rfl, hS, hV⟩ := hrel
        clear HS7 HV17
        have HS := hide hS
        have HV := hide hV
        clear hS hV
        by_cases hlt6 : k < 6
        · obtain ⟨s, hs⟩ : ∃ s, L[k]? = some s := ⟨L[k]'(by rw [unhide hLn]; exact hlt6), List.getElem?_eq_getElem _⟩
          have HR : Hid (readS L [] k = s) := by
            show _ = _
            rw [readS_nil, List.getD_eq_getElem?_getD, hs]; rfl
          have hlt6' : (k : Int) < 6 := by omega
          have HG := hide hs
          clear hs
          go_wp2_with fail
          refine (read_yes _ (unhide HS).1 k (by rw [unhide hLn]; exact hlt6) (by simp)).mono ?_
          rintro e w8 ⟨rfl, hb8⟩
          rw [unhide HR]
          have HS8 := hide ((unhide HS).below hb8)
          have HV8 := hide ((unhide HV).below hb8)
          clear HS HV hb8 HR
          go_wp2_with (first
            | (with_reducible refine wpList_allocT 36 i36 (sv zeroS) hi36 hz36 ?_; intro w9 hb9 hs9 hg9)
            | ((with_reducible refine wpList_storeS Try.size36 _ _ w8.heap.size 0 s ?_ ?_ (secs_there (secs_new hg9)) ?_); (focus rfl); (focus rfl); intro wa Ha; obtain ⟨hba, hsa, hXa⟩ := var_put hb9 hs9 hg9 Ha; have HSa := hide ((unhide HS8).below hba); have HVa := hide ((unhide HV8).below hba); have r1 := (unhide HVa).ranges (unhide HG); have r2 := secs_range hXa; clear hsa hs9 hb9 hg9 Ha hXa hba))
          have l1 := ldS_is w8.heap.size 0 s wa.drew (by simpa using r2)
          have l2 := ldS_is bn (k * 64) s wa.drew (by simpa using r1)
          clear r1 r2
          go_region
          all_goals go_wp2
          all_goals exact ⟨⟨k + 1, by omega, by go_num, (unhide HSa).below (Below.drew (Below.refl _ _)), (unhide HVa).below (Below.drew (Below.refl _ _))⟩, by simp [intOf]; omega⟩
        · have hlt6' : ¬ (k : Int) < 6 := by omega
          go_wp2_with fail
          refine (wakes_any _).mono ?_
          rintro e w8 ⟨rfl, hb8⟩
          go_wp2
          go_ret
          exact ⟨rfl, below_then (unhide HS).2 hb8⟩
end Go.Proofs.Ytcakiohpkebmpaa
