/- The walk of SectorLast. -/
import Derived.Test.YtcakiohpkebmpaaVars
import Derived.Deep.CutRange
namespace Go.Proofs.Ytcakiohpkebmpaa
open Go.RowKit
set_option linter.unusedVariables false
attribute [local go_sem ↓] ldS_of
attribute [local go_sem] eql36 eqGuard36 sv_is

/-- The writes of the steps l, on a disk of n sectors. -/
def wrs (n : Int) (l : List Stp) : List (Nat × Sct) := l.map (fun x => ((x.i % n).toNat, x.sec))
theorem wrs_len (n : Int) (l : List Stp) : (wrs n l).length = l.length := by unfold wrs; simp
theorem take_snocS {l : List Stp} {k : Nat} {x : Stp} (h : l[k]? = some x) : l.take (k + 1) = l.take k ++ [x] := by
  have hk := (List.getElem?_eq_some_iff.1 h).1
  rw [List.take_succ_eq_append_getElem hk]
  rw [List.getElem?_eq_getElem hk, Option.some.injEq] at h
  rw [h]
theorem wrs_snoc {n : Int} {l : List Stp} {k : Nat} {x : Stp} (h : l[k]? = some x) : wrs n (l.take (k + 1)) = wrs n (l.take k) ++ [((x.i % n).toNat, x.sec)] := by
  rw [take_snocS h]; unfold wrs; simp

set_option maxHeartbeats 400000 in
theorem last_no (A : Option Addr) (l : List Stp) (cap : Nat) (ka : Option Addr) (K : List Bool) (kc : Nat) (v : Int) (w : World) (hA : StepsA w A l) (hok : ∀ x ∈ l, x.ok) (hl : l.length ≤ maxLen) (hf : fairL l = false ∨ 500 < K.length) (hkl : K.length ≤ maxLen) :
    Calls Try.prog 6 #[.slice A l.length cap, .slice ka K.length kc, .int .u8 v] w fun e w' => e = .returned (.bool true) ∧ Below w.heap.size w w' := by
  have hml : maxLen = 9223372036854775807 := rfl
  rw [hml] at hkl
  have HA := hide hA
  have HO := hide hok
  have HL := hide hl
  clear hml hA hok hl
  have key : ∀ b : Bool, fairL l = b → (b = false ∨ 500 < K.length) → Calls Try.prog 6 #[.slice A l.length cap, .slice ka K.length kc, .int .u8 v] w fun e w' => e = .returned (.bool true) ∧ Below w.heap.size w w' := by
    intro b hb hor
    have HB := hide hb
    clear hf hb
    by_cases h5 : 500 < K.length
    · have h5' : (500 : Int) < (K.length : Int) := by omega
      clear hor
      go_enter Try.func6, Try.ntmps6
      go_wp2_with fail
      refine (new_yes 4 (by omega) (by omega) _).mono ?_
      rintro e w1 ⟨g, gs, rfl, _, hb1⟩
      go_wp2_with fail
      have F := hide (fair_any A l cap w1 (steps_below (unhide HA) hb1) (unhide HO) (unhide HL))
      rw [unhide HB] at F
      refine (unhide F).mono ?_
      rintro e w2 ⟨rfl, rfl⟩
      cases b
      all_goals
        go_wp2_with fail
        refine (wakes_any _).mono ?_
        rintro e w3 ⟨rfl, hb3⟩
        go_wp2
        go_ret
        exact ⟨rfl, below_then hb1 hb3⟩
    · obtain rfl : b = false := by rcases hor with h | h; exact h; omega
      have h5' : ¬ (500 : Int) < (K.length : Int) := by omega
      clear hor
      go_enter Try.func6, Try.ntmps6
      go_wp2_with fail
      refine (new_yes 4 (by omega) (by omega) _).mono ?_
      rintro e w1 ⟨g, gs, rfl, _, hb1⟩
      go_wp2_with fail
      have F := hide (fair_any A l cap w1 (steps_below (unhide HA) hb1) (unhide HO) (unhide HL))
      rw [unhide HB] at F
      refine (unhide F).mono ?_
      rintro e w2 ⟨rfl, rfl⟩
      go_wp2_with fail
      refine (wakes_any _).mono ?_
      rintro e w3 ⟨rfl, hb3⟩
      go_wp2
      go_ret
      exact ⟨rfl, below_then hb1 hb3⟩
  exact key _ rfl hf

set_option maxHeartbeats 400000 in
theorem last_walk (A : Option Addr) (l : List Stp) (cap : Nat) (ka : Option Addr) (K : List Bool) (kc : Nat) (v : Int) (hv : 0 ≤ v ∧ v ≤ 255) (w : World) (hA : StepsA w A l) (hok : ∀ x ∈ l, x.ok) (hl : l.length ≤ maxLen) (hf : fairL l = true) (hK : BoolsA w ka K) (hkl : K.length ≤ 500) :
    Calls Try.prog 6 #[.slice A l.length cap, .slice ka K.length kc, .int .u8 v] w fun e w' => e = .returned (.bool true) ∧ Below w.heap.size w w' := by
  obtain ⟨i36, hi36, hz36⟩ := Try.zero36
  have HA := hide hA
  have HO := hide hok
  have HL := hide hl
  have HF := hide hf
  have HK := hide hK
  have h200 := (fairL_len hf).1
  have h5' : ¬ (500 : Int) < (K.length : Int) := by omega
  clear hA hok hl hf hK
  go_enter Try.func6, Try.ntmps6
  go_wp2_with fail
  refine (new_yes 4 (by omega) (by omega) _).mono ?_
  rintro e w1 ⟨g, gs, rfl, hd1, hb1⟩
  have H1 : Hid (St w w1 g gs (List.replicate 4 zeroS) []) := ⟨hd1, hb1⟩
  have F := hide (fair_any A l cap w1 (steps_below (unhide HA) hb1) (unhide HO) (unhide HL))
  rw [unhide HF] at F
  clear hd1 hb1
  go_wp2_with fail
  refine (unhide F).mono ?_
  rintro e w2 ⟨rfl, rfl⟩
  clear F
  go_wp2_with (with_reducible refine wpList_allocT 36 i36 (sv zeroS) hi36 hz36 ?_; intro w1 hb1 hs1 hg1)
  rename_i w0 hb0 hs0 hg0 _ _
  have S1 : Hid (St w w1 g gs (List.replicate 4 zeroS) []) := ((unhide H1).below hb0).below hb1
  have V1 : Hid (Var w w1 g gs 36 w2.heap.size [zeroS]) := (Var.new (unhide H1) (secs_new hg0) (by decide)).below hb1
  have V2 : Hid (Var w w1 g gs 36 (w2.heap.size + 1) [zeroS]) := by
    have := Var.new ((unhide H1).below hb0) (secs_new hg1) (by decide)
    rw [hs0] at this
    exact this
  obtain ⟨q, hq, hq4⟩ : ∃ q : Nat, v % 4 = (q : Int) ∧ q < 4 := ⟨(v % 4).toNat, by omega, by omega⟩
  rw [hq]
  clear hb0 hs0 hg0 hb1 hs1 hg1 H1 hq
  generalize w2.heap.size = bn at V1 V2 ⊢
  go_loopw [12, 13] (fun t _ wr => ∃ k : Nat, k ≤ l.length ∧ t = .int .i64 k ∧ St w wr g gs (List.replicate 4 zeroS) (wrs 4 (l.take k)) ∧ Var w wr g gs 36 bn [readS (List.replicate 4 zeroS) (wrs 4 (l.take k)) q] ∧ Var w wr g gs 36 (bn + 1) [readS (List.replicate 4 zeroS) (keptP (wrs 4 (l.take k)) K) q]) (fun t _ _ => l.length - (intOf t).toNat)
  case atStart =>
    have e0 : (List.replicate 4 zeroS).getD q zeroS = zeroS := by
      rw [List.getD_eq_getElem?_getD, List.getElem?_replicate, if_pos hq4]; rfl
    refine ⟨0, Nat.zero_le _, rfl, unhide S1, ?_, ?_⟩
    · have : readS (List.replicate 4 zeroS) (wrs 4 (l.take 0)) q = zeroS := e0
      rw [this]; exact unhide V1
    · have : readS (List.replicate 4 zeroS) (keptP (wrs 4 (l.take 0)) K) q = zeroS := e0
      rw [this]; exact unhide V2
  case round =>
    obtain ⟨k, hk, rfl, hS, hV1, hV2⟩ := hrel
    clear S1 V1 V2
    by_cases hlt : k < l.length
    · obtain ⟨x, hx⟩ : ∃ x, l[k]? = some x := ⟨l[k], List.getElem?_eq_getElem hlt⟩
      obtain ⟨b, off, rfl, hc⟩ := (unhide HA) (by rintro rfl; simp at hlt)
      obtain ⟨xa, xc, h1, h2, h3⟩ := hc k x hx
      have hblt : b < w.heap.size := World.block_lt_of_cell? _ _ (h1 0 _ rfl)
      have hxok := (unhide HO) x (List.mem_of_getElem? hx)
      obtain ⟨j, hj, hj4⟩ : ∃ j : Nat, x.i % 4 = (j : Int) ∧ j < 4 := ⟨(x.i % 4).toNat, by omega, by omega⟩
      have hjn : (x.i % 4).toNat = j := by omega
      have HW : Hid (wrs 4 (l.take (k + 1)) = wrs 4 (l.take k) ++ [(j, x.sec)]) := by
        show _ = _
        rw [wrs_snoc hx, hjn]
      have HN : Hid ((wrs 4 (l.take k)).length = k) := by
        show _ = _
        rw [wrs_len, List.length_take]; omega
      have M := hide (fun w => mod_any x.i 4 hxok.2.1 (by omega) w)
      rw [hj] at M
      have C := hide (fun w => sector_any x.kd x.i x.at_ x.v (.slice xa x.keep.length xc) hxok.2.2.1 hxok.2.2.2.1 w)
      have hr := range_of_block h1 (hS.2.block b hblt)
      obtain ⟨d0, d1, d2, d3, d4⟩ := stp_cells hr
      have HR := hide h1
      have HS := hide hS
      have HV1 := hide hV1
      have HV2 := hide hV2
      have hlt' : (k : Int) < (l.length : Int) := by omega
      clear hc h1 h2 h3 hx hxok hj hjn hS hV1 hV2 hr
      generalize wrs 4 (l.take k) = P at *
      go_wp2_with (go_at_call 23; refine (unhide M _).mono ?_; rintro e w' ⟨rfl, rfl⟩)
      refine (unhide C _).mono ?_
      rintro e w3 ⟨rfl, hb3⟩
      have HS3 := hide ((unhide HS).below hb3)
      have HV13 := hide ((unhide HV1).below hb3)
      have HV23 := hide ((unhide HV2).below hb3)
      clear HS HV1 HV2 hb3 d0 d1 d2 d3 d4 M
      go_wp2_with fail
      refine (write_yes w3 (unhide HS3).1 j (by simpa using hj4) x.sec (by rw [unhide HN]; omega)).mono ?_
      rintro e w4 ⟨rfl, hd4, ht4⟩
      have HS4 := hide ((unhide HS3).turned hd4 ht4)
      have HV14 := hide ((unhide HV13).turned ht4)
      have HV24 := hide ((unhide HV23).turned ht4)
      obtain ⟨d0, d1, d2, d3, d4⟩ := stp_cells (range_of_block (unhide HR) ((unhide HS4).2.block b hblt))
      clear HS3 HV13 HV23 hd4 ht4
      by_cases hjq : j = q
      · subst hjq
        have HR1 : Hid (readS (List.replicate 4 zeroS) (P ++ [(j, x.sec)]) j = x.sec) := by
          show _ = _
          rw [readS_snoc, if_pos rfl]
        go_wp2_with fail
        refine (unhide C _).mono ?_
        rintro e w5 ⟨rfl, hb5⟩
        have HS5 := hide ((unhide HS4).below hb5)
        have HV15 := hide ((unhide HV14).below hb5)
        have HV25 := hide ((unhide HV24).below hb5)
        clear HS4 HV14 HV24 hb5 d0 d1 d2 d3 d4
        by_cases hkK : k < K.length
        · have hkK' : (k : Int) < (K.length : Int) := by omega
          obtain ⟨kb, koff, rfl, hkc⟩ := (unhide HK) (by intro e; rw [List.map_eq_nil_iff] at e; subst e; simp at hkK)
          obtain ⟨y, hy⟩ : ∃ y, K[k]? = some y := ⟨K[k], List.getElem?_eq_getElem hkK⟩
          have hyD : K.getD k false = y := by rw [List.getD_eq_getElem?_getD, hy]; rfl
          have hcy : w.cell? ⟨kb, koff + k, none⟩ = some (.bool y) := hkc k (.bool y) (by rw [List.getElem?_map, hy]; rfl)
          have hkblt : kb < w.heap.size := World.block_lt_of_cell? _ _ hcy
          have HKB := hide hcy
          have HY := hide hyD
          clear hkc hy hyD hcy
          cases y with
          | true =>
            have HQ := hide (kept_read_in (List.replicate 4 zeroS) P K j k x.sec (unhide HN) (unhide HY))
            go_wp2_with (first
              | ((with_reducible refine wpList_storeS Try.size36 _ _ bn 0 x.sec ?_ ?_ (Var.there (unhide HV15)) ?_); (focus rfl); (focus rfl); intro w6 H6; have HS6 := hide ((unhide HS5).store (unhide HV15) 0 (bytes x.sec)); have HV16 := hide ((unhide HV15).store1 x.sec); have HV26 := hide ((unhide HV25).other (b' := bn) (by omega) 0 (bytes x.sec)); rw [← unhide H6] at HS6 HV16 HV26; have hck : w6.cell? ⟨kb, koff + k, none⟩ = some (.bool true) := ((unhide HS6).2.cell (p := ⟨kb, koff + k, none⟩) hkblt).trans (unhide HKB))
              | ((with_reducible refine wpList_loadS Try.underlying36 Try.size36 _ bn 0 x.sec ?_ (Var.range (unhide HV16)) ?_); (focus rfl))
              | ((with_reducible refine wpList_storeS Try.size36 _ _ (bn + 1) 0 x.sec ?_ ?_ (Var.there (unhide HV26)) ?_); (focus rfl); (focus rfl); intro w7 H7))
            go_roundw
            case rel =>
              refine ⟨k + 1, by omega, by go_num, ?_, ?_, ?_⟩
              · rw [unhide HW, unhide H7]; exact (unhide HS6).store (unhide HV26) _ _
              · rw [unhide HW, unhide HR1, unhide H7]; exact (unhide HV16).other (by omega) _ _
              · rw [unhide HW, unhide HQ, unhide H7]; exact (unhide HV26).store1 _
            case measure => simp [intOf]; omega
          | false =>
            have HQ := hide (kept_read_out (List.replicate 4 zeroS) P K j k j x.sec (unhide HN) (.inl (unhide HY)))
            go_wp2_with ((with_reducible refine wpList_storeS Try.size36 _ _ bn 0 x.sec ?_ ?_ (Var.there (unhide HV15)) ?_); (focus rfl); (focus rfl); intro w6 H6; have HS6 := hide ((unhide HS5).store (unhide HV15) 0 (bytes x.sec)); have HV16 := hide ((unhide HV15).store1 x.sec); have HV26 := hide ((unhide HV25).other (b' := bn) (by omega) 0 (bytes x.sec)); rw [← unhide H6] at HS6 HV16 HV26; have hck : w6.cell? ⟨kb, koff + k, none⟩ = some (.bool false) := ((unhide HS6).2.cell (p := ⟨kb, koff + k, none⟩) hkblt).trans (unhide HKB))
            go_roundw
            case rel =>
              refine ⟨k + 1, by omega, by go_num, ?_, ?_, ?_⟩
              · rw [unhide HW]; exact unhide HS6
              · rw [unhide HW, unhide HR1]; exact unhide HV16
              · rw [unhide HW, unhide HQ]; exact unhide HV26
            case measure => simp [intOf]; omega
        · have hkK' : ¬ (k : Int) < (K.length : Int) := by omega
          have HQ := hide (kept_read_out (List.replicate 4 zeroS) P K j k j x.sec (unhide HN) (.inl (by rw [List.getD_eq_getElem?_getD, List.getElem?_eq_none (by omega)]; rfl)))
          go_wp2_with ((with_reducible refine wpList_storeS Try.size36 _ _ bn 0 x.sec ?_ ?_ (Var.there (unhide HV15)) ?_); (focus rfl); (focus rfl); intro w6 H6; have HS6 := hide ((unhide HS5).store (unhide HV15) 0 (bytes x.sec)); have HV16 := hide ((unhide HV15).store1 x.sec); have HV26 := hide ((unhide HV25).other (b' := bn) (by omega) 0 (bytes x.sec)); rw [← unhide H6] at HS6 HV16 HV26)
          go_roundw
          case rel =>
            refine ⟨k + 1, by omega, by go_num, ?_, ?_, ?_⟩
            · rw [unhide HW]; exact unhide HS6
            · rw [unhide HW, unhide HR1]; exact unhide HV16
            · rw [unhide HW, unhide HQ]; exact unhide HV26
          case measure => simp [intOf]; omega
      · have hjq' : ¬ (j : Int) = (q : Int) := by omega
        have HR1 : Hid (readS (List.replicate 4 zeroS) (P ++ [(j, x.sec)]) q = readS (List.replicate 4 zeroS) P q) := by
          show _ = _
          rw [readS_snoc, if_neg hjq]
        have HQ := hide (kept_read_out (List.replicate 4 zeroS) P K j k q x.sec (unhide HN) (.inr hjq))
        go_wp2
        go_roundw
        case rel =>
          refine ⟨k + 1, by omega, by go_num, ?_, ?_, ?_⟩
          · rw [unhide HW]; exact unhide HS4
          · rw [unhide HW, unhide HR1]; exact unhide HV14
          · rw [unhide HW, unhide HQ]; exact unhide HV24
        case measure => simp [intOf]; omega
    · obtain rfl : k = l.length := by omega
      rw [List.take_length] at hS hV1 hV2
      have HN : Hid ((wrs 4 l).length ≤ 200) := by
        show _ ≤ _
        rw [wrs_len]; exact h200
      have HS := hide hS
      have HV1 := hide hV1
      have HV2 := hide hV2
      clear hS hV1 hV2
      generalize wrs 4 l = P at *
      go_wp2_with fail
      refine (read_yes wr (unhide HS).1 q (by simpa using hq4) (by have := unhide HN; omega)).mono ?_
      rintro e w3 ⟨rfl, hb3⟩
      have HS3 := hide ((unhide HS).below hb3)
      have HV13 := hide ((unhide HV1).below hb3)
      have HV23 := hide ((unhide HV2).below hb3)
      clear HS HV1 HV2 hb3
      go_wp2_with (first
        | (with_reducible refine wpList_allocT 36 i36 (sv zeroS) hi36 hz36 ?_; intro w4 hb4 hs4 hg4)
        | ((with_reducible refine wpList_storeS Try.size36 _ _ w3.heap.size 0 (readS (List.replicate 4 zeroS) P q) ?_ ?_ (secs_there (secs_new hg4)) ?_); (focus rfl); (focus rfl); intro w5 H5; obtain ⟨hb5, hs5, hX5⟩ := var_put hb4 hs4 hg4 H5; have HS5 := hide ((unhide HS3).below hb5); have HV15 := hide ((unhide HV13).below hb5); have HV25 := hide ((unhide HV23).below hb5); have HV35 := hide (Var.new (unhide HS3) hX5 (by decide)); have hblt3 : w3.heap.size ≠ bn := (by have := (unhide HV13).lt; omega); have hblt4 : w3.heap.size ≠ bn + 1 := (by have := (unhide HV23).lt; omega); clear hs5 hs4 hb4 hg4 H5 hX5)
        | (at_builtin; refine wpList_copyB (W := w5) rfl _ _ rfl _ rfl rfl ka kc K rfl (rowA_below (unhide HK) (unhide HS5).2) (by omega) ?_; intro gk capk cur w6 hgk hb6 hcur hK6))
      have HS6 := hide ((unhide HS5).below hb6)
      refine (crash_any w6 (unhide HS6).1 (by have := unhide HN; omega) _ K capk hK6 (fun _ b off e => by cases e; exact safe_new (unhide HS5) hb6 hgk hcur) (by omega)).mono ?_
      rintro e w7 ⟨rfl, hd7, ht7⟩
      have HS7 := hide ((unhide HS6).turned hd7 ht7)
      have HV17 := hide (((unhide HV15).below hb6).turned ht7)
      have HV27 := hide (((unhide HV25).below hb6).turned ht7)
      have HV37 := hide (((unhide HV35).below hb6).turned ht7)
      have HE : Hid (readS (flushS (List.replicate 4 zeroS) (keptP P K)) [] q = readS (List.replicate 4 zeroS) (keptP P K) q) := by
        show _ = _
        rw [readS_nil, flush_read q _ _ (by simpa using hq4)]
      clear HS3 HV13 HV23 hb5 HS5 HV15 HV25 HV35 hgk hb6 hcur hK6 HS6 hd7 ht7
      go_wp2_with fail
      refine (read_yes w7 (unhide HS7).1 q (by rw [flushS_len]; simpa using hq4) (by simp)).mono ?_
      rintro e w8 ⟨rfl, hb8⟩
      rw [unhide HE]
      have HS8 := hide ((unhide HS7).below hb8)
      have HV18 := hide ((unhide HV17).below hb8)
      have HV28 := hide ((unhide HV27).below hb8)
      have HV38 := hide ((unhide HV37).below hb8)
      clear HS7 HV17 HV27 HV37 hb8 HE
      generalize readS (List.replicate 4 zeroS) (keptP P K) q = y at *
      generalize readS (List.replicate 4 zeroS) P q = x at *
      go_wp2_with (first
        | (with_reducible refine wpList_allocT 36 i36 (sv zeroS) hi36 hz36 ?_; intro w9 hb9 hs9 hg9)
        | ((with_reducible refine wpList_storeS Try.size36 _ _ w8.heap.size 0 y ?_ ?_ (secs_there (secs_new hg9)) ?_); (focus rfl); (focus rfl); intro wa Ha; obtain ⟨hba, hsa, hXa⟩ := var_put hb9 hs9 hg9 Ha; have HSa := hide ((unhide HS8).below hba); have hl1 := ldS_is _ 0 x wa ((unhide HV18).below hba).range; have hl2 := ldS_is _ 0 y wa ((unhide HV28).below hba).range; have hl3 := ldS_is _ 0 x wa ((unhide HV38).below hba).range; have hl4 := ldS_is _ 0 y wa (secs_range hXa); clear hsa hs9 hb9 hg9 Ha hXa)
        | (go_at_call 9; refine (wakes_any _).mono ?_; rintro e wb ⟨rfl, hbb⟩))
      go_ret
      exact ⟨rfl, below_then (unhide HSa).2 hbb⟩
end Go.Proofs.Ytcakiohpkebmpaa
