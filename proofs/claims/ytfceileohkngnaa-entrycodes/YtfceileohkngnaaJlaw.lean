/- A journal that holds entries: what Append, All, Open make of it. -/
import Derived.Test.YtfceileohkngnaaJwk
namespace Go.Proofs.Ytfceileohkngnaa
open Go.RowKit
set_option linter.unusedVariables false
set_option maxRecDepth 4000

theorem parts_hdr {W : World} {N : Nat} {a : Option Addr} {p : List Int} {c : Nat} (h0 : W.cell? ⟨N, 0, none⟩ = some (.slice a p.length c)) (ha : BysA W a p) : PartsA W (some ⟨N, 0, none⟩) [p] := by
  intro _
  refine ⟨N, 0, rfl, fun i hi => ?_⟩
  obtain rfl : i = 0 := by simp at hi; exact hi
  exact ⟨_, _, h0, ha⟩
theorem flk_one (p : List Int) : flk [p] 1 = p := by unfold flk; simp
theorem byts_hdr {p : List Int} (h : Byt p) (hl : p.length ≤ maxLen) : Byts [p] := fun i => by
  match i with
  | 0 => exact ⟨h, hl⟩
  | i + 1 => exact ⟨byt_of (by simp), Nat.zero_le _⟩
theorem fits_snoc {L : List (List Int)} (h : Fits L) {b : List Int} (hB : Byt b) (hl : b.length ≤ 4000) : Fits (L ++ [b]) := fun x hx => by
  rcases List.mem_append.1 hx with hx | hx
  · exact h x hx
  · rw [List.mem_singleton] at hx; subst hx; exact ⟨hB, hl⟩

/-- A journal that holds the entries L, of a disk with the sectors S. -/
structure Hold (w : World) (base g gs : Nat) (S : List Sct) (j fr tt : Nat) (ep : Int) (L : List (List Int)) (R : List Sct) : Prop where
  dsk : Dsk 102 120 w base g gs S []
  jr : Jr w j g fr tt ep (fr + (entsS ep 0 L).length) (L.length : Int)
  epo : 0 ≤ ep ∧ ep ≤ 4294967295
  rest : S.drop fr = entsS ep 0 L ++ R
  fits : Fits L
  few : L.length ≤ 900
  room : fr + (entsS ep 0 L).length ≤ tt
  lim : tt ≤ S.length
  size : tt ≤ 900
theorem Hold.below {w w' : World} {base g gs : Nat} {S : List Sct} {j fr tt : Nat} {ep : Int} {L : List (List Int)} {R : List Sct} (h : Hold w base g gs S j fr tt ep L R) (hb : Below w.heap.size w w') : Hold w' base g gs S j fr tt ep L R :=
  ⟨h.dsk.below hb, h.jr.below hb, h.epo, h.rest, h.fits, h.few, h.room, h.lim, h.size⟩
theorem Hold.all {w : World} {base g gs : Nat} {S : List Sct} {j fr tt : Nat} {ep : Int} {L : List (List Int)} {R : List Sct} (h : Hold w base g gs S j fr tt ep L R) :
    Calls Try.prog 29 #[.pointer (some ⟨j, 0, none⟩)] w fun e w' => ∃ A c, e = .returned (.slice A L.length c) ∧ PartsA w' A L ∧ Below w.heap.size w w' := by
  have h1 := h.room
  have h2 := h.lim
  have h3 := h.size
  have := all_any w h.dsk h.jr (by omega) (by omega) (by omega)
  rw [hold_all h.epo h.rest h.fits (by have := h.few; omega) (fr + (entsS ep 0 L).length - fr) (by omega)] at this
  exact this
theorem Hold.roomy {w : World} {base g gs : Nat} {S : List Sct} {j fr tt : Nat} {ep : Int} {L : List (List Int)} {R : List Sct} (h : Hold w base g gs S j fr tt ep L R) :
    Calls Try.prog 30 #[.pointer (some ⟨j, 0, none⟩)] w fun e w' => e = .returned (.int .i64 ((tt - (fr + (entsS ep 0 L).length) : Nat) : Int)) ∧ Below w.heap.size w w' := by
  have h3 := h.size
  refine (room_any h.jr h.room (by omega)).mono ?_
  rintro e w' ⟨rfl, n, rfl⟩
  exact ⟨rfl, below_drewN (Below.refl _ _) _⟩
/-- An entry more. -/
theorem Hold.append {w : World} {base g gs : Nat} {S : List Sct} {j fr tt : Nat} {ep : Int} {L : List (List Int)} {R : List Sct} (h : Hold w base g gs S j fr tt ep L R) (A : Option Addr) (pss : List (List Int)) (cap n : Nat) (hn : n = pss.length) (hp : PartsA w A pss) (hB : Byts pss) (hl : pss.length ≤ 100) (F : List Int) (hFe : flk pss pss.length = F) (hf : F.length ≤ 4000) (hBf : Byt F) (hb : (F.length + 77) / 63 ≤ tt - (fr + (entsS ep 0 L).length)) (hL : L.length ≤ 800) :
    Calls Try.prog 21 #[.pointer (some ⟨j, 0, none⟩), .slice A n cap] w fun e w' => e = .returned (.int .i64 0) ∧ Hold w' base g gs (overS S (fr + (entsS ep 0 L).length) (entS ep L.length F)) j fr tt ep (L ++ [F]) (R.drop (entS ep L.length F).length) ∧ TurnJ base g gs j w w' := by
  subst hn
  have h1 := h.room
  have h2 := h.lim
  have h3 := h.size
  have hel := entS_len ep L.length F
  have hx := append_yes h.dsk h.epo (ct := L.length) (by omega) h.jr h.room h.lim A pss cap hp hB hl (by rw [hFe]; exact hf) (by rw [hFe]; exact hBf) (by rw [hFe]; exact hb)
  rw [hFe, lay_over _ _ _ (by rw [hel]; omega) (by rw [hel]; omega)] at hx
  refine hx.mono ?_
  rintro e w' ⟨rfl, hd, hj, ht⟩
  have hsl := entsS_len ep L 0 F
  refine ⟨rfl, ⟨hd, ?_, h.epo, hold_append h.rest F rfl (by rw [hel]; omega), fits_snoc h.fits hBf hf, by rw [List.length_append]; simp only [List.length_cons, List.length_nil]; omega, by rw [hsl]; omega, by rw [over_len _ _ _ (by rw [hel]; omega)]; exact h2, h3⟩, ht⟩
  rw [hsl, List.length_append, ← hel, ← Nat.add_assoc]
  exact hj
theorem Hold.full {w : World} {base g gs : Nat} {S : List Sct} {j fr tt : Nat} {ep : Int} {L : List (List Int)} {R : List Sct} (h : Hold w base g gs S j fr tt ep L R) (A : Option Addr) (pss : List (List Int)) (cap n : Nat) (hn : n = pss.length) (hp : PartsA w A pss) (hl : pss.length ≤ 100) (F : List Int) (hFe : flk pss pss.length = F) (hf : F.length ≤ 4000) (hb : tt - (fr + (entsS ep 0 L).length) < (F.length + 77) / 63) :
    Calls Try.prog 21 #[.pointer (some ⟨j, 0, none⟩), .slice A n cap] w fun e w' => e = .returned (.int .i64 12) ∧ Below w.heap.size w w' := by
  subst hn
  have h3 := h.size
  exact append_full h.jr h.room (by omega) A pss cap hp hl (by rw [hFe]; exact hf) (by rw [hFe]; exact hb)
/-- A journal that is opened on a disk whose sectors hold entries, and behind them none of this epoch. -/
theorem open_hold {base g gs : Nat} {S : List Sct} (w : World) (h : Dsk 102 120 w base g gs S []) (fr tt : Nat) (ep : Int) (hep : 0 ≤ ep ∧ ep ≤ 4294967295) (hft : fr < tt) (hts : tt ≤ S.length) (ht9 : tt ≤ 900) (L : List (List Int)) (R : List Sct) (hr : S.drop fr = entsS ep 0 L ++ R) (hF : Fits L) (hL : L.length ≤ 900) (hO : Old ep R) (hrm : fr + (entsS ep 0 L).length ≤ tt) :
    Calls Try.prog 19 #[.pointer (some ⟨g, 0, none⟩), .int .i64 fr, .int .i64 tt, .int .u32 ep] w fun e w' => ∃ j, e = .returned (.tuple #[.pointer (some ⟨j, 0, none⟩), .int .i64 0]) ∧ Hold w' base g gs S j fr tt ep L R ∧ w.heap.size ≤ j ∧ Below w.heap.size w w' := by
  have hx := open_yes w h fr tt ep hft hts ht9
  obtain ⟨e1, e2⟩ := hold_open hep hr hF (by omega) hO (tt - fr) (by omega)
  rw [e1, e2] at hx
  refine hx.mono ?_
  rintro e w' ⟨j, rfl, hj, hz, hb⟩
  exact ⟨j, rfl, ⟨h.below hb, hj, hep, hr, hF, hL, hrm, hts, ht9⟩, hz, hb⟩
/-- Another epoch: none of its entries. -/
theorem Hold.next {w : World} {base g gs : Nat} {S : List Sct} {j fr tt : Nat} {ep : Int} {L : List (List Int)} {R : List Sct} (h : Hold w base g gs S j fr tt ep L R) (ep' : Int) (hep' : 0 ≤ ep' ∧ ep' ≤ 4294967295) (hbj : base ≤ j) :
    Calls Try.prog 24 #[.pointer (some ⟨j, 0, none⟩), .int .u32 ep'] w fun e w' => e = .returned (.tuple #[]) ∧ Hold w' base g gs S j fr tt ep' [] (S.drop fr) ∧ TurnJ base g gs j w w' := by
  have hj := h.jr
  have h1 := h.room
  refine (next_any h.jr ep').mono ?_
  rintro e w' ⟨rfl, hj', hbl, hb⟩
  have hne := hj.ne h.dsk
  refine ⟨rfl, ⟨?_, hj', hep', rfl, fun b hb => (by cases hb), Nat.zero_le _, by simp only [entsS, List.length_nil]; omega, h.lim, h.size⟩, ⟨hb.os, hb.tape, hb.output, hb.size, fun b _ _ _ h4 _ => hbl b h4⟩⟩
  obtain ⟨pv, hg, b1, b2, hS, hP, b3, b4⟩ := h.dsk
  refine ⟨pv, by rw [hbl g hne.1.symm]; exact hg, b1, b2, hS.of_block (hbl gs hne.2.symm), own_of_block hP (fun k hk => hbl k ?_), b3, b4⟩
  rintro rfl
  obtain ⟨_, cur, hc⟩ := own_block hP hk
  unfold Jr at hj
  rw [hj] at hc
  cases hc
end Go.Proofs.Ytfceileohkngnaa
