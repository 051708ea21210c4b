/- Own texts in one: Dec, Dec2, Dec3, Dec4, Dec5, Dec6, BackM, Wk. -/
import Derived.Test.YtfceileohkngnaaMD
/- Contracts: how many sectors an entry has, and its bytes out of them. -/
namespace Go.Proofs.Ytfceileohkngnaa
open Go.RowKit
set_option linter.unusedVariables false

def lenS (s : Sct) : Int := s.1.getD 10 0 * 256 + s.1.getD 11 0
theorem lenS_lim (s : Sct) : 0 ≤ lenS s ∧ lenS s ≤ 65535 := by
  have h1 := sct_byte s 10 (by omega)
  have h2 := sct_byte s 11 (by omega)
  unfold lenS; omega
def needN (s : Sct) : Nat := (needI (lenS s)).toNat
theorem needN_is (s : Sct) : (needN s : Int) = needI (lenS s) := by
  unfold needN needI
  have := lenS_lim s
  split <;> omega
theorem needN_le (s : Sct) : needN s ≤ 64 := by
  have := lenS_lim s
  have h := needN_is s
  unfold needI at h
  split at h <;> omega
/-- How many sectors the entry at the first of S would have. -/
def extN : List Sct → Nat
  | [] => 0
  | s :: r => if r.length + 1 < needN s then 0 else needN s

/-- What lies behind the marks. -/
def tail (s : Sct) : List Int := s.1.drop 1
theorem tail_len (s : Sct) : (tail s).length = 63 := by unfold tail; rw [List.length_drop, s.2.1]
theorem tail_getD (s : Sct) (j : Nat) : (tail s).getD j 0 = s.1.getD (j + 1) 0 := by
  unfold tail; rw [List.getD_eq_getElem?_getD, List.getElem?_drop, List.getD_eq_getElem?_getD, Nat.add_comm 1 j]
theorem tail_byt (s : Sct) : Byt (tail s) := by
  unfold tail
  exact byt_drop (byt_of s.2.2) 1
theorem tail_bys {w : World} {b off : Nat} {s : Sct} (h : w.rangeAt b off (bytes s)) : BysA w (some ⟨b, off + 1, none⟩) (tail s) := by
  intro _
  refine ⟨b, off + 1, rfl, fun j hj => ?_⟩
  rw [tail_len] at hj
  rw [tail_getD, show off + 1 + j = off + (j + 1) by omega]
  exact h (j + 1) _ (bytes_get s (j + 1) (by omega))
def joinL (S : List Sct) : List Int := S.flatMap tail
theorem joinL_len (S : List Sct) : (joinL S).length = 63 * S.length := by
  induction S with
  | nil => rfl
  | cons s r ih =>
    show (tail s ++ joinL r).length = _
    rw [List.length_append, tail_len, ih, List.length_cons]; omega
theorem joinL_snoc (S : List Sct) (s : Sct) : joinL (S ++ [s]) = joinL S ++ tail s := by unfold joinL; rw [List.flatMap_append]; simp
theorem joinL_byt (S : List Sct) : Byt (joinL S) := by
  induction S with
  | nil => exact byt_nil
  | cons s r ih => exact byt_app (tail_byt s) ih
/-- Each sector begins with its mark. -/
def Marks (S : List Sct) : Prop := ∀ i s, S[i]? = some s → s.1.getD 0 0 = markI i

theorem secs_cell {w : World} {b off : Nat} {s : Sct} (h : w.rangeAt b off (bytes s)) (j : Nat) (hj : j < 64) : w.cell? ⟨b, off + j, none⟩ = some (.int .u8 (s.1.getD j 0)) := h j _ (bytes_get s j hj)

theorem length_at (b off n cap : Nat) (bs : List Int) (w : World) (hn : n = bs.length) (hb : BysA w (some ⟨b, off, none⟩) bs) (hB : Byt bs) (hl : 11 ≤ n) (hl2 : n ≤ 100000) :
    Calls Try.prog 62 #[.slice (some ⟨b, off, none⟩) n cap] w fun e w' => e = .returned (.int .i64 (bs.getD 9 0 * 256 + bs.getD 10 0)) ∧ ∃ n, w' = w.drewN n := by
  subst hn; exact length_any b off cap bs w hb hB hl hl2
theorem number_at (b off n cap : Nat) (bs : List Int) (w : World) (hn : n = bs.length) (hb : BysA w (some ⟨b, off, none⟩) bs) (hB : Byt bs) (hl : 4 ≤ n) (hl2 : n ≤ 100000) :
    Calls Try.prog 63 #[.slice (some ⟨b, off, none⟩) n cap] w fun e w' => e = .returned (.int .u32 (bs.getD 0 0 * 16777216 + bs.getD 1 0 * 65536 + bs.getD 2 0 * 256 + bs.getD 3 0)) ∧ ∃ n, w' = w.drewN n := by
  subst hn; exact number_any b off cap bs w hb hB hl hl2
theorem blank_at (a : Option Addr) (n cap : Nat) (bs : List Int) (w : World) (hn : n = bs.length) (hb : BysA w a bs) (hB : Byt bs) (hl : n ≤ 100000) :
    Calls Try.prog 64 #[.slice a n cap] w fun e w' => e = .returned (.bool (bs.all (· == 0))) ∧ w' = w := by
  subst hn; exact blank_any a bs cap w hb hB hl

set_option maxHeartbeats 400000 in
theorem extent_any (A : Option Addr) (S : List Sct) (cap : Nat) (w : World) (hA : ScsA w A S) (hl : S.length ≤ 100000) :
    Calls Try.prog 40 #[.slice A S.length cap] w fun x w' => x = .returned (.int .i64 (extN S)) ∧ ∃ n, w' = w.drewN n := by
  cases S with
  | nil =>
    go_enter Try.func40, Try.ntmps40
    go_wp2
    go_ret
    exact ⟨rfl, 0, rfl⟩
  | cons s r =>
    obtain ⟨b, off, rfl, hr⟩ := hA.range (k := 0) (by simp)
    have hr0 := hr 0 s rfl
    rw [Nat.zero_mul, Nat.add_zero] at hr0
    have HT := hide (tail_bys hr0)
    have HLN : Hid ((tail s).getD 9 0 * 256 + (tail s).getD 10 0 = lenS s) := by show _ = _; rw [tail_getD, tail_getD]; rfl
    have HLM := hide (lenS_lim s)
    have HN := hide (needN_is s)
    have hnl := needN_le s
    have HL := hide (tail_len s)
    have HTB := hide (tail_byt s)
    have HEX : Hid (extN (s :: r) = if r.length + 1 < needN s then 0 else needN s) := rfl
    have hlen : (s :: r).length = r.length + 1 := rfl
    rw [hlen] at hl ⊢
    have h0 : (0 : Int) < ((r.length + 1 : Nat) : Int) := by omega
    have hne : ¬ ((r.length + 1 : Nat) : Int) = 0 := by omega
    clear hA hr hr0 hlen
    go_enter Try.func40, Try.ntmps40
    by_cases hc : r.length + 1 < needN s
    · have hc' : ((r.length + 1 : Nat) : Int) < (needN s : Int) := by omega
      go_wp2_with (first
        | (go_at_call 62; refine (length_at b (off + 1) 63 63 (tail s) _ (unhide HL).symm (unhide HT) (unhide HTB) ?_ ?_).mono ?_; (focus omega); (focus omega); rintro x w2 ⟨rfl, n, rfl⟩; rw [unhide HLN])
        | (go_at_call 13; refine (need_any (lenS s) ?_ _).mono ?_; (focus (have := unhide HLM; omega)); rintro x w2 ⟨rfl, rfl⟩; rw [← unhide HN]))
      go_ret
      exact ⟨ret_int (by rw [unhide HEX, if_pos hc]; rfl), n, rfl⟩
    · have hc' : ¬ ((r.length + 1 : Nat) : Int) < (needN s : Int) := by omega
      go_wp2_with (first
        | (go_at_call 62; refine (length_at b (off + 1) 63 63 (tail s) _ (unhide HL).symm (unhide HT) (unhide HTB) ?_ ?_).mono ?_; (focus omega); (focus omega); rintro x w2 ⟨rfl, n, rfl⟩; rw [unhide HLN])
        | (go_at_call 13; refine (need_any (lenS s) ?_ _).mono ?_; (focus (have := unhide HLM; omega)); rintro x w2 ⟨rfl, rfl⟩; rw [← unhide HN]))
      go_ret
      exact ⟨ret_int (by rw [unhide HEX, if_neg hc]), n, rfl⟩
end Go.Proofs.Ytfceileohkngnaa

/- Contracts: pieces put together. -/
namespace Go.Proofs.Ytfceileohkngnaa
open Go.RowKit
set_option linter.unusedVariables false
set_option maxRecDepth 4000

def joinK (S : List Sct) (k : Nat) : List Int := joinL (S.take k)
theorem joinK_len (S : List Sct) (k : Nat) (h : k ≤ S.length) : (joinK S k).length = 63 * k := by unfold joinK; rw [joinL_len, List.length_take]; omega
theorem joinK_succ (S : List Sct) (k : Nat) (s : Sct) (h : S[k]? = some s) : joinK S (k + 1) = joinK S k ++ tail s := by
  unfold joinK
  have hk : k < S.length := (List.getElem?_eq_some_iff.1 h).1
  rw [List.take_succ_eq_append_getElem hk, joinL_snoc]
  rw [List.getElem?_eq_getElem hk] at h
  rw [Option.some.inj h]
theorem joinK_all (S : List Sct) : joinK S S.length = joinL S := by unfold joinK; rw [List.take_length]

set_option maxHeartbeats 1000000 in
theorem join_any (A : Option Addr) (S : List Sct) (cap : Nat) (w : World) (hA : ScsA w A S) (h1 : 0 < S.length) (hl : S.length ≤ 1000) :
    Calls Try.prog 41 #[.slice A S.length cap] w fun x w' => Below w.heap.size w w' ∧
      ((Marks S ∧ ∃ g c, x = .returned (.tuple #[.slice (some ⟨g, 0, none⟩) (joinL S).length c, .bool true]) ∧ w'.ownsRow w.heap.size 5 1 (.slice (some ⟨g, 0, none⟩) (joinL S).length c) (joinL S).length ((joinL S).map (Value.int .u8))) ∨
        (¬ Marks S ∧ x = .returned (.tuple #[.slice none 0 0, .bool false]))) := by
  obtain ⟨i5, hi5, hz0, hz1, hz2⟩ := info_parts Try.info5
  obtain ⟨b, off, rfl, hr⟩ := hA.range (k := 0) h1
  have hblt : b < w.heap.size := by
    have := hr 0 S[0] (List.getElem?_eq_getElem h1)
    exact World.block_lt_of_cell? _ _ (this 0 _ (bytes_get _ 0 (by omega)))
  have HR := hide hr
  clear hr hA
  go_enter Try.func41, Try.ntmps41
  go_wp2_with (at_make; refine wpList_make_own _ rfl _ _ 23 rfl w.heap.size 5 i5 (.int .u8 0) 1 Try.underlying23 hi5 hz0 hz1 _ _ _ (63 * S.length) rfl rfl ?_ ?_ ?_ (Nat.le_refl _) ?_; (focus (first | omega | (simp; omega))); (focus (rw [hz2]; omega)); (focus (exact maxLen_ge _ (by omega))); intro w1 hown hgrow)
  have hb1 : Below w.heap.size w w1 := (Below.refl _ _).grown hgrow (Nat.le_refl _) (fun k e => by cases e)
  have HO := hide hown
  clear hown hgrow
  go_loopw [4, 12] (fun v i wr => ∃ k : Nat, k ≤ S.length ∧ i = .int .i64 k ∧ Below w.heap.size w wr ∧ wr.ownsRow w.heap.size 5 1 v (joinK S k).length ((joinK S k).map (Value.int .u8)) ∧ ∀ j s, j < k → S[j]? = some s → s.1.getD 0 0 = markI j) (fun _ i _ => S.length - (intOf i).toNat)
  case atStart => exact ⟨0, Nat.zero_le _, rfl, hb1, unhide HO, fun j s h => by omega⟩
  case round =>
    obtain ⟨k, hk, rfl, hbel, hown, hmk⟩ := hrel
    obtain ⟨A', cA, rfl, hbys, hcA⟩ := own_bys hown
    have HOW := hide hown
    have HMK := hide hmk
    clear hown hbys hmk HO
    by_cases hlt : k < S.length
    · obtain ⟨s, hs⟩ : ∃ s, S[k]? = some s := ⟨S[k], List.getElem?_eq_getElem hlt⟩
      have hrk := (unhide HR) k s hs
      have hck : wr.cell? ⟨b, off + k * 64, none⟩ = some (.int .u8 (s.1.getD 0 0)) := by
        have := secs_cell hrk 0 (by omega)
        rw [Nat.add_zero] at this
        rw [hbel.cell (p := ⟨b, off + k * 64, none⟩) hblt]; exact this
      have HT := hide (fun (W : World) (hW : Below w.heap.size w W) => bysA_below (tail_bys hrk) hW)
      obtain ⟨x1, x2⟩ := sct_byte s 0 (by omega)
      obtain ⟨m1, m2⟩ := markI_lim k
      have HSK := hide hs
      have HJ := hide (joinK_succ S k s hs)
      have HJL := hide (joinK_len S k hk)
      have hlt' : (k : Int) < (S.length : Int) := by omega
      have HTL := hide (tail_len s)
      have HM := hide (fun (n : Nat) => mark_any k (by omega) (wr.drewN n))
      by_cases hm : s.1.getD 0 0 = markI k
      · have HME : Hid (∀ j s', j < k + 1 → S[j]? = some s' → s'.1.getD 0 0 = markI j) := fun j s' hj hs' => by
          by_cases e : j = k
          · subst e
            rw [hs] at hs'
            cases hs'
            exact hm
          · exact unhide HMK j s' (by omega) hs'
        generalize s.1.getD 0 0 = x at *
        generalize markI k = m at *
        obtain rfl := hm
        clear hrk hs
        go_wp2
        go_quiet (first | (go_at_call 56; exact Calls.quiet_of_same (unhide HM _)))
        have hbel2 := below_drewN hbel nq
        have HOW2 : Hid ((wr.drewN nq).ownsRow w.heap.size 5 1 (.slice A' (joinK S k).length cA) (joinK S k).length ((joinK S k).map (Value.int .u8))) := unhide HOW
        have HT2 := hide (unhide HT _ hbel2)
        generalize wr.drewN nq = wq at *
        go_wp2_with ((with_reducible refine wpList_appendB _ _ w.heap.size _ (joinK S k) (tail s) ?_ (unhide HOW2) (some ⟨b, off + k * 64 + 1, none⟩) 63 63 ?_ ?_ (unhide HT2) ?_ hbel2.size ?_); (focus rfl); (focus (exact (unhide HTL).symm)); (focus rfl); (focus (rw [unhide HJL, unhide HTL]; omega)); intro v2 w2 hown2 hg2)
        have hob := unhide HOW2
        have hbl : ∀ j, (Value.slice A' (joinK S k).length cA).ownBlock = some j → w.heap.size ≤ j := fun j hj => (own_block hob hj).1
        have hb2 : Below w.heap.size w w2 := hbel2.grown hg2 hbel2.size hbl
        rw [← unhide HJ] at hown2
        clear hob hbl hg2
        go_roundw
        case rel => exact ⟨k + 1, by omega, by go_num, hb2, hown2, unhide HME⟩
        case measure => simp [intOf]; omega
      · have HNM : Hid (¬ Marks S) := fun h => hm (h k s hs)
        have hm' : (s.1.getD 0 0 == markI k) = false := by simpa using hm
        generalize s.1.getD 0 0 = x at *
        generalize markI k = m at *
        clear hrk hs
        go_wp2
        go_quiet (first | (go_at_call 56; exact Calls.quiet_of_same (unhide HM _)))
        have hbel2 := below_drewN hbel nq
        generalize wr.drewN nq = wq at *
        go_wp2
        go_ret2
        exact ⟨hbel2, .inr ⟨unhide HNM, rfl⟩⟩
    · obtain rfl : k = S.length := by omega
      have HM : Hid (Marks S) := fun i s hs => unhide HMK i s (List.getElem?_eq_some_iff.1 hs).1 hs
      have HJL := joinK_len S S.length (Nat.le_refl _)
      obtain ⟨g, c, e1, _⟩ := own_bys1 (unhide HOW) (by omega)
      cases e1
      have HJA := hide (joinK_all S)
      clear HJL
      go_wp2
      go_ret2
      refine ⟨hbel, .inl ⟨unhide HM, g, cA, ?_⟩⟩
      rw [← unhide HJA]
      exact ⟨rfl, unhide HOW⟩
end Go.Proofs.Ytfceileohkngnaa

/- Contracts: a record out of its bytes. -/
namespace Go.Proofs.Ytfceileohkngnaa
open Go.RowKit
set_option linter.unusedVariables false
set_option maxRecDepth 4000

def num4 (l : List Int) : Int := l.getD 0 0 * 16777216 + l.getD 1 0 * 65536 + l.getD 2 0 * 256 + l.getD 3 0
theorem num4_lim {l : List Int} (h : Byt l) : 0 ≤ num4 l ∧ num4 l ≤ 4294967295 := by
  have h0 := h 0
  have h1 := h 1
  have h2 := h 2
  have h3 := h 3
  unfold num4; omega
theorem bys_drop {W : World} {b off : Nat} {bs : List Int} (h : BysA W (some ⟨b, off, none⟩) bs) (k : Nat) : BysA W (some ⟨b, off + k, none⟩) (bs.drop k) := by
  intro hne
  obtain ⟨b', off', e, hc⟩ := h (by rintro rfl; simp at hne)
  cases e
  refine ⟨b, off + k, rfl, fun i hi => ?_⟩
  rw [List.length_drop] at hi
  rw [List.getD_eq_getElem?_getD, List.getElem?_drop, ← List.getD_eq_getElem?_getD, Nat.add_assoc]
  exact hc (k + i) (by omega)
theorem number_drop {W : World} {b off : Nat} {bs : List Int} (h : BysA W (some ⟨b, off, none⟩) bs) (hB : Byt bs) (hl : bs.length ≤ 100000) (k : Nat) (hk : k + 4 ≤ bs.length) (n cap : Nat) (hn : n = bs.length - k) :
    Calls Try.prog 63 #[.slice (some ⟨b, off + k, none⟩) n cap] W fun e w' => e = .returned (.int .u32 (num4 (bs.drop k))) ∧ ∃ n, w' = W.drewN n :=
  number_at b (off + k) n cap (bs.drop k) W (by rw [List.length_drop]; exact hn) (bys_drop h k) (byt_drop hB k) (by omega) (by omega)

theorem heap_cell {w : World} {g : Nat} {c : Array Value} {t : TypeId} (h : w.heap[g]? = some (.cells c t (0, 0))) (i : Nat) : w.cell? ⟨g, i, none⟩ = c[i]? ∧ w.frozen? ⟨g, i, none⟩ = false := by
  refine ⟨by rw [cell_of_row w g i _ _ _ h], ?_⟩
  simp [World.frozen?, h]
theorem heap_set {w : World} {g : Nat} {c : Array Value} {t : TypeId} (h : w.heap[g]? = some (.cells c t (0, 0))) (i : Nat) (v : Value) : (w.setCell ⟨g, i, none⟩ v).heap[g]? = some (.cells (c.setIfInBounds i v) t (0, 0)) := by
  simp only [World.setCell, Array.getElem?_modify, if_true, h, Option.map_some]
  rfl
theorem heap_range {w : World} {g : Nat} {c : Array Value} {t : TypeId} (h : w.heap[g]? = some (.cells c t (0, 0))) : w.rangeAt g 0 c.toList := by
  intro j v hv
  rw [Nat.zero_add, cell_of_row w g j _ _ _ h]
  simpa using hv
theorem run_loadC {w : World} {g : Nat} {c : Array Value} {t ty : TypeId} {d : TypeDesc} (h : w.heap[g]? = some (.cells c t (0, 0))) (hu : Try.prog.underlying ty = some d) (hd : d.isRow = true) (hi : (Try.prog.info? ty).map (·.size) = some c.size) :
    (loadVar ty ⟨g, 0, none⟩).run Try.prog w = .ok (.agg c) w := by
  have := run_loadVar_mid (P := Try.prog) w g 0 ty c.toList d (heap_range h) hu hd (by rw [Array.length_toList]; exact hi)
  simpa using this
theorem ret_cell1 {fn : Func} {p : Tmp} {ty : TypeId} (hf : fn.results = #[.cell p ty]) {a : Act} {w : World} {g : Nat} {c : Array Value} {t : TypeId} {d : TypeDesc} {R : Ending → World → Prop} (hd : a.defers = []) (hp : a.tmps.getD p undef = .pointer (some ⟨g, 0, none⟩))
    (h : w.heap[g]? = some (.cells c t (0, 0))) (hu : Try.prog.underlying ty = some d) (hd' : d.isRow = true) (hi : (Try.prog.info? ty).map (·.size) = some c.size) (hR : R (.returned (.agg c)) w) : bodyPost Try.prog fn R .ret a w := by
  refine bodyPost_ret (v := .agg c) ?_ hd hR
  rw [results_cell hf, hp]
  simp only [asAddr, Sem.run_pure, Result.andThen_ok, run_loadC h hu hd' hi]
theorem ret_cell2 {fn : Func} {p u : Tmp} {ty : TypeId} (hf : fn.results = #[.cell p ty, .tmp u]) {a : Act} {w : World} {g : Nat} {c : Array Value} {t : TypeId} {d : TypeDesc} {x : Value} {R : Ending → World → Prop} (hd : a.defers = []) (hp : a.tmps.getD p undef = .pointer (some ⟨g, 0, none⟩)) (hx : a.tmps.getD u undef = x)
    (h : w.heap[g]? = some (.cells c t (0, 0))) (hu : Try.prog.underlying ty = some d) (hd' : d.isRow = true) (hi : (Try.prog.info? ty).map (·.size) = some c.size) (hR : R (.returned (.tuple #[.agg c, x])) w) : bodyPost Try.prog fn R .ret a w := by
  refine bodyPost_ret (v := .tuple #[.agg c, x]) ?_ hd hR
  rw [results_cell_tmp hf, hp, hx]
  simp only [asAddr, Sem.run_pure, Result.andThen_ok, run_loadC h hu hd' hi]
theorem results_cell3 {fn : Func} {p u u' : Tmp} {ty : TypeId} (h : fn.results = #[.cell p ty, .tmp u, .tmp u']) (tmps : Array Value) (P : Program) (w : World) :
    (results fn tmps).run P w = ((asAddr (tmps.getD p undef)).run P w).andThen fun a w₁ => ((loadVar ty a).run P w₁).andThen fun v w₂ => .ok (.tuple #[v, tmps.getD u undef, tmps.getD u' undef]) w₂ := by
  simp only [results, h]
  simp [Sem.run_bind, Result.andThen]
theorem ret_cell3 {fn : Func} {p u u' : Tmp} {ty : TypeId} (hf : fn.results = #[.cell p ty, .tmp u, .tmp u']) {a : Act} {w : World} {g : Nat} {c : Array Value} {t : TypeId} {d : TypeDesc} {x y : Value} {R : Ending → World → Prop} (hd : a.defers = []) (hp : a.tmps.getD p undef = .pointer (some ⟨g, 0, none⟩)) (hx : a.tmps.getD u undef = x) (hy : a.tmps.getD u' undef = y)
    (h : w.heap[g]? = some (.cells c t (0, 0))) (hu : Try.prog.underlying ty = some d) (hd' : d.isRow = true) (hi : (Try.prog.info? ty).map (·.size) = some c.size) (hR : R (.returned (.tuple #[.agg c, x, y])) w) : bodyPost Try.prog fn R .ret a w := by
  refine bodyPost_ret (v := .tuple #[.agg c, x, y]) ?_ hd hR
  rw [results_cell3 hf, hp, hx, hy]
  simp only [asAddr, Sem.run_pure, Result.andThen_ok, run_loadC h hu hd' hi]
theorem Try.size87 : (Try.prog.info? 87).map (·.size) = some 3 := by kernel_rfl
theorem Try.size89 : (Try.prog.info? 89).map (·.size) = some 4 := by kernel_rfl
theorem Try.size25 : (Try.prog.info? 25).map (·.size) = some 4 := by kernel_rfl

set_option maxHeartbeats 1000000 in
theorem readHead_any (b off cap : Nat) (bs : List Int) (w : World) (hb : BysA w (some ⟨b, off, none⟩) bs) (hB : Byt bs) (hl : bs.length ≤ 10000) (h9 : 9 ≤ bs.length) (hcap : bs.length ≤ cap) :
    Calls Try.prog 65 #[.slice (some ⟨b, off, none⟩) bs.length cap] w fun x w' => x = .returned (.agg #[.int .u8 (bs.getD 0 0), .int .u32 (num4 (bs.drop 1)), .int .u32 (num4 (bs.drop 5))]) ∧ Below w.heap.size w w' := by
  obtain ⟨b', off', e, hc⟩ := hb (by rintro rfl; simp at h9)
  cases e
  have hc0 := hc 0 (by omega)
  rw [Nat.add_zero] at hc0
  have hblt : b < w.heap.size := World.block_lt_of_cell? _ _ hc0
  obtain ⟨P, HP⟩ : ∃ P : Nat → Int, Hid (P = fun k => num4 (bs.drop k)) := ⟨_, rfl⟩
  have HN : Hid (∀ (W : World) (hW : Below w.heap.size w W) (k : Nat) (hk : k + 4 ≤ bs.length) (n c : Nat) (hn : n = bs.length - k), Calls Try.prog 63 #[.slice (some ⟨b, off + k, none⟩) n c] W fun e w' => e = .returned (.int .u32 (P k)) ∧ ∃ n, w' = W.drewN n) := fun W hW k hk n c hn => by
    rw [unhide HP]; exact number_drop (bysA_below hb hW) hB (by omega) k hk n c hn
  have HP1 : Hid (num4 (bs.drop 1) = P 1) := by show _ = _; rw [unhide HP]
  have HP5 : Hid (num4 (bs.drop 5) = P 5) := by show _ = _; rw [unhide HP]
  obtain ⟨x1, x2⟩ := hB 0
  generalize bs.getD 0 0 = x0 at *
  clear hc hb hB HP
  generalize bs.length = N at *
  obtain ⟨M, rfl⟩ : ∃ M, N = M + 9 := ⟨N - 9, by omega⟩
  have i0 : (0 : Int) < (M : Int) + 9 := by omega
  have i1 : (1 : Int) ≤ (M : Int) + 9 := by omega
  have i5 : (5 : Int) ≤ (M : Int) + 9 := by omega
  have ic : (M : Int) + 9 ≤ (cap : Int) := by omega
  have q1 : ¬ cap = 1 := by omega
  have q5 : ¬ cap = 5 := by omega
  clear h9 hcap hl
  go_enter Try.func65, Try.ntmps65
  go_wp2
  have hbel : Below w.heap.size w (w.alloc (.cells #[.int .u8 0, .int .u32 0, .int .u32 0] 87)) := below_alloc (Below.refl _ _) _
  have hnew : (w.alloc (.cells #[.int .u8 0, .int .u32 0, .int .u32 0] 87)).heap[w.heap.size]? = some (.cells #[.int .u8 0, .int .u32 0, .int .u32 0] 87 (0, 0)) := heap_alloc_last _ _
  generalize w.alloc (.cells #[.int .u8 0, .int .u32 0, .int .u32 0] 87) = w1 at *
  obtain ⟨bx, hbx⟩ : ∃ bx, w.heap.size = bx := ⟨_, rfl⟩
  have HBX := hide (Nat.le_of_eq hbx)
  rw [hbx] at hnew ⊢
  have n0 := (heap_cell hnew 0).1
  have n1 := (heap_cell hnew 1).1
  have n2 := (heap_cell hnew 2).1
  have f0 := (heap_cell hnew 0).2
  have f1 := (heap_cell hnew 1).2
  have f2 := (heap_cell hnew 2).2
  have hw1 : Below w.heap.size w w1 := hbel
  have hc1 : w1.cell? ⟨b, off, none⟩ = some (.int .u8 x0) := (hbel.cell (p := ⟨b, off, none⟩) hblt).trans hc0
  have HKEEP := hide (fun (W : World) (h : Below w.heap.size w W) => (⟨h, (h.cell (p := ⟨b, off, none⟩) hblt).trans hc0⟩ : Below w.heap.size w W ∧ W.cell? ⟨b, off, none⟩ = some (.int .u8 x0)))
  have HNEW := hide hnew
  clear hbx hnew hbel hc0
  go_region_held3 (fun W => Below w.heap.size w W ∧ W.cell? ⟨b, off, none⟩ = some (.int .u8 x0)) ((go_split_ands; refine unhide HKEEP _ ?_; repeat (first | assumption | (with_reducible refine Below.drew ?_) | (with_reducible refine below_drewN ?_ _) | (with_reducible refine below_set ?_ _ _ _ (unhide HBX)))))
    (first
      | (go_at_call 63; go_split_ands; refine (unhide HN _ ?_ _ ?_ _ _ ?_).mono ?_; (focus (repeat (first | assumption | (with_reducible refine Below.drew ?_) | (with_reducible refine below_drewN ?_ _)))); (focus (clear i0 i1 i5 ic q1 q5; omega)); (focus (clear i0 i1 i5 ic q1 q5; omega)); rintro x w2 ⟨rfl, n, rfl⟩))
  all_goals
    have hfin : ∀ k, (((((w1.drewN k).setCell ⟨bx, 0, none⟩ (.int .u8 x0)).setCell ⟨bx, 1, none⟩ (.int .u32 (P 1))).setCell ⟨bx, 2, none⟩ (.int .u32 (P 5))).heap[bx]? = some (.cells #[.int .u8 x0, .int .u32 (P 1), .int .u32 (P 5)] 87 (0, 0))) := fun k => heap_set (heap_set (heap_set (show (w1.drewN k).heap[bx]? = _ from unhide HNEW) 0 _) 1 _) 2 _
    have hbf : ∀ k, Below w.heap.size w ((((w1.drewN k).setCell ⟨bx, 0, none⟩ (.int .u8 x0)).setCell ⟨bx, 1, none⟩ (.int .u32 (P 1))).setCell ⟨bx, 2, none⟩ (.int .u32 (P 5))) := fun k => below_set (below_set (below_set (below_drewN hw1 k) _ _ _ (unhide HBX)) _ _ _ (unhide HBX)) _ _ _ (unhide HBX)
    clear n0 n1 n2 f0 f1 f2 hc1
    go_wp2
    exact ret_cell1 rfl rfl rfl (hfin _) Try.underlying87 rfl Try.size87 ⟨by rw [unhide HP1, unhide HP5], hbf _⟩
end Go.Proofs.Ytfceileohkngnaa

/- Contracts: a record out of its bytes. -/
namespace Go.Proofs.Ytfceileohkngnaa
open Go.RowKit
set_option linter.unusedVariables false
set_option maxRecDepth 4000

def lenL (bs : List Int) : Int := bs.getD 9 0 * 256 + bs.getD 10 0
/-- The sum holds, and what stands behind it is 0. -/
def Whole (bs : List Int) (e : Nat) : Prop := num4 (bs.drop e) = more 1 (bs.take e) ∧ (bs.drop (e + 4)).all (· == 0) = true

theorem bys_take {W : World} {b off : Nat} {bs : List Int} (h : BysA W (some ⟨b, off, none⟩) bs) (k : Nat) : BysA W (some ⟨b, off, none⟩) (bs.take k) := bysA_take h k

theorem sum_at {W : World} {A : Option Addr} {bs : List Int} (hb : BysA W A bs) (hB : Byt bs) (hl : bs.length ≤ 20000) (n c N : Nat) (hn : n = bs.length) (hc : W.cell? ⟨N, 0, none⟩ = some (.slice A n c)) :
    Calls Try.prog 59 #[.slice (some ⟨N, 0, none⟩) 1 1] W fun e w' => e = .returned (.int .u32 (more 1 bs)) ∧ w' = W := by
  subst hn
  exact sum1 hB hl W N (one_part hc hb)

theorem cell_litD {X : World} {N i k : Nat} {c : Array Value} {t : TypeId} {r : Nat × Nat} {v : Value} (h : N = X.heap.size) (hc : c[i]? = some v) : ((X.alloc (.cells c t r)).drewN k).cell? ⟨N, i, none⟩ = some v := cell_lit h hc

set_option maxHeartbeats 1000000 in
theorem readRecord_yes (b off cap L : Nat) (bs : List Int) (w : World) (hb : BysA w (some ⟨b, off, none⟩) bs) (hB : Byt bs) (hl : bs.length ≤ 10000) (h15 : 11 + L + 4 ≤ bs.length) (hcap : bs.length ≤ cap) (he : (L : Int) = lenL bs) (hW : Whole bs (11 + L)) :
    Calls Try.prog 42 #[.slice (some ⟨b, off, none⟩) bs.length cap] w fun x w' => x = .returned (.tuple #[.agg #[.int .u8 (bs.getD 0 0), .int .u32 (num4 (bs.drop 1)), .int .u32 (num4 (bs.drop 5)), .slice (some ⟨b, off + 11, none⟩) L (cap - 11)], .bool true]) ∧ Below w.heap.size w w' := by
  obtain ⟨hW1, hW2⟩ := hW
  obtain ⟨P, HP⟩ : ∃ P : Int, Hid (P = num4 (bs.drop (11 + L))) := ⟨_, rfl⟩
  have HN : Hid (∀ (W : World) (hW : Below w.heap.size w W) (n c : Nat) (hn : n = bs.length - (11 + L)), Calls Try.prog 63 #[.slice (some ⟨b, off + (11 + L), none⟩) n c] W fun x w' => x = .returned (.int .u32 P) ∧ ∃ n, w' = W.drewN n) := fun W hW n c hn => by
    rw [unhide HP]; exact number_drop (bysA_below hb hW) hB (by omega) (11 + L) h15 n c hn
  have HS : Hid (∀ (W : World) (hW : Below w.heap.size w W) (n c N : Nat) (hn : n = 11 + L) (hc : W.cell? ⟨N, 0, none⟩ = some (.slice (some ⟨b, off, none⟩) n c)), Calls Try.prog 59 #[.slice (some ⟨N, 0, none⟩) 1 1] W fun x w' => x = .returned (.int .u32 P) ∧ w' = W) := fun W hW n c N hn hc => by
    rw [unhide HP, hW1]
    exact sum_at (bys_take (bysA_below hb hW) (11 + L)) (byt_take hB (11 + L)) (by rw [List.length_take]; omega) n c N (by rw [List.length_take]; omega) hc
  have HS1 : Hid (∀ (X : World) (hX : Below w.heap.size w X) (N : Nat) (hN : N = X.heap.size), Calls Try.prog 59 #[.slice (some ⟨N, 0, none⟩) 1 1] (X.alloc (.cells #[.slice (some ⟨b, off, none⟩) (11 + L) cap] 23)) fun x w' => x = .returned (.int .u32 P) ∧ w' = X.alloc (.cells #[.slice (some ⟨b, off, none⟩) (11 + L) cap] 23)) := fun X hX N hN => unhide HS _ (below_alloc hX _) _ cap _ rfl (cell_lit hN rfl)
  have HS2 : Hid (∀ (X : World) (hX : Below w.heap.size w X) (N k : Nat) (hN : N = X.heap.size), Calls Try.prog 59 #[.slice (some ⟨N, 0, none⟩) 1 1] ((X.alloc (.cells #[.slice (some ⟨b, off, none⟩) (11 + L) cap] 23)).drewN k) fun x w' => x = .returned (.int .u32 P) ∧ w' = (X.alloc (.cells #[.slice (some ⟨b, off, none⟩) (11 + L) cap] 23)).drewN k) := fun X hX N k hN => unhide HS _ (below_drewN (below_alloc hX _) k) _ cap _ rfl (cell_litD hN rfl)
  have HBL : Hid (∀ (W : World) (hW : Below w.heap.size w W) (A : Option Addr) (n c : Nat) (hn : n = bs.length - (11 + L + 4)) (hA : A = some ⟨b, off + (11 + L + 4), none⟩ ∨ bs.length ≤ 11 + L + 4), Calls Try.prog 64 #[.slice A n c] W fun x w' => x = .returned (.bool true) ∧ w' = W) := fun W hW A n c hn hA => by
    have hby : BysA W A (bs.drop (11 + L + 4)) := by
      rcases hA with rfl | hA
      · exact bys_drop (bysA_below hb hW) (11 + L + 4)
      · rw [List.drop_of_length_le hA]; exact bysA_nil _ _
    have := blank_at A n c (bs.drop (11 + L + 4)) W (by rw [List.length_drop]; exact hn) hby (byt_drop hB _) (by omega)
    rw [hW2] at this
    exact this
  have HL : Hid (Calls Try.prog 62 #[.slice (some ⟨b, off, none⟩) bs.length cap] (w.alloc (.cells #[.int .u8 0, .int .u32 0, .int .u32 0, .slice none 0 0] 89)) fun x w' => x = .returned (.int .i64 (L : Int)) ∧ ∃ n, w' = (w.alloc (.cells #[.int .u8 0, .int .u32 0, .int .u32 0, .slice none 0 0] 89)).drewN n) := by
    have := length_any b off cap bs _ (bysA_alloc hb (.cells #[.int .u8 0, .int .u32 0, .int .u32 0, .slice none 0 0] 89)) hB (by omega) (by omega)
    rw [he]
    exact this
  have HH : Hid (∀ (W : World) (hW : Below w.heap.size w W), Calls Try.prog 65 #[.slice (some ⟨b, off, none⟩) bs.length cap] W fun x w' => x = .returned (.agg #[.int .u8 (bs.getD 0 0), .int .u32 (num4 (bs.drop 1)), .int .u32 (num4 (bs.drop 5))]) ∧ Below W.heap.size W w') := fun W hW =>
    readHead_any b off cap bs W (bysA_below hb hW) hB hl (by omega) hcap
  generalize bs.getD 0 0 = x0 at *
  generalize num4 (bs.drop 1) = p1 at *
  generalize num4 (bs.drop 5) = p5 at *
  generalize bs.length = n at *
  clear hb hB hW1 hW2 he HP
  have i0 : (0 : Int) ≤ 11 + (L : Int) := by omega
  have i1 : 11 + (L : Int) ≤ (n : Int) := by omega
  have i2 : (n : Int) ≤ (cap : Int) := by omega
  have i3 : 11 + (L : Int) + 4 ≤ (n : Int) := by omega
  have i4 : 11 + (L : Int) ≤ (cap : Int) := by omega
  have i5 : (0 : Int) ≤ 11 + (L : Int) + 4 := by omega
  have i6 : (11 : Int) ≤ 11 + (L : Int) := by omega
  have i7 : (L : Int) ≤ 10000 := by omega
  have q1 : ¬ cap = 11 + L := by omega
  have q3 : ¬ cap = 11 := by omega
  have t1 : (11 + (L : Int)).toNat = 11 + L := by omega
  have t2 : (11 + (L : Int) + 4).toNat = 11 + L + 4 := by omega
  have u1 : IntKind.i64.wrap (11 + (L : Int) + 4) = 11 + (L : Int) + 4 := by rw [IntKind.wrap_i64]; omega
  have HQ := hide (And.intro h15 hcap)
  clear h15 hcap hl
  have q2 : (cap = 11 + L + 4) = True ∨ (cap = 11 + L + 4) = False := by by_cases h : cap = 11 + L + 4 <;> simp [h]
  have HQ2 : Hid ((cap = 11 + L + 4) = True → n ≤ 11 + L + 4) := fun h => by have := of_eq_true h; have := (unhide HQ).2; omega
  go_enter Try.func42, Try.ntmps42
  rcases q2 with q2 | q2
  all_goals
    go_wp2_with (go_at_call 62; refine (unhide HL).mono ?_; rintro x w2 ⟨rfl, nd, rfl⟩)
    have hbel : Below w.heap.size w ((w.alloc (.cells #[.int .u8 0, .int .u32 0, .int .u32 0, .slice none 0 0] 89)).drewN nd) := below_drewN (below_alloc (Below.refl _ _) _) nd
    have hnew : ((w.alloc (.cells #[.int .u8 0, .int .u32 0, .int .u32 0, .slice none 0 0] 89)).drewN nd).heap[w.heap.size]? = some (.cells #[.int .u8 0, .int .u32 0, .int .u32 0, .slice none 0 0] 89 (0, 0)) := heap_alloc_last _ _
    generalize (w.alloc (.cells #[.int .u8 0, .int .u32 0, .int .u32 0, .slice none 0 0] 89)).drewN nd = w1 at *
    have HNEW := hide hnew
    clear hnew
    go_region_held3 (fun W => Below w.heap.size w W) ((repeat (first | assumption | (with_reducible refine Below.drew ?_) | (with_reducible refine below_drewN ?_ _) | (with_reducible refine below_alloc ?_ _))))
      (first
        | (go_at_call 63; refine (unhide HN _ ?_ _ _ ?_).mono ?_; (focus (repeat (first | assumption | (with_reducible refine Below.drew ?_) | (with_reducible refine below_drewN ?_ _) | (with_reducible refine below_alloc ?_ _)))); (focus (have := (unhide HQ).1; omega)); rintro x w2 ⟨rfl, nn, rfl⟩)
        | (go_at_call 59; (with_reducible refine (unhide HS1 _ ?_ _ ?_).mono ?_); (focus (repeat (first | assumption | (with_reducible refine Below.drew ?_) | (with_reducible refine below_drewN ?_ _) | (with_reducible refine below_alloc ?_ _)))); (focus rfl); rintro x w2 ⟨rfl, rfl⟩)
        | (go_at_call 59; (with_reducible refine (unhide HS2 _ ?_ _ _ ?_).mono ?_); (focus (repeat (first | assumption | (with_reducible refine Below.drew ?_) | (with_reducible refine below_drewN ?_ _) | (with_reducible refine below_alloc ?_ _)))); (focus rfl); rintro x w2 ⟨rfl, rfl⟩)
        | (go_at_call 59; trace_state; fail)
        | (go_at_call 64; refine (unhide HBL _ ?_ _ _ _ ?_ ?_).mono ?_; (focus (repeat (first | assumption | (with_reducible refine Below.drew ?_) | (with_reducible refine below_drewN ?_ _) | (with_reducible refine below_alloc ?_ _)))); (focus (have := (unhide HQ).1; omega)); (focus (first | exact .inl rfl | exact .inr (unhide HQ2 q2))); rintro x w2 ⟨rfl, rfl⟩))
    all_goals
      have hfix : ∀ X : World, Below w1.heap.size w1 X → X.heap[w.heap.size]? = some (.cells #[.int .u8 0, .int .u32 0, .int .u32 0, .slice none 0 0] 89 (0, 0)) := fun X hX => (hX.block _ (lt_of_get (unhide HNEW))).trans (unhide HNEW)
      have HF := hide hfix
      clear hfix
      obtain ⟨w3, hw3⟩ : ∃ w3, (w1.drewN (1 + nn)).alloc (.cells #[.slice (some ⟨b, off, none⟩) (11 + L) cap] 23) = w3 := ⟨_, rfl⟩
      obtain ⟨w3', hw3'⟩ : ∃ w3', (w1.alloc (.cells #[.slice (some ⟨b, off, none⟩) (11 + L) cap] 23)).drewN (1 + nn) = w3' := ⟨_, rfl⟩
      have hb13 : Below w1.heap.size w1 w3 := by rw [← hw3]; exact below_alloc (below_drewN (Below.refl _ _) _) _
      have hb13' : Below w1.heap.size w1 w3' := by rw [← hw3']; exact below_drewN (below_alloc (Below.refl _ _) _) _
      first | (rw [hw3]; clear hw3 hw3' hb13' w3') | (rw [hw3']; clear hw3 hw3' hb13 w3; obtain ⟨w3, hq3⟩ : ∃ w3, w3 = w3' := ⟨_, rfl⟩; subst hq3; have hb13 := hb13'; clear hb13')
      have hb03 : Below w.heap.size w w3 := below_then hbel hb13
      go_wp2
      go_region_held3 (fun W => Below w.heap.size w W) ((repeat (first | assumption | (with_reducible refine Below.drew ?_) | (with_reducible refine below_drewN ?_ _) | (with_reducible refine below_alloc ?_ _) | (with_reducible refine below_set ?_ _ _ _ (Nat.le_refl _))))) (first
        | (go_at_call 65; refine (unhide HH _ ?_).mono ?_; (focus (repeat (first | assumption | (with_reducible refine Below.drew ?_) | (with_reducible refine below_drewN ?_ _) | (with_reducible refine below_alloc ?_ _) | (with_reducible refine below_set ?_ _ _ _ (Nat.le_refl _))))); rintro x w4 ⟨rfl, hb4⟩; have hb5 : Below w.heap.size w w4 := (below_then (by repeat (first | assumption | (with_reducible refine Below.drew ?_) | (with_reducible refine below_drewN ?_ _) | (with_reducible refine below_alloc ?_ _) | (with_reducible refine below_set ?_ _ _ _ (Nat.le_refl _)))) hb4); have hn4 := unhide HF w4 (below_then (by repeat (first | assumption | (with_reducible refine Below.drew ?_))) hb4); have n0 := (heap_cell hn4 0).1; have n1 := (heap_cell hn4 1).1; have n2 := (heap_cell hn4 2).1; have n3 := (heap_cell hn4 3).1; have f0 := (heap_cell hn4 0).2; have f1 := (heap_cell hn4 1).2; have f2 := (heap_cell hn4 2).2; have f3 := (heap_cell hn4 3).2; have HN4 := hide hn4; clear hn4))
      all_goals
        have hfin := heap_set (heap_set (heap_set (heap_set (unhide HN4) 0 (.int .u8 x0)) 1 (.int .u32 p1)) 2 (.int .u32 p5)) 3 (.slice (some ⟨b, off + 11, none⟩) L (cap - 11))
        have hbf := below_set (below_set (below_set (below_set hb5 w.heap.size 0 (.int .u8 x0) (Nat.le_refl _)) w.heap.size 1 (.int .u32 p1) (Nat.le_refl _)) w.heap.size 2 (.int .u32 p5) (Nat.le_refl _)) w.heap.size 3 (.slice (some ⟨b, off + 11, none⟩) L (cap - 11)) (Nat.le_refl _)
        have HFI := hide hfin
        have HBF := hide hbf
        clear n0 n1 n2 n3 f0 f1 f2 f3 hfin hbf
        go_wp2
        exact ret_cell2 rfl rfl rfl rfl (unhide HFI) Try.underlying89 rfl Try.size89 ⟨rfl, unhide HBF⟩
end Go.Proofs.Ytfceileohkngnaa

/- Contract: Decode, where there is an entry. -/
namespace Go.Proofs.Ytfceileohkngnaa
open Go.RowKit
set_option linter.unusedVariables false
set_option maxRecDepth 4000

theorem cset4 {W : World} {bx i : Nat} {v a0 a1 a2 a3 : Value} (h : W.cell? ⟨bx, i, none⟩ = some v) : ((((W.setCell ⟨bx + 1, 0, none⟩ a0).setCell ⟨bx + 1, 1, none⟩ a1).setCell ⟨bx + 1, 2, none⟩ a2).setCell ⟨bx + 1, 3, none⟩ a3).cell? ⟨bx, i, none⟩ = some v := by
  have hne : ∀ (X : World) (j : Nat) (u : Value), (X.setCell ⟨bx + 1, j, none⟩ u).cell? ⟨bx, i, none⟩ = X.cell? ⟨bx, i, none⟩ := fun X j u => World.cell?_setCell_other _ _ _ _ (by intro e; cases e)
  rw [hne, hne, hne, hne]; exact h

theorem own_set {W : World} {base g : Nat} {v : Value} {n : Nat} {xs : List Value} {c : Array Value} (h : W.ownsRow base 5 1 v n xs) (hg : W.heap[g]? = some (.cells c 25 (0, 0))) (j : Nat) (u : Value) : (W.setCell ⟨g, j, none⟩ u).ownsRow base 5 1 v n xs := by
  refine own_of_block h (fun k hk => ?_)
  obtain ⟨_, cur, hcur⟩ := own_block h hk
  refine Below.heap_setCell _ _ _ _ ?_
  rintro rfl
  rw [hg] at hcur
  cases hcur
theorem own_set4 {W : World} {base g : Nat} {v : Value} {n : Nat} {xs : List Value} {c : Array Value} (h : W.ownsRow base 5 1 v n xs) (hg : W.heap[g]? = some (.cells c 25 (0, 0))) (a0 a1 a2 a3 : Value) : ((((W.setCell ⟨g, 0, none⟩ a0).setCell ⟨g, 1, none⟩ a1).setCell ⟨g, 2, none⟩ a2).setCell ⟨g, 3, none⟩ a3).ownsRow base 5 1 v n xs :=
  own_set (own_set (own_set (own_set h hg 0 a0) (heap_set hg 0 a0) 1 a1) (heap_set (heap_set hg 0 a0) 1 a1) 2 a2) (heap_set (heap_set (heap_set hg 0 a0) 1 a1) 2 a2) 3 a3
theorem heap_set4 {W : World} {g : Nat} {x0 x1 x2 x3 : Value} {t : TypeId} (hg : W.heap[g]? = some (.cells #[x0, x1, x2, x3] t (0, 0))) (a0 a1 a2 a3 : Value) : ((((W.setCell ⟨g, 0, none⟩ a0).setCell ⟨g, 1, none⟩ a1).setCell ⟨g, 2, none⟩ a2).setCell ⟨g, 3, none⟩ a3).heap[g]? = some (.cells #[a0, a1, a2, a3] t (0, 0)) :=
  heap_set (heap_set (heap_set (heap_set hg 0 a0) 1 a1) 2 a2) 3 a3
theorem below_set4 {w0 w' : World} (h : Below w0.heap.size w0 w') (g : Nat) (hg : w0.heap.size ≤ g) (a0 a1 a2 a3 : Value) : Below w0.heap.size w0 ((((w'.setCell ⟨g, 0, none⟩ a0).setCell ⟨g, 1, none⟩ a1).setCell ⟨g, 2, none⟩ a2).setCell ⟨g, 3, none⟩ a3) :=
  below_set (below_set (below_set (below_set h g 0 a0 hg) g 1 a1 hg) g 2 a2 hg) g 3 a3 hg

set_option maxHeartbeats 1000000 in
theorem entry_any (k e s : Int) (hk : 0 ≤ k ∧ k ≤ 255) (b off cap : Nat) (bs : List Int) (w : World) (hb : BysA w (some ⟨b, off, none⟩) bs) (hl : bs.length ≤ 10000) :
    Calls Try.prog 43 #[.agg #[.int .u8 k, .int .u32 e, .int .u32 s, .slice (some ⟨b, off, none⟩) bs.length cap]] w fun x w' => ∃ v, x = .returned (.agg #[.int .i64 k, .int .u32 e, .int .u32 s, v]) ∧ w'.ownsRow w.heap.size 5 1 v bs.length (bs.map (Value.int .u8)) ∧ Below w.heap.size w w' := by
  obtain ⟨k1, k2⟩ := hk
  have HCL : Hid (∀ (W : World) (hW : Below w.heap.size w W), Calls Try.prog 66 #[.slice (some ⟨b, off, none⟩) bs.length cap] W fun x w' => ∃ A c, x = .returned (.slice A bs.length c) ∧ w'.ownsRow w.heap.size 5 1 (.slice A bs.length c) bs.length (bs.map (Value.int .u8)) ∧ Below W.heap.size W w') := fun W hW => by
    refine (clone_any b off cap bs W (bysA_below hb hW) (by omega)).mono ?_
    rintro x w' ⟨v, rfl, ho, hb'⟩
    obtain ⟨A, c, rfl, _⟩ := own_bys ho
    exact ⟨A, c, rfl, own_mono ho hW.size, hb'⟩
  generalize bs.length = n at *
  generalize bs.map (Value.int .u8) = xs at *
  clear hb
  have c0 : (w.alloc (.cells #[.int .u8 k, .int .u32 e, .int .u32 s, .slice (some ⟨b, off, none⟩) n cap] 89)).cell? ⟨w.heap.size, 0, none⟩ = some (.int .u8 k) := cell_lit rfl rfl
  have c1 : (w.alloc (.cells #[.int .u8 k, .int .u32 e, .int .u32 s, .slice (some ⟨b, off, none⟩) n cap] 89)).cell? ⟨w.heap.size, 1, none⟩ = some (.int .u32 e) := cell_lit rfl rfl
  have c2 : (w.alloc (.cells #[.int .u8 k, .int .u32 e, .int .u32 s, .slice (some ⟨b, off, none⟩) n cap] 89)).cell? ⟨w.heap.size, 2, none⟩ = some (.int .u32 s) := cell_lit rfl rfl
  have c3 : (w.alloc (.cells #[.int .u8 k, .int .u32 e, .int .u32 s, .slice (some ⟨b, off, none⟩) n cap] 89)).cell? ⟨w.heap.size, 3, none⟩ = some (.slice (some ⟨b, off, none⟩) n cap) := cell_lit rfl rfl
  have hwr : IntKind.i64.wrap k = k := by rw [IntKind.wrap_i64]; omega
  go_enter Try.func43, Try.ntmps43
  go_wp2
  have hb0 : Below w.heap.size w (w.alloc (.cells #[.int .u8 k, .int .u32 e, .int .u32 s, .slice (some ⟨b, off, none⟩) n cap] 89)) := below_alloc (Below.refl _ _) _
  have hs0 : (w.alloc (.cells #[.int .u8 k, .int .u32 e, .int .u32 s, .slice (some ⟨b, off, none⟩) n cap] 89)).heap.size = w.heap.size + 1 := by simp
  generalize w.alloc (.cells #[.int .u8 k, .int .u32 e, .int .u32 s, .slice (some ⟨b, off, none⟩) n cap] 89) = w1 at *
  obtain ⟨bx, hbx⟩ : ∃ bx, w.heap.size = bx := ⟨_, rfl⟩
  have hnew : (w1.alloc (.cells #[.int .i64 0, .int .u32 0, .int .u32 0, .slice none 0 0] 25)).heap[bx + 1]? = some (.cells #[.int .i64 0, .int .u32 0, .int .u32 0, .slice none 0 0] 25 (0, 0)) := by rw [← hbx, ← hs0]; exact heap_alloc_last _ _
  have hb2 : Below w.heap.size w (w1.alloc (.cells #[.int .i64 0, .int .u32 0, .int .u32 0, .slice none 0 0] 25)) := below_alloc hb0 _
  rw [hbx] at c0 c1 c2 c3 ⊢
  have hlt : bx < w1.heap.size := by omega
  have hB1 : Below w1.heap.size w1 (w1.alloc (.cells #[.int .i64 0, .int .u32 0, .int .u32 0, .slice none 0 0] 25)) := below_alloc (Below.refl _ _) _
  have HW : Hid (w.heap.size = bx) := hbx
  generalize w1.alloc (.cells #[.int .i64 0, .int .u32 0, .int .u32 0, .slice none 0 0] 25) = w2 at *
  have HC := hide (fun (W : World) (h : Below w2.heap.size w2 W) => ((⟨((hB1.trans (h.mono hB1.size)).cell (p := ⟨bx, 0, none⟩) hlt).trans c0, ((hB1.trans (h.mono hB1.size)).cell (p := ⟨bx, 1, none⟩) hlt).trans c1, ((hB1.trans (h.mono hB1.size)).cell (p := ⟨bx, 2, none⟩) hlt).trans c2, ((hB1.trans (h.mono hB1.size)).cell (p := ⟨bx, 3, none⟩) hlt).trans c3⟩ : W.cell? ⟨bx, 0, none⟩ = some (.int .u8 k) ∧ W.cell? ⟨bx, 1, none⟩ = some (.int .u32 e) ∧ W.cell? ⟨bx, 2, none⟩ = some (.int .u32 s) ∧ W.cell? ⟨bx, 3, none⟩ = some (.slice (some ⟨b, off, none⟩) n cap))))
  have HF := hide (fun (W : World) (h : Below w2.heap.size w2 W) => (h.block _ (lt_of_get hnew)).trans hnew)
  obtain ⟨d0, d1, d2, d3⟩ := unhide HC w2.drew (Below.drew (Below.refl _ _))
  clear hbx hs0 hb0 c0 c1 c2 c3 hB1 hlt hnew
  go_region_held3 (fun W => W.cell? ⟨bx, 0, none⟩ = some (.int .u8 k) ∧ W.cell? ⟨bx, 1, none⟩ = some (.int .u32 e) ∧ W.cell? ⟨bx, 2, none⟩ = some (.int .u32 s) ∧ W.cell? ⟨bx, 3, none⟩ = some (.slice (some ⟨b, off, none⟩) n cap)) ((go_split_ands; (refine ⟨?_, ?_, ?_, ?_⟩) <;> first | (with_reducible assumption) | ((with_reducible refine cset4 ?_); (with_reducible assumption)))) (first
    | (go_at_call 66; refine (unhide HCL _ ?_).mono ?_; (focus (first | exact Below.drew hb2 | exact hb2)); rintro x w4 ⟨A, c, rfl, ho, hb4⟩; have hb5 : Below w2.heap.size w2 w4 := below_then (Below.drew (Below.refl _ _)) hb4; obtain ⟨e0, e1, e2, e3⟩ := unhide HC w4 hb5; have hn4 := unhide HF w4 hb5; have n0 := (heap_cell hn4 0).1; have n1 := (heap_cell hn4 1).1; have n2 := (heap_cell hn4 2).1; have n3 := (heap_cell hn4 3).1; have f0 := (heap_cell hn4 0).2; have f1 := (heap_cell hn4 1).2; have f2 := (heap_cell hn4 2).2; have f3 := (heap_cell hn4 3).2; have HN4 := hide hn4; have HO := hide ho; have HB6 := hide (below_then hb2 hb5); clear hn4 ho))
  all_goals
    have hle : w.heap.size ≤ bx + 1 := by have := unhide HW; omega
    have HFI := hide (heap_set4 (unhide HN4) (.int .i64 k) (.int .u32 e) (.int .u32 s) (.slice A n c))
    have HBF := hide (below_set4 (unhide HB6) (bx + 1) hle (.int .i64 k) (.int .u32 e) (.int .u32 s) (.slice A n c))
    have HOF := hide (own_set4 (unhide HO) (unhide HN4) (.int .i64 k) (.int .u32 e) (.int .u32 s) (.slice A n c))
    clear n0 n1 n2 n3 f0 f1 f2 f3 e0 e1 e2 e3 d0 d1 d2 d3 HC HF HN4 HO HB6
    go_wp2
    exact ret_cell1 rfl rfl rfl (unhide HFI) Try.underlying25 rfl Try.size25 ⟨_, rfl, unhide HOF, unhide HBF⟩
end Go.Proofs.Ytfceileohkngnaa

/- Contract: Decode, where there is an entry. -/
namespace Go.Proofs.Ytfceileohkngnaa
open Go.RowKit
set_option linter.unusedVariables false
set_option maxRecDepth 4000

theorem scsA_take {w : World} {A : Option Addr} {S : List Sct} (h : ScsA w A S) (n : Nat) : ScsA w A (S.take n) := by
  intro hne
  have hl := flatS_len S
  have : S ≠ [] := by rintro rfl; simp [flatS] at hne
  obtain ⟨b, off, ha, hc⟩ := h (by intro e; rw [e] at hl; simp at hl; exact this (List.length_eq_zero_iff.1 (by omega)))
  refine ⟨b, off, ha, fun j u hj => hc j u ?_⟩
  have e : flatS S = flatS (S.take n) ++ flatS (S.drop n) := by rw [← flatS_app, List.take_append_drop]
  rw [e, List.getElem?_append_left ((List.getElem?_eq_some_iff.1 hj).1)]
  exact hj
theorem join_yes (A : Option Addr) (S : List Sct) (n cap : Nat) (w : World) (hn : n = S.length) (hA : ScsA w A S) (h1 : 0 < S.length) (hl : S.length ≤ 1000) (hM : Marks S) (J : Nat) (hJ : J = (joinL S).length) :
    Calls Try.prog 41 #[.slice A n cap] w fun x w' => ∃ g c, x = .returned (.tuple #[.slice (some ⟨g, 0, none⟩) J c, .bool true]) ∧ BysA w' (some ⟨g, 0, none⟩) (joinL S) ∧ J ≤ c ∧ Below w.heap.size w w' := by
  subst hn hJ
  refine (join_any A S cap w hA h1 hl).mono ?_
  rintro x w' ⟨hb, ⟨_, g, c, rfl, ho⟩ | ⟨hn, _⟩⟩
  · obtain ⟨A', c', e, hy, hc⟩ := own_bys ho
    cases e
    exact ⟨g, c, rfl, hy, hc, hb⟩
  · exact absurd hM hn
theorem readRecord_at (b cap L n : Nat) (bs : List Int) (w : World) (hn : n = bs.length) (hb : BysA w (some ⟨b, 0, none⟩) bs) (hB : Byt bs) (hl : bs.length ≤ 10000) (h15 : 11 + L + 4 ≤ bs.length) (hcap : bs.length ≤ cap) (he : (L : Int) = lenL bs) (hW : Whole bs (11 + L)) :
    Calls Try.prog 42 #[.slice (some ⟨b, 0, none⟩) n cap] w fun x w' => x = .returned (.tuple #[.agg #[.int .u8 (bs.getD 0 0), .int .u32 (num4 (bs.drop 1)), .int .u32 (num4 (bs.drop 5)), .slice (some ⟨b, 11, none⟩) L (cap - 11)], .bool true]) ∧ Below w.heap.size w w' := by
  subst hn
  have := readRecord_yes b 0 cap L bs w hb hB hl h15 hcap he hW
  simpa using this
theorem entry_at (k e s : Int) (hk : 0 ≤ k ∧ k ≤ 255) (b off n cap : Nat) (bs : List Int) (w : World) (hn : n = bs.length) (hb : BysA w (some ⟨b, off, none⟩) bs) (hl : bs.length ≤ 10000) :
    Calls Try.prog 43 #[.agg #[.int .u8 k, .int .u32 e, .int .u32 s, .slice (some ⟨b, off, none⟩) n cap]] w fun x w' => ∃ A c, x = .returned (.agg #[.int .i64 k, .int .u32 e, .int .u32 s, .slice A n c]) ∧ w'.ownsRow w.heap.size 5 1 (.slice A n c) n (bs.map (Value.int .u8)) ∧ Below w.heap.size w w' := by
  subst hn
  refine (entry_any k e s hk b off cap bs w hb hl).mono ?_
  rintro x w' ⟨v, rfl, ho, hb'⟩
  obtain ⟨A, c, rfl, _⟩ := own_bys ho
  exact ⟨A, c, rfl, ho, hb'⟩

set_option maxHeartbeats 1000000 in
theorem decode_yes (A : Option Addr) (S : List Sct) (cap n L : Nat) (bs : List Int) (w : World) (hA : ScsA w A S) (hl : S.length ≤ 1000) (hcap : S.length ≤ cap) (hn : extN S = n) (h0 : 0 < n) (hnS : n ≤ S.length) (hn64 : n ≤ 64) (hM : Marks (S.take n)) (hbs : joinL (S.take n) = bs)
    (h15 : 11 + L + 4 ≤ bs.length) (he : (L : Int) = lenL bs) (hW : Whole bs (11 + L)) :
    Calls Try.prog 9 #[.slice A S.length cap] w fun x w' => ∃ B c, x = .returned (.tuple #[.agg #[.int .i64 (bs.getD 0 0), .int .u32 (num4 (bs.drop 1)), .int .u32 (num4 (bs.drop 5)), .slice B L c], .int .i64 n, .int .i64 0]) ∧ w'.ownsRow w.heap.size 5 1 (.slice B L c) L (((bs.drop 11).take L).map (Value.int .u8)) ∧ Below w.heap.size w w' := by
  have htl : (S.take n).length = n := by rw [List.length_take]; omega
  have hbl : bs.length = 63 * n := by rw [← hbs, joinL_len, htl]
  have hBy : Byt bs := by rw [← hbs]; exact joinL_byt _
  have HEX : Hid (∀ W : World, Below w.heap.size w W → Calls Try.prog 40 #[.slice A S.length cap] W fun x w' => x = .returned (.int .i64 (n : Int)) ∧ ∃ k, w' = W.drewN k) := fun W hW' => by
    have := extent_any A S cap W (hA.below hW') (by omega)
    rw [hn] at this
    exact this
  have HJ : Hid (∀ W : World, Below w.heap.size w W → Calls Try.prog 41 #[.slice A n cap] W fun x w' => ∃ g c, x = .returned (.tuple #[.slice (some ⟨g, 0, none⟩) bs.length c, .bool true]) ∧ BysA w' (some ⟨g, 0, none⟩) bs ∧ bs.length ≤ c ∧ Below W.heap.size W w') := fun W hW' => by
    have := join_yes A (S.take n) n cap W htl.symm ((scsA_take hA n).below hW') (by omega) (by omega) hM bs.length (by rw [hbs])
    rw [hbs] at this
    exact this
  have HR : Hid (∀ (W : World) (g c : Nat), BysA W (some ⟨g, 0, none⟩) bs → bs.length ≤ c → Calls Try.prog 42 #[.slice (some ⟨g, 0, none⟩) bs.length c] W fun x w' => x = .returned (.tuple #[.agg #[.int .u8 (bs.getD 0 0), .int .u32 (num4 (bs.drop 1)), .int .u32 (num4 (bs.drop 5)), .slice (some ⟨g, 11, none⟩) L (c - 11)], .bool true]) ∧ Below W.heap.size W w') := fun W g c hy hc =>
    readRecord_at g c L bs.length bs W rfl hy hBy (by omega) h15 hc he hW
  have HE : Hid (∀ (W : World) (g c : Nat), BysA W (some ⟨g, 0, none⟩) bs → Calls Try.prog 43 #[.agg #[.int .u8 (bs.getD 0 0), .int .u32 (num4 (bs.drop 1)), .int .u32 (num4 (bs.drop 5)), .slice (some ⟨g, 11, none⟩) L c]] W fun x w' => ∃ B c, x = .returned (.agg #[.int .i64 (bs.getD 0 0), .int .u32 (num4 (bs.drop 1)), .int .u32 (num4 (bs.drop 5)), .slice B L c]) ∧ w'.ownsRow W.heap.size 5 1 (.slice B L c) L (((bs.drop 11).take L).map (Value.int .u8)) ∧ Below W.heap.size W w') := fun W g c hy => by
    have h11 := bys_take (bys_drop hy 11) L
    rw [Nat.zero_add] at h11
    exact entry_at _ _ _ (hBy 0) g 11 L c ((bs.drop 11).take L) W (by rw [List.length_take, List.length_drop]; omega) h11 (by rw [List.length_take, List.length_drop]; omega)
  have hns : (n : Int) ≤ (S.length : Int) := by omega
  have hnc : (n : Int) ≤ (cap : Int) := by omega
  have hne : ¬ (n : Int) = 0 := by omega
  obtain ⟨b, off, rfl, _⟩ := hA.range (k := 0) (by omega)
  generalize bs.getD 0 0 = x0 at *
  generalize num4 (bs.drop 1) = p1 at *
  generalize num4 (bs.drop 5) = p5 at *
  generalize ((bs.drop 11).take L).map (Value.int .u8) = xs at *
  generalize bs.length = J at *
  generalize S.length = N at *
  clear hA hM hbs he hW hn htl hBy hbl h15
  have HB1 : Hid (Below w.heap.size w (w.alloc (.cells #[.int .i64 0, .int .u32 0, .int .u32 0, .slice none 0 0] 25))) := below_alloc (Below.refl _ _) _
  have HNW : Hid ((w.alloc (.cells #[.int .i64 0, .int .u32 0, .int .u32 0, .slice none 0 0] 25)).heap[w.heap.size]? = some (.cells #[.int .i64 0, .int .u32 0, .int .u32 0, .slice none 0 0] 25 (0, 0))) := heap_alloc_last _ _
  go_enter Try.func9, Try.ntmps9
  go_wp2_with (first
    | (go_at_call 40; refine (unhide HEX _ (unhide HB1)).mono ?_; rintro x w2 ⟨rfl, kd, hw2⟩; have HB2 := hide (show Below w.heap.size w w2 by rw [hw2]; exact below_drewN (unhide HB1) kd); have HN2 := hide (show w2.heap[w.heap.size]? = some (.cells #[.int .i64 0, .int .u32 0, .int .u32 0, .slice none 0 0] 25 (0, 0)) by rw [hw2]; exact unhide HNW); clear hw2)
    | (go_at_call 41; refine (unhide HJ _ (unhide HB2)).mono ?_; rintro x w3 ⟨g, c, rfl, hy, hc, hb3⟩; have HY := hide hy; have HB3 := hide hb3; clear hy hb3)
    | (go_at_call 42; refine (unhide HR _ g c (unhide HY) hc).mono ?_; rintro x w4 ⟨rfl, hb4⟩; have HB4 := hide hb4; clear hb4)
    | (go_at_call 43; refine (unhide HE _ g (c - 11) (bysA_alloc (bysA_below (unhide HY) (unhide HB4)) _)).mono ?_; rintro x w5 ⟨B, c5, rfl, ho, hb5⟩; have hb25 : Below w2.heap.size w2 w5 := below_then (below_then (below_then (unhide HB3) (unhide HB4)) (below_alloc (Below.refl _ _) _)) hb5; have hn5 := (hb25.block _ (lt_of_get (unhide HN2))).trans (unhide HN2); have n0 := (heap_cell hn5 0).1; have n1 := (heap_cell hn5 1).1; have n2 := (heap_cell hn5 2).1; have n3 := (heap_cell hn5 3).1; have f0 := (heap_cell hn5 0).2; have f1 := (heap_cell hn5 1).2; have f2 := (heap_cell hn5 2).2; have f3 := (heap_cell hn5 3).2; have HN5 := hide hn5; have HB6 := hide (below_then (unhide HB2) hb25); have HO := hide (own_mono ho (base' := w.heap.size) (Nat.le_trans (below_then (unhide HB2) (below_then (unhide HB3) (unhide HB4))).size (by simp))); clear hn5 ho hb5 hb25))
  have HFI := hide (heap_set4 (unhide HN5) (.int .i64 x0) (.int .u32 p1) (.int .u32 p5) (.slice B L c5))
  have HBF := hide (below_set4 (unhide HB6) w.heap.size (Nat.le_refl _) (.int .i64 x0) (.int .u32 p1) (.int .u32 p5) (.slice B L c5))
  have HOF := hide (own_set4 (unhide HO) (unhide HN5) (.int .i64 x0) (.int .u32 p1) (.int .u32 p5) (.slice B L c5))
  exact ret_cell3 rfl rfl rfl rfl rfl (unhide HFI) Try.underlying25 rfl Try.size25 ⟨B, c5, rfl, unhide HOF, unhide HBF⟩
end Go.Proofs.Ytfceileohkngnaa

/- Plain mathematics: what was cut is put together as it was. -/
namespace Go.Proofs.Ytfceileohkngnaa
open Go.RowKit
set_option linter.unusedVariables false
set_option maxRecDepth 4000

theorem joinL_getD (S : List Sct) : ∀ (q r : Nat), q < S.length → r < 63 → (joinL S).getD (63 * q + r) 0 = (S.getD q zeroS).1.getD (r + 1) 0 := by
  induction S with
  | nil => intro q r h; simp at h
  | cons s t ih =>
    intro q r hq hr
    show (tail s ++ joinL t).getD _ 0 = _
    rw [List.getD_eq_getElem?_getD]
    cases q with
    | zero =>
      rw [List.getElem?_append_left (by rw [tail_len]; omega), ← List.getD_eq_getElem?_getD, Nat.mul_zero, Nat.zero_add, tail_getD]
      rfl
    | succ q =>
      rw [List.getElem?_append_right (by rw [tail_len]; omega), tail_len, show 63 * (q + 1) + r - 63 = 63 * q + r by omega, ← List.getD_eq_getElem?_getD, ih q r (by simpa using hq) hr]
      rfl
def padL (E : List Int) : List Int := E ++ List.replicate (63 * pieces E.length - E.length) 0
theorem pad_len (E : List Int) : (padL E).length = 63 * pieces E.length := by
  unfold padL; rw [List.length_append, List.length_replicate]
  have : E.length ≤ 63 * pieces E.length := by unfold pieces; omega
  omega
theorem pad_getD (E : List Int) (j : Nat) : (padL E).getD j 0 = E.getD j 0 := by
  unfold padL
  rw [List.getD_eq_getElem?_getD, List.getElem?_append]
  split
  · rw [← List.getD_eq_getElem?_getD]
  · rename_i h
    rw [List.getElem?_replicate, List.getD_eq_getElem?_getD, List.getElem?_eq_none (by omega)]
    split <;> rfl
theorem getD_ext {a b : List Int} (hl : a.length = b.length) (h : ∀ j, j < a.length → a.getD j 0 = b.getD j 0) : a = b := by
  apply List.ext_getElem hl
  intro i h1 h2
  have := h i h1
  rw [List.getD_eq_getElem?_getD, List.getD_eq_getElem?_getD, List.getElem?_eq_getElem h1, List.getElem?_eq_getElem h2] at this
  exact this
theorem secOf_getD (i : Nat) (c : List Int) (r : Nat) (hr : r < 63) : (secOf i c).1.getD (r + 1) 0 = c.getD r 0 % 256 := by
  unfold secOf; rw [mkS_getD _ _ (by omega), List.getD_cons_succ]
theorem secOf_mark (i : Nat) (c : List Int) : (secOf i c).1.getD 0 0 = markI i := by
  unfold secOf; rw [mkS_getD _ _ (by omega)]
  have := markI_lim i
  show markI i % 256 = _
  omega
theorem join_cut (E : List Int) (hB : Byt E) : joinL (cutS E) = padL E := by
  have hl : (joinL (cutS E)).length = (padL E).length := by rw [joinL_len, cutS_len, pad_len]
  refine getD_ext hl (fun j hj => ?_)
  rw [joinL_len, cutS_len] at hj
  have hq : j / 63 < pieces E.length := by omega
  have e : j = 63 * (j / 63) + j % 63 := by omega
  rw [pad_getD]
  conv => lhs; rw [e]
  rw [joinL_getD _ _ _ (by rw [cutS_len]; exact hq) (by omega)]
  have : (cutS E).getD (j / 63) zeroS = secOf (j / 63) (chunk E (j / 63)) := by rw [List.getD_eq_getElem?_getD, cutS_get E _ hq]; rfl
  rw [this, secOf_getD _ _ _ (by omega), chunk_getD, if_pos (by omega), ← e, byt_mod hB]
theorem marks_cut (E : List Int) : Marks (cutS E) := by
  intro i s hs
  have hi : i < pieces E.length := by have := (List.getElem?_eq_some_iff.1 hs).1; rwa [cutS_len] at this
  rw [cutS_get E i hi] at hs
  cases hs
  exact secOf_mark _ _

theorem num4_four (x : Int) (hx : 0 ≤ x ∧ x ≤ 4294967295) (l : List Int) : num4 (four x ++ l) = x := by
  show x / 16777216 % 256 * 16777216 + x / 65536 % 256 * 65536 + x / 256 % 256 * 256 + x % 256 = x
  omega

section
variable {k e s : Int} {b : List Int}
theorem ent_lenL (l : List Int) : lenL (entL k e s b ++ l) = (b.length : Int) / 256 % 256 * 256 + (b.length : Int) % 256 := rfl
theorem ent_0 (l : List Int) : (entL k e s b ++ l).getD 0 0 = k := rfl
theorem ent_1 (he : 0 ≤ e ∧ e ≤ 4294967295) (l : List Int) : num4 ((entL k e s b ++ l).drop 1) = e := by
  show e / 16777216 % 256 * 16777216 + e / 65536 % 256 * 65536 + e / 256 % 256 * 256 + e % 256 = e
  omega
theorem ent_5 (hs : 0 ≤ s ∧ s ≤ 4294967295) (l : List Int) : num4 ((entL k e s b ++ l).drop 5) = s := by
  show s / 16777216 % 256 * 16777216 + s / 65536 % 256 * 65536 + s / 256 % 256 * 256 + s % 256 = s
  omega
theorem ent_take (l : List Int) : (entL k e s b ++ l).take (11 + b.length) = headL k e s b := by
  unfold entL
  rw [List.append_assoc, List.take_left' (headL_len k e s b)]
theorem ent_drop (l : List Int) : (entL k e s b ++ l).drop (11 + b.length) = four (more 1 (headL k e s b)) ++ l := by
  unfold entL
  rw [List.append_assoc, List.drop_left' (headL_len k e s b)]
theorem ent_drop4 (l : List Int) : (entL k e s b ++ l).drop (11 + b.length + 4) = l := List.drop_left' (by rw [entL_len]; omega)
theorem ent_body (l : List Int) : ((entL k e s b ++ l).drop 11).take b.length = b := by
  have : (entL k e s b ++ l).drop 11 = b ++ (four (more 1 (headL k e s b)) ++ l) := by
    unfold entL headL
    rw [List.append_assoc, List.append_assoc]
    exact List.drop_left' (by simp [leadL_len])
  rw [this, List.take_left' rfl]
theorem ent_whole (n : Nat) : Whole (entL k e s b ++ List.replicate n 0) (11 + b.length) := by
  refine ⟨?_, ?_⟩
  · rw [ent_drop, ent_take, num4_four _ (more_lim 1 _)]
  · rw [ent_drop4, List.all_eq_true]
    intro x hx
    rw [List.eq_of_mem_replicate hx]; rfl
end

theorem first_len (E : List Int) (hB : Byt E) (h : 11 ≤ E.length) (S : List Sct) (hS : S[0]? = some (secOf 0 (chunk E 0))) : lenS (secOf 0 (chunk E 0)) = E.getD 9 0 * 256 + E.getD 10 0 := by
  unfold lenS
  rw [secOf_getD 0 _ 9 (by omega), secOf_getD 0 _ 10 (by omega), chunk_getD, chunk_getD, if_pos (by omega), if_pos (by omega), byt_mod hB, byt_mod hB]

theorem ext_cut (k e s : Int) (b : List Int) (hk : 0 ≤ k ∧ k ≤ 255) (hB : Byt b) (hl : b.length ≤ 4000) (rest : List Sct) : extN (cutS (entL k e s b) ++ rest) = pieces (entL k e s b).length := by
  have hE : Byt (entL k e s b) := entL_byt hk hB
  have hp := pieces_ent k e s b
  have h0 : 0 < pieces (entL k e s b).length := by rw [hp]; omega
  have hg := cutS_get (entL k e s b) 0 h0
  obtain ⟨r, hr⟩ : ∃ r, cutS (entL k e s b) = secOf 0 (chunk (entL k e s b) 0) :: r := by
    cases hc : cutS (entL k e s b) with
    | nil => rw [hc] at hg; cases hg
    | cons x r => rw [hc] at hg; cases hg; exact ⟨r, rfl⟩
  have hrl : r.length + 1 = pieces (entL k e s b).length := by
    have := cutS_len (entL k e s b)
    rw [hr] at this
    simpa using this
  have hlen := first_len (entL k e s b) hE (by rw [entL_len]; omega) _ hg
  have hL : lenS (secOf 0 (chunk (entL k e s b) 0)) = (b.length : Int) := by
    rw [hlen]
    have := ent_lenL (k := k) (e := e) (s := s) (b := b) []
    rw [List.append_nil] at this
    unfold lenL at this
    rw [this]
    omega
  have hN : needN (secOf 0 (chunk (entL k e s b) 0)) = pieces (entL k e s b).length := by
    unfold needN needI
    rw [hL, if_neg (by omega), hp]
    omega
  rw [hr]
  show (if (r ++ rest).length + 1 < needN _ then 0 else needN _) = _
  rw [hN, if_neg (by rw [List.length_append]; omega)]
end Go.Proofs.Ytfceileohkngnaa

/- What the laws' own 'wakes' comes to: true; old memory is as it was. -/
namespace Go.Proofs.Ytfceileohkngnaa
open Go.RowKit
set_option linter.unusedVariables false
set_option maxRecDepth 4000

/-- Decode of an entry's sectors, whatever stands behind. -/
theorem decode_ent (k e s : Int) (hk : 0 ≤ k ∧ k ≤ 255) (he : 0 ≤ e ∧ e ≤ 4294967295) (hs : 0 ≤ s ∧ s ≤ 4294967295) (b : List Int) (hl : b.length ≤ 4000) (hB : Byt b) (rest : List Sct) (A : Option Addr) (N cap : Nat) (w : World)
    (hN : N = (cutS (entL k e s b) ++ rest).length) (hA : ScsA w A (cutS (entL k e s b) ++ rest)) (hr : N ≤ 1000) (hcap : N ≤ cap) :
    Calls Try.prog 9 #[.slice A N cap] w fun x w' => ∃ B c, x = .returned (.tuple #[.agg #[.int .i64 k, .int .u32 e, .int .u32 s, .slice B b.length c], .int .i64 (cutS (entL k e s b)).length, .int .i64 0]) ∧ w'.ownsRow w.heap.size 5 1 (.slice B b.length c) b.length (b.map (Value.int .u8)) ∧ Below w.heap.size w w' := by
  subst hN
  have hE : Byt (entL k e s b) := entL_byt hk hB
  have hp := pieces_ent k e s b
  have hcl := cutS_len (entL k e s b)
  have ht : (cutS (entL k e s b) ++ rest).take (cutS (entL k e s b)).length = cutS (entL k e s b) := List.take_left' rfl
  have hj := join_cut (entL k e s b) hE
  have hpl := pad_len (entL k e s b)
  have hel := entL_len k e s b
  have := decode_yes A (cutS (entL k e s b) ++ rest) cap (cutS (entL k e s b)).length b.length (padL (entL k e s b)) w hA hr hcap (by rw [ext_cut k e s b hk hB hl, hcl]) (by omega) (by rw [List.length_append]; omega) (by omega) (by rw [ht]; exact marks_cut _) (by rw [ht]; exact hj)
    (by rw [hpl]; omega) (by unfold padL; rw [ent_lenL]; omega) (ent_whole _)
  unfold padL at this
  rw [ent_0, ent_1 he, ent_5 hs, ent_body] at this
  exact this

section
variable {ops : Array Oper} {rest : List Oper} {a : Act} {w : World} {Q : Exit → Act → World → Prop} {dst : Option Tmp} {ty : TypeId} {pos : String} {af : Array Edge}
theorem wpList_build1 (x : Operand) (m : Int) (hm : 0 ≤ m ∧ m ≤ 255) (hx : a.eval x = .int .u8 m)
    (h : wpList Try.prog ops Q rest (a.put dst (sv (mkS [m]))) w) : wpList Try.prog ops Q (⟨dst, .build 75 #[(0, x)], ty, pos, af, none⟩ :: rest) a w :=
  wpList_val rfl (exec_build1 x m hm hx) h
theorem wpList_bslS (x : Operand) (s : Sct) (hx : a.eval x = sv s)
    (h : ∀ w1, w.grownBy w1 none → RowA w1 (some ⟨w.heap.size, 0, none⟩) (bytes s) → wpList Try.prog ops Q rest (a.put dst (.slice (some ⟨w.heap.size, 0, none⟩) 1 1)) w1) :
    wpList Try.prog ops Q (⟨dst, .buildSlice 26 1 #[(0, x)], ty, pos, af, none⟩ :: rest) a w :=
  wpList_val rfl (exec_bsl x s hx) (h _ (World.grownBy_alloc _ _ _) (fun _ => ⟨_, 0, rfl, fun j u hj => by
    rw [cell_of_row _ _ _ _ _ _ (heap_alloc_last w _)]
    simpa using hj⟩))
theorem wpList_appendS (s x : Operand) (base : Nat) (v : Value) (S : List Sct) (T : List Sct) (hs : a.eval s = v) (hown : w.ownsRow base 75 64 v S.length (flatS S)) (A : Option Addr) (m c : Nat) (hm : m = T.length) (hx : a.eval x = .slice A m c) (hT : ScsA w A T)
    (hlen : S.length + T.length ≤ 100000) (hbase : base ≤ w.heap.size)
    (h : ∀ v' w1, w1.ownsRow base 75 64 v' (S ++ T).length (flatS (S ++ T)) → w.grownBy w1 v.ownBlock → wpList Try.prog ops Q rest (a.put dst v') w1) :
    wpList Try.prog ops Q (⟨dst, .call { callee := .builtin .append, args := #[s, x], argTypes := #[26, 26] }, ty, pos, af, none⟩ :: rest) a w := by
  subst hm
  obtain ⟨i, hi, hz⟩ := Try.zero75
  obtain ⟨i', hi', hz0, hz1, hz2⟩ := info_parts Try.info75
  obtain rfl : i' = i := by rw [hi'] at hi; exact (Option.some.inj hi)
  obtain ⟨v', w', hr, h2, h3, h4⟩ := run_append_row (P := Try.prog) (w := w) base 26 ty 75 i' (sv zeroS) 64 64 Try.underlying26 hi hz hz1 hz2 (by rw [sv_cells, List.size_toArray, bytes_len]) (by omega) v S.length (flatS S) hown A T.length c (flatS T) (flatS_len T) hT (flatS_oneCell T) (by omega) (by omega) hbase
  refine wpList_val (v := v') (w' := w') rfl ?_ (h v' w' (by rw [List.length_append, flatS_app]; exact h2) h3)
  unfold execOp
  simp only [resolve, invoke, builtin, Sem.run_bind, Sem.run_pure, Result.andThen_ok, List.map_toArray, List.map_cons, List.map_nil, hs, hx, hr]
end
theorem own_scs {w : World} {base : Nat} {v : Value} {S : List Sct} (h : w.ownsRow base 75 64 v S.length (flatS S)) : ∃ A cap, v = .slice A S.length cap ∧ ScsA w A S ∧ S.length ≤ cap := by
  rcases h.2 with ⟨rfl, h0⟩ | ⟨g, cap, cur, rfl, hb, hg, hnc, hcm, hcs, htk⟩
  · obtain rfl : S = [] := List.length_eq_zero_iff.1 h0
    exact ⟨none, 0, rfl, rowA_nil _ _, Nat.le_refl _⟩
  · refine ⟨_, cap, rfl, fun _ => ⟨g, 0, rfl, fun j u hj => ?_⟩, hnc⟩
    rw [Nat.zero_add, cell_of_row w g j cur 75 (0, 0) hg]
    rw [← htk, List.getElem?_take] at hj
    split at hj
    · simpa using hj
    · cases hj

/-- The first entry of the laws' own: its sectors. -/
def E1 : List Int := entL 1 2 3 [97, 98, 99]
theorem E1_len : (cutS E1).length = 1 := by decide +kernel
theorem E1_at : (cutS E1)[0]? = some (secOf 0 (chunk E1 0)) := cutS_get _ _ (by decide +kernel)
theorem E1_0 : (secOf 0 (chunk E1 0)).1.getD 0 0 = 87 := secOf_mark _ _
theorem E1_12 : (secOf 0 (chunk E1 0)).1.getD 12 0 = 97 := by decide +kernel
theorem E1_19 : (secOf 0 (chunk E1 0)).1.getD 19 0 = 0 := by decide +kernel
theorem byt_abc : Byt [97, 98, 99] := byt_of (by simp)
theorem abc : strOfNums [97, 98, 99] = ⟨#[97, 98, 99]⟩ := by decide +kernel

theorem sec_first {w : World} {g : Nat} (h : ScsA w (some ⟨g, 0, none⟩) (cutS E1)) : w.cell? ⟨g, 0, none⟩ = some (.int .u8 87) ∧ w.cell? ⟨g, 12, none⟩ = some (.int .u8 97) ∧ w.cell? ⟨g, 19, none⟩ = some (.int .u8 0) := by
  obtain ⟨b, off, e, hr⟩ := h.range (k := 0) (by rw [E1_len]; decide)
  cases e
  have h0 := hr 0 _ E1_at
  have a0 := secs_cell h0 0 (by omega)
  have a1 := secs_cell h0 12 (by omega)
  have a2 := secs_cell h0 19 (by omega)
  rw [E1_0] at a0
  rw [E1_12] at a1
  rw [E1_19] at a2
  exact ⟨by simpa using a0, by simpa using a1, by simpa using a2⟩
theorem below_grown {w w1 : World} (h : w.grownBy w1 none) : Below w.heap.size w w1 := (Below.refl _ _).grown h (Nat.le_refl _) (fun k e => by cases e)
theorem size_alloc_le (w : World) (o : Obj) : w.heap.size ≤ (w.alloc o).heap.size := by simp
theorem own_lit0 (w : World) : (w.alloc (.cells #[] 75)).ownsRow w.heap.size 75 64 (.slice (some ⟨w.heap.size, 0, none⟩) 0 0) ([] : List Sct).length (flatS []) :=
  ⟨rfl, .inr ⟨_, 0, #[], rfl, Nat.le_refl _, heap_alloc_last _ _, Nat.le_refl _, Nat.zero_le _, rfl, rfl⟩⟩

theorem need48 : needI 48 = 1 := by decide
theorem need49 : needI 49 = 2 := by decide
theorem conv_abc {w : World} {B : Option Addr} (h : BysA w B [97, 98, 99]) (c : Nat) : ∀ o, (convert 23 9 (.slice B 3 c)).run Try.prog (w.alloc o) = .ok (.string ⟨#[97, 98, 99]⟩) (w.alloc o) := fun o => by
  have := conv_any (cap := c) (bysA_alloc h o)
  rw [abc] at this
  exact this

set_option maxRecDepth 100000 in
set_option maxHeartbeats 1000000 in
theorem wakes_go (w : World) : Calls Try.prog 6 #[] w fun e w' => e = .returned (.bool true) ∧ Below w.heap.size w w' := by
  have hcv := conv_const
  have HEN : Hid (∀ (W : World) (N : Nat), BysA W (some ⟨N, 0, none⟩) [97, 98, 99] → Calls Try.prog 7 #[.agg #[.int .i64 1, .int .u32 2, .int .u32 3, .slice (some ⟨N, 0, none⟩) 3 3]] W fun x w' => ∃ g c, x = .returned (.tuple #[.slice (some ⟨g, 0, none⟩) 1 c, .int .i64 0]) ∧ w'.ownsRow W.heap.size 75 64 (.slice (some ⟨g, 0, none⟩) 1 c) (cutS E1).length (flatS (cutS E1)) ∧ Below W.heap.size W w') := fun W N hb => by
    have := encode_ok 1 2 3 (by omega) (by omega) (by omega) (some ⟨N, 0, none⟩) [97, 98, 99] 3 (by simp) byt_abc W hb
    rw [show entL 1 2 3 [97, 98, 99] = E1 from rfl, E1_len] at this
    rw [E1_len]
    exact this
  have HDE : Hid (∀ (W : World) (A : Option Addr) (c : Nat), ScsA W A (cutS E1 ++ [mkS [9]]) → 2 ≤ c → Calls Try.prog 9 #[.slice A 2 c] W fun x w' => ∃ B c', x = .returned (.tuple #[.agg #[.int .i64 1, .int .u32 2, .int .u32 3, .slice B 3 c'], .int .i64 1, .int .i64 0]) ∧ BysA w' B [97, 98, 99] ∧ Below W.heap.size W w') := fun W A c hA hc => by
    have hl2 : (cutS E1 ++ [mkS [9]]).length = 2 := by rw [List.length_append, E1_len]; rfl
    have := decode_ent 1 2 3 (by omega) (by omega) (by omega) [97, 98, 99] (by simp) byt_abc [mkS [9]] A 2 c W hl2.symm hA (by omega) hc
    rw [show entL 1 2 3 [97, 98, 99] = E1 from rfl, E1_len] at this
    refine this.mono ?_
    rintro x w' ⟨B, c', rfl, ho, hb⟩
    obtain ⟨A', c'', e', hy, _⟩ := own_bys ho
    cases e'
    exact ⟨_, _, rfl, hy, hb⟩
  go_enter Try.func6, Try.ntmps6
  go_wp2_with (first
    | (go_at_call 7; refine (unhide HEN _ _ (bys_lit rfl rfl)).mono ?_; rintro x w2 ⟨g, c, rfl, ho, hb2⟩; have HB2 := hide (below_then (below_alloc (Below.refl _ _) _) hb2); obtain ⟨A2, c2, e2, hsc, hc2⟩ := own_scs ho; rw [E1_len] at e2; cases e2; have HSC := hide hsc; have HL0 := hide (own_lit0 w2); have HSA := hide (ScsA.below hsc (below_alloc (Below.refl _ _) (.cells #[] 75))); have HZA := hide (size_alloc_le w2 (.cells #[] 75)); have hra := sec_first hsc; have k0 := hra.1; have k12 := hra.2.1; have k19 := hra.2.2; clear ho hb2 hsc hra)
    | ((with_reducible refine wpList_build1 _ 9 (by omega) ?_ ?_); (focus rfl))
    | ((with_reducible refine wpList_bslS _ (mkS [9]) ?_ ?_); (focus rfl); intro w4 hg4 hR4; have HO4 := hide (own_below (unhide HO3) (below_grown hg4)); have HB4 := hide (below_then (unhide HB3) (below_grown hg4)); have HR4 := hide (show ScsA w4 _ [mkS [9]] by unfold ScsA; rw [flatS_one]; exact hR4); clear hR4 hg4)
    | ((with_reducible refine wpList_appendS _ _ w.heap.size _ (cutS E1) [mkS [9]] ?_ (unhide HO4) _ 1 1 ?_ ?_ (unhide HR4) ?_ (unhide HB4).size ?_); (focus rfl); (focus rfl); (focus rfl); (focus (rw [E1_len]; decide)); intro v5 w5 hown5 hg5; have HB5 := hide ((unhide HB4).grown hg5 (unhide HB4).size (fun j hj => (own_block (unhide HO4) hj).1)); obtain ⟨A5, c5, e5, hs5, hc5⟩ := own_scs hown5; have hlen5 : (cutS E1 ++ [mkS [9]]).length = 2 := (by rw [List.length_append, E1_len]; rfl); rw [hlen5] at e5; subst e5; have HS5 := hide hs5; have HC5 := hide (And.intro hc5 hlen5); clear hs5 hown5 hg5 hc5 hlen5)
    | ((with_reducible refine wpList_appendS _ _ w2.heap.size (.slice (some ⟨w2.heap.size, 0, none⟩) 0 0) [] (cutS E1) ?_ (unhide HL0) (some ⟨g, 0, none⟩) 1 c ?_ ?_ (unhide HSA) ?_ (unhide HZA) ?_); (focus rfl); (focus (exact E1_len.symm)); (focus rfl); (focus (rw [E1_len]; decide)); intro v3 w3 hown3 hg3; have HB3 := hide ((below_alloc (unhide HB2) _).grown hg3 (Nat.le_trans (unhide HB2).size (size_alloc_le w2 _)) (fun j hj => by simp [Value.ownBlock] at hj; have := (unhide HB2).size; omega)); have HO3 := hide (own_mono hown3 (unhide HB2).size); clear hown3 hg3)
    | (go_at_call 9; refine (unhide HDE _ _ _ (unhide HS5) ?_).mono ?_; (focus (have := (unhide HC5).1; have := (unhide HC5).2; omega)); rintro x w6 ⟨B, c6, rfl, hy6, hb6⟩; have HB6 := hide (below_then (unhide HB5) hb6); have hcs := conv_abc hy6 c6; clear hy6 hb6)
    | (go_at_call 13; refine (need_any _ ?_ _).mono ?_; (focus omega); rintro x w7 ⟨rfl, rfl⟩; first | rw [need48] | rw [need49]))
  go_ret
  exact ⟨rfl, below_alloc (unhide HB6) _⟩
end Go.Proofs.Ytfceileohkngnaa
