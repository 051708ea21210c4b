/- Own texts in one: Base, Math, Math2, More, Lists, Wakes, PartsW, TurnsW, Heads, SumsW. -/
import Derived.WalkKit
import Derived.WalkSpells
import Derived.Below
import Derived.OwnWalk
import Derived.Deep.AppendLies
import Derived.RegionTactic
import Derived.Deep.QuietTactic
import Derived.BigQuiet
import Derived.Test.YtfceileohkngnaaProg
import Derived.LoopTactic
import Derived.Laws.BytesArg
import Derived.Lib.SlBytesConst
import Derived.Deep.RegionHeld3
import Derived.Deep.DrawnRows
import Derived.Laws.Slices
import Derived.Deep.CutRange
/- Helpers over any program: rows of cells that came in, rows that the call owns, append of the one onto the other. -/
namespace Go.Proofs.Ytfceileohkngnaa
open Go.RowKit
set_option linter.unusedVariables false

theorem hide {p : Prop} (h : p) : Hid p := h
theorem unhide {p : Prop} (h : Hid p) : p := h

theorem addr_add (b off i : Nat) : (⟨b, off, none⟩ : Addr).add i = ⟨b, off + i, none⟩ := by unfold Addr.add; split <;> simp_all

theorem maxLen_ge (n : Nat) (h : n ≤ 9223372036854775807) : n ≤ maxLen := h

theorem below_alloc {w0 w' : World} (h : Below w0.heap.size w0 w') (o : Obj) : Below w0.heap.size w0 (w'.alloc o) := h.alloc h.size o
theorem below_drewN {B : Nat} {w0 w' : World} (h : Below B w0 w') (n : Nat) : Below B w0 (w'.drewN n) := ⟨h.os, h.tape, h.output, h.size, h.block⟩
/-- What a callee that makes memory leaves, seen from the call's own beginning. -/
theorem below_then {w0 w1 w2 : World} (h : Below w0.heap.size w0 w1) (k : Below w1.heap.size w1 w2) : Below w0.heap.size w0 w2 := h.trans (k.mono h.size)
theorem below_set {w0 w' : World} (h : Below w0.heap.size w0 w') (g i : Nat) (u : Value) (hg : w0.heap.size ≤ g) : Below w0.heap.size w0 (w'.setCell ⟨g, i, none⟩ u) := h.setCell hg u

/-- The values vs lie one behind the other from A on. -/
def RowA (w : World) (A : Option Addr) (vs : List Value) : Prop :=
  vs ≠ [] → ∃ b off, A = some ⟨b, off, none⟩ ∧ ∀ j u, vs[j]? = some u → w.cell? ⟨b, off + j, none⟩ = some u

theorem rowA_nil (w : World) (A : Option Addr) : RowA w A [] := fun h => absurd rfl h

theorem rowA_below {w0 W : World} {A : Option Addr} {vs : List Value} (h : RowA w0 A vs) (hb : Below w0.heap.size w0 W) : RowA W A vs := by
  intro hne
  obtain ⟨b, off, ha, hc⟩ := h hne
  exact ⟨b, off, ha, fun j u hj => by rw [hb.cell (World.block_lt_of_cell? _ _ (hc j u hj))]; exact hc j u hj⟩

theorem run_append_none {P : Program} {w : World} (base : Nat) (t ty e : TypeId) (i : TypeInfo) (size c : Nat) (ht : P.underlying t = some (.slice e)) (hi : P.info? e = some i)
    (v : Value) (n : Nat) (xs : List Value) (hown : w.ownsRow base e size v n xs) :
    (Builtin.append_ #[t, t] ty #[v, .slice none 0 c]).run P w = .ok v w := by
  rcases hown.2 with ⟨rfl, rfl⟩ | ⟨g, cap, cur, rfl, _, _, hnc, _⟩
  · simp [Builtin.append_, run_underlying ht, sizeOf, typeInfo, hi, Builtin.lenOf, Builtin.firstCells]
  · simp [Builtin.append_, run_underlying ht, sizeOf, typeInfo, hi, Builtin.lenOf, Builtin.firstCells, hnc, storeCells]

/-- append of a row, nil or not, onto a row that the call owns. -/
theorem run_append_row {P : Program} {w : World} (base : Nat) (t ty e : TypeId) (i : TypeInfo) (z : Value) (size bytes : Nat) (ht : P.underlying t = some (.slice e)) (hi : P.info? e = some i) (hz : i.zero = some z)
    (hsize : i.size = size) (hby : i.bytes = bytes) (hzs : z.cells.size = size) (hsz : 0 < size)
    (v : Value) (n : Nat) (xs : List Value) (hown : w.ownsRow base e size v n xs)
    (A : Option Addr) (m c : Nat) (vs : List Value) (hl : vs.length = m * size) (hR : RowA w A vs) (h1 : ∀ u ∈ vs, u.oneCell' = true)
    (hbytes : (n + m) * bytes ≤ 140737488355328) (hb1 : 0 < bytes) (hbase : base ≤ w.heap.size) :
    ∃ v' w', (Builtin.append_ #[t, t] ty #[v, .slice A m c]).run P w = .ok v' w' ∧ w'.ownsRow base e size v' (n + m) (xs ++ vs) ∧ w.grownBy w' v.ownBlock ∧
      (v'.ownBlock = v.ownBlock ∨ v'.ownBlock = some w.heap.size) := by
  have h63 : n + m ≤ maxLen := by
    have : (n + m) * 1 ≤ (n + m) * bytes := Nat.mul_le_mul_left _ hb1
    unfold maxLen; omega
  cases A with
  | none =>
    have hv : vs = [] := by
      apply Classical.byContradiction
      intro hne
      obtain ⟨b, off, ha, _⟩ := hR hne
      cases ha
    subst hv
    obtain rfl : m = 0 := by
      rcases Nat.eq_zero_or_pos m with h | h
      · exact h
      · have := Nat.mul_pos h hsz; simp at hl; omega
    exact ⟨v, w, run_append_none base t ty e i size c ht hi v n xs hown, by simpa using hown, ⟨rfl, rfl, rfl, Nat.le_refl _, fun _ _ _ => rfl⟩, .inl rfl⟩
  | some ad =>
    have hn : ∀ j u, vs[j]? = some u → w.cell? (ad.add j) = some u := by
      intro j u hj
      obtain ⟨b, off, ha, hc⟩ := hR (by rintro rfl; simp at hj)
      cases ha
      rw [addr_add]; exact hc j u hj
    obtain ⟨v', w', hr, h2, h3, _, h5⟩ := run_append_own_at (P := P) w base t ty e i z size bytes ht hi hz hsize hby hzs hsz v n xs hown ad m c vs hl hn h1 h63 hbytes hbase
    exact ⟨v', w', hr, h2, h3, h5⟩

theorem wp_append_row {P : Program} {w : World} {o : Oper} {a : Act} {K : Act → World → Prop} {Q : Exit → Act → World → Prop} (s x : Operand) (t : TypeId)
    (ho : o.op = .call { callee := .builtin .append, args := #[s, x], argTypes := #[t, t] })
    (base : Nat) (e : TypeId) (i : TypeInfo) (z : Value) (size bytes : Nat) (ht : P.underlying t = some (.slice e)) (hi : P.info? e = some i) (hz : i.zero = some z)
    (hsize : i.size = size) (hby : i.bytes = bytes) (hzs : z.cells.size = size) (hsz : 0 < size) (hb1 : 0 < bytes)
    (v : Value) (n : Nat) (xs : List Value) (hs : a.eval s = v) (hown : w.ownsRow base e size v n xs)
    (A : Option Addr) (m c : Nat) (vs : List Value) (hx : a.eval x = .slice A m c) (hl : vs.length = m * size) (hR : RowA w A vs) (h1 : ∀ u ∈ vs, u.oneCell' = true)
    (hbytes : (n + m) * bytes ≤ 140737488355328) (hbase : base ≤ w.heap.size)
    (h : ∀ v' w', w'.ownsRow base e size v' (n + m) (xs ++ vs) → w.grownBy w' v.ownBlock → (v'.ownBlock = v.ownBlock ∨ v'.ownBlock = some w.heap.size) → K (a.put o.dst v') w') : o.wp P a w K Q := by
  obtain ⟨v', w', hr, h2, h3, h4⟩ := run_append_row (P := P) (w := w) base t o.type e i z size bytes ht hi hz hsize hby hzs hsz v n xs hown A m c vs hl hR h1 hbytes hb1 hbase
  unfold Oper.wp execOp
  simp only [ho, resolve, invoke, builtin, Sem.run_bind, Sem.run_pure, Result.andThen_ok, List.map_toArray, List.map_cons, List.map_nil, hs, hx, hr]
  exact h v' w' h2 h3 h4

/-- At the list of a plain region's operations. -/
theorem wpList_append_row {P : Program} {w : World} {ops : Array Oper} {rest : List Oper} {o : Oper} {a : Act} {Q : Exit → Act → World → Prop} (hgd : o.guard = none) (s x : Operand) (t : TypeId)
    (ho : o.op = .call { callee := .builtin .append, args := #[s, x], argTypes := #[t, t] })
    (base : Nat) (e : TypeId) (i : TypeInfo) (z : Value) (size bytes : Nat) (ht : P.underlying t = some (.slice e)) (hi : P.info? e = some i) (hz : i.zero = some z)
    (hsize : i.size = size) (hby : i.bytes = bytes) (hzs : z.cells.size = size) (hsz : 0 < size) (hb1 : 0 < bytes)
    (v : Value) (n : Nat) (xs : List Value) (hs : a.eval s = v) (hown : w.ownsRow base e size v n xs)
    (A : Option Addr) (m c : Nat) (vs : List Value) (hx : a.eval x = .slice A m c) (hl : vs.length = m * size) (hR : RowA w A vs) (h1 : ∀ u ∈ vs, u.oneCell' = true)
    (hbytes : (n + m) * bytes ≤ 140737488355328) (hbase : base ≤ w.heap.size)
    (h : ∀ v' w', w'.ownsRow base e size v' (n + m) (xs ++ vs) → w.grownBy w' v.ownBlock → (v'.ownBlock = v.ownBlock ∨ v'.ownBlock = some w.heap.size) → wpList P ops Q rest (a.put o.dst v') w') : wpList P ops Q (o :: rest) a w :=
  wpList_plain hgd fun _ hK => wp_append_row s x t ho base e i z size bytes ht hi hz hsize hby hzs hsz hb1 v n xs hs hown A m c vs hx hl hR h1 hbytes hbase fun v' w' h2 h3 h4 => hK _ _ (h v' w' h2 h3 h4)

/-- A block of the call's own, whole: its cells, none frozen. -/
def Blk (w : World) (e : TypeId) (g cap : Nat) (vs : List Value) : Prop :=
  ∃ cur, w.heap[g]? = some (.cells cur e (0, 0)) ∧ cur.size = cap ∧ cur.toList.take vs.length = vs

theorem Blk.lt {w : World} {e : TypeId} {g cap : Nat} {vs : List Value} (h : Blk w e g cap vs) : g < w.heap.size := by
  obtain ⟨cur, hg, _⟩ := h
  rcases Nat.lt_or_ge g w.heap.size with h | h
  · exact h
  · rw [Array.getElem?_eq_none h] at hg; cases hg

theorem Blk.cell {w : World} {e : TypeId} {g cap : Nat} {vs : List Value} (h : Blk w e g cap vs) {j : Nat} {u : Value} (hj : vs[j]? = some u) : w.cell? ⟨g, j, none⟩ = some u := by
  obtain ⟨cur, hg, _, ht⟩ := h
  have h2 : cur[j]? = some u := by
    rw [← ht, List.getElem?_take] at hj
    split at hj
    · simpa using hj
    · cases hj
  rw [cell_of_row w g j cur e (0, 0) hg]; exact h2

theorem Blk.frozen {w : World} {e : TypeId} {g cap : Nat} {vs : List Value} (h : Blk w e g cap vs) (j : Nat) : w.frozen? ⟨g, j, none⟩ = false := by
  obtain ⟨cur, hg, _, _⟩ := h
  simp [World.frozen?, hg]

theorem Blk.row {w : World} {e : TypeId} {g cap : Nat} {vs : List Value} (h : Blk w e g cap vs) : RowA w (some ⟨g, 0, none⟩) vs :=
  fun _ => ⟨g, 0, rfl, fun j u hj => by rw [Nat.zero_add]; exact h.cell hj⟩

theorem Blk.below {w W : World} {e : TypeId} {g cap : Nat} {vs : List Value} (h : Blk w e g cap vs) (hb : Below w.heap.size w W) : Blk W e g cap vs := by
  have := h.lt
  obtain ⟨cur, hg, r⟩ := h
  exact ⟨cur, by rw [hb.block g this]; exact hg, r⟩

theorem Blk.drew {w : World} {e : TypeId} {g cap : Nat} {vs : List Value} (h : Blk w e g cap vs) : Blk w.drew e g cap vs := h

theorem Blk.set {w : World} {e : TypeId} {g cap : Nat} {vs : List Value} (h : Blk w e g cap vs) {j : Nat} (u : Value) (hj : j < vs.length) : Blk (w.setCell ⟨g, j, none⟩ u) e g cap (vs.set j u) := by
  have hlt := h.lt
  obtain ⟨cur, hg, hc, ht⟩ := h
  refine ⟨cur.setIfInBounds j u, ?_, by simpa using hc, ?_⟩
  · simp only [World.setCell, Array.getElem?_modify, if_true, hg, Option.map_some]
    rfl
  · rw [Array.toList_setIfInBounds, List.length_set, List.take_set, ht]

theorem own_blk {w : World} {base : Nat} {e : TypeId} {v : Value} {n : Nat} {xs : List Value} (h : w.ownsRow base e 1 v n xs) (hn : 0 < n) :
    ∃ g cap, v = .slice (some ⟨g, 0, none⟩) n cap ∧ base ≤ g ∧ n ≤ cap ∧ cap ≤ maxLen ∧ Blk w e g cap xs := by
  obtain ⟨hl, h2⟩ := h
  rcases h2 with ⟨_, h0⟩ | ⟨g, cap, cur, hv, hb, hg, hnc, hcm, hcs, htk⟩
  · omega
  · exact ⟨g, cap, hv, hb, hnc, hcm, cur, hg, by omega, by rw [hl]; exact htk⟩

end Go.Proofs.Ytfceileohkngnaa

/- Plain mathematics of the sum: lists of integers alone; no program. -/
namespace Go.Proofs.Ytfceileohkngnaa

/-- The two halves of a sum behind the bytes of a list. -/
def adl : List Int → Int × Int → Int × Int
  | [], p => p
  | x :: r, p => adl r ((p.1 + x) % 65521, (p.2 + (p.1 + x) % 65521) % 65521)

theorem adl_append (xs ys : List Int) (p : Int × Int) : adl (xs ++ ys) p = adl ys (adl xs p) := by
  induction xs generalizing p with
  | nil => rfl
  | cons x r ih => simp only [List.cons_append, adl]; exact ih _

theorem adl_snoc (xs : List Int) (x : Int) (p : Int × Int) :
    adl (xs ++ [x]) p = (((adl xs p).1 + x) % 65521, ((adl xs p).2 + ((adl xs p).1 + x) % 65521) % 65521) := by
  rw [adl_append]; rfl

def Lim (p : Int × Int) : Prop := 0 ≤ p.1 ∧ p.1 < 65521 ∧ 0 ≤ p.2 ∧ p.2 < 65521

theorem adl_lim (xs : List Int) (p : Int × Int) (h : Lim p) : Lim (adl xs p) := by
  induction xs generalizing p with
  | nil => exact h
  | cons x r ih =>
    apply ih
    refine ⟨?_, ?_, ?_, ?_⟩ <;> simp only <;> omega

/-- The halves that a sum is read as. -/
def halves (s : Int) : Int × Int := (s % 65536 % 65521, s / 65536 % 65521)

theorem halves_lim (s : Int) : Lim (halves s) := by
  refine ⟨?_, ?_, ?_, ?_⟩ <;> simp only [halves] <;> omega

def join (p : Int × Int) : Int := p.2 * 65536 + p.1

theorem join_lim (p : Int × Int) (h : Lim p) : 0 ≤ join p ∧ join p ≤ 4294967295 := by
  obtain ⟨h1, h2, h3, h4⟩ := h
  unfold join; omega

theorem halves_join (p : Int × Int) (h : Lim p) : halves (join p) = p := by
  obtain ⟨h1, h2, h3, h4⟩ := h
  obtain ⟨a, b⟩ := p
  simp only at h1 h2 h3 h4
  simp only [halves, join, Prod.mk.injEq]
  omega

def more (s : Int) (bs : List Int) : Int := join (adl bs (halves s))

theorem more_lim (s : Int) (bs : List Int) : 0 ≤ more s bs ∧ more s bs ≤ 4294967295 := join_lim _ (adl_lim _ _ (halves_lim s))

def sums (s : Int) : List (List Int) → Int
  | [] => s
  | p :: r => sums (more s p) r

theorem sums_append (s : Int) (xs ys : List (List Int)) : sums s (xs ++ ys) = sums (sums s xs) ys := by
  induction xs generalizing s with
  | nil => rfl
  | cons x r ih => simp only [List.cons_append, sums]; exact ih _

theorem sums_snoc (s : Int) (xs : List (List Int)) (x : List Int) : sums s (xs ++ [x]) = more (sums s xs) x := by
  rw [sums_append]; rfl

theorem sums_lim (s : Int) (xs : List (List Int)) (h : 0 ≤ s ∧ s ≤ 4294967295) : 0 ≤ sums s xs ∧ sums s xs ≤ 4294967295 := by
  induction xs generalizing s with
  | nil => exact h
  | cons x r ih => exact ih _ (more_lim _ _)

/-- A sum that is one: both its halves are below the prime. -/
def Fine (s : Int) : Prop := ∃ p, Lim p ∧ s = join p
theorem fine_one : Fine 1 := ⟨(1, 0), by simp [Lim], rfl⟩
theorem fine_more (s : Int) (bs : List Int) : Fine (more s bs) := ⟨_, adl_lim _ _ (halves_lim s), rfl⟩
theorem fine_sums (s : Int) (xs : List (List Int)) (h : Fine s) : Fine (sums s xs) := by
  induction xs generalizing s with
  | nil => exact h
  | cons x r ih => exact ih _ (fine_more _ _)

theorem more_nil (s : Int) (h : Fine s) : more s [] = s := by
  obtain ⟨p, hp, rfl⟩ := h
  simp only [more, adl]; rw [halves_join p hp]

theorem more_append (s : Int) (xs ys : List Int) : more s (xs ++ ys) = more (more s xs) ys := by
  simp only [more]
  rw [adl_append, halves_join _ (adl_lim _ _ (halves_lim s))]

/-- The sum of parts is the sum of their bytes. -/
theorem sums_flat (s : Int) (xs : List (List Int)) (h : Fine s) : sums s xs = more s xs.flatten := by
  induction xs generalizing s with
  | nil => simp only [sums, List.flatten_nil]; rw [more_nil s h]
  | cons x r ih => simp only [sums, List.flatten_cons]; rw [ih _ (fine_more _ _), more_append]

theorem tmod_facts (k n : Int) (hn : 1 ≤ n) : -n < k.tmod n ∧ k.tmod n < n ∧ (k.tmod n + n) % n = k % n := by
  have e := Int.tmod_eq_emod (a := k) (b := n)
  have h1 := Int.emod_nonneg k (show n ≠ 0 by omega)
  have h2 := Int.emod_lt_of_pos k (show 0 < n by omega)
  have hna : (n.natAbs : Int) = n := by omega
  by_cases hc : 0 ≤ k ∨ n ∣ k
  · rw [if_pos hc] at e
    have e' : k.tmod n = k % n := by omega
    refine ⟨by omega, by omega, ?_⟩
    rw [Int.add_emod_right, e', Int.emod_emod_of_dvd _ (Int.dvd_refl n)]
  · rw [if_neg hc, hna] at e
    have h3 : k % n ≠ 0 := fun h => hc (.inr (Int.dvd_of_emod_eq_zero h))
    refine ⟨by omega, by omega, ?_⟩
    have e2 : k.tmod n + n = k % n := by omega
    rw [e2, Int.emod_emod_of_dvd _ (Int.dvd_refl n)]

end Go.Proofs.Ytfceileohkngnaa

/- Plain mathematics: one byte turned, two bytes swapped, one byte more. -/
namespace Go.Proofs.Ytfceileohkngnaa

def tot : List Int → Int
  | [] => 0
  | x :: r => x + tot r
def wei : List Int → Int
  | [] => 0
  | x :: r => ((r.length : Int) + 1) * x + wei r

theorem adl_low (bs : List Int) (p : Int × Int) : (65521 : Int) ∣ (adl bs p).1 - (p.1 + tot bs) := by
  induction bs generalizing p with
  | nil => simp [adl, tot]
  | cons x r ih =>
    have h := ih ((p.1 + x) % 65521, (p.2 + (p.1 + x) % 65521) % 65521)
    simp only [adl, tot] at h ⊢
    omega

theorem adl_high (bs : List Int) (p : Int × Int) : (65521 : Int) ∣ (adl bs p).2 - (p.2 + (bs.length : Int) * p.1 + wei bs) := by
  induction bs generalizing p with
  | nil => simp [adl, wei]
  | cons x r ih =>
    have h := ih ((p.1 + x) % 65521, (p.2 + (p.1 + x) % 65521) % 65521)
    simp only [adl, wei, List.length_cons] at h ⊢
    obtain ⟨q, hq⟩ := h
    have e1 := Int.emod_add_mul_ediv (p.1 + x) 65521
    have e2 := Int.emod_add_mul_ediv (p.2 + (p.1 + x) % 65521) 65521
    generalize (p.1 + x) % 65521 = u at *
    generalize (p.1 + x) / 65521 = u' at *
    generalize (p.2 + u) % 65521 = v at *
    generalize (p.2 + u) / 65521 = v' at *
    refine ⟨q - v' - u' - (r.length : Int) * u', ?_⟩
    have e3 : u = p.1 + x - 65521 * u' := by omega
    subst e3
    have e4 : v = p.2 + (p.1 + x - 65521 * u') - 65521 * v' := by omega
    subst e4
    have e5 : (r.length : Int) * (65521 * u') = 65521 * ((r.length : Int) * u') := Int.mul_left_comm _ _ _
    have e6 : ((r.length + 1 : Nat) : Int) = (r.length : Int) + 1 := by omega
    rw [e6]
    simp only [Int.mul_add, Int.add_mul, Int.mul_sub, Int.one_mul, e5] at hq ⊢
    omega

theorem tot_set (bs : List Int) (i : Nat) (v : Int) (h : i < bs.length) : tot (bs.set i v) = tot bs + v - bs.getD i 0 := by
  induction bs generalizing i with
  | nil => simp at h
  | cons x r ih =>
    cases i with
    | zero => simp [tot]; omega
    | succ i =>
      have := ih i (by simpa using h)
      simp [tot] at this ⊢
      omega

theorem wei_set (bs : List Int) (i : Nat) (v : Int) (h : i < bs.length) : wei (bs.set i v) = wei bs + ((bs.length : Int) - i) * (v - bs.getD i 0) := by
  induction bs generalizing i with
  | nil => simp at h
  | cons x r ih =>
    cases i with
    | zero => simp [wei, Int.mul_sub]; omega
    | succ i =>
      have := ih i (by simpa using h)
      simp only [wei, List.set_cons_succ, List.length_set, List.getD_cons_succ, List.length_cons] at this ⊢
      rw [this]
      have e6 : ((r.length + 1 : Nat) : Int) - ((i + 1 : Nat) : Int) = (r.length : Int) - (i : Int) := by omega
      rw [e6]
      omega

theorem join_inj {p q : Int × Int} (hp : Lim p) (hq : Lim q) (h : join p = join q) : p = q := by
  have := congrArg halves h
  rwa [halves_join p hp, halves_join q hq] at this

theorem sums_one (bs : List Int) : sums 1 [bs] = join (adl bs (1, 0)) := by
  simp only [sums, more]; rfl

theorem one_lim : Lim (1, 0) := by simp [Lim]

theorem turn_eq (bs : List Int) (i : Nat) (v : Int) (h : i < bs.length) (hv : 0 ≤ v ∧ v ≤ 255) (hx : 0 ≤ bs.getD i 0 ∧ bs.getD i 0 ≤ 255) :
    (sums 1 [bs.set i v] == sums 1 [bs]) = (v == bs.getD i 0) := by
  by_cases e : v = bs.getD i 0
  · have : bs.set i v = bs := by
      apply List.ext_getElem?
      intro k
      rw [List.getElem?_set]
      split
      · rename_i hk; subst hk; rw [e, List.getD_eq_getElem?_getD, List.getElem?_eq_getElem h]; rfl
      · rfl
    rw [this, e]; simp
  · have h2 : sums 1 [bs.set i v] ≠ sums 1 [bs] := by
      rw [sums_one, sums_one]
      intro hj
      have hp := join_inj (adl_lim _ _ one_lim) (adl_lim _ _ one_lim) hj
      have l1 := adl_low (bs.set i v) (1, 0)
      have l2 := adl_low bs (1, 0)
      rw [hp, tot_set bs i v h] at l1
      have := congrArg Prod.fst hp
      simp only at l1 l2
      omega
    rw [beq_eq_false_iff_ne.2 h2, beq_eq_false_iff_ne.2 e]

theorem cop : ∀ d : Fin 256, d.val = 0 ∨ Nat.gcd 65521 d.val = 1 := by decide +kernel

theorem not_dvd (m d : Nat) (hm : 0 < m) (hm2 : m < 65521) (hd : 0 < d) (hd2 : d < 256) : ¬ 65521 ∣ m * d := by
  intro h
  have hg : Nat.Coprime 65521 d := by
    rcases cop ⟨d, hd2⟩ with h | h
    · simp at h; omega
    · exact h
  have := Nat.le_of_dvd hm (hg.dvd_of_dvd_mul_right h)
  omega

theorem not_dvd_int (m d : Int) (hm : m ≠ 0) (hm1 : -65521 < m) (hm2 : m < 65521) (hd : d ≠ 0) (hd1 : -256 < d) (hd2 : d < 256) : ¬ (65521 : Int) ∣ m * d := by
  intro h
  have h2 : (65521 : Nat) ∣ m.natAbs * d.natAbs := by
    rw [← Int.natAbs_mul]
    exact Int.natAbs_dvd_natAbs.2 h
  exact not_dvd m.natAbs d.natAbs (by omega) (by omega) (by omega) (by omega) h2

theorem swap_eq (bs : List Int) (i j : Nat) (hi : i < bs.length) (hj : j < bs.length) (hl : bs.length ≤ 20000) (hx : 0 ≤ bs.getD i 0 ∧ bs.getD i 0 ≤ 255) (hy : 0 ≤ bs.getD j 0 ∧ bs.getD j 0 ≤ 255) :
    (sums 1 [(bs.set i (bs.getD j 0)).set j (bs.getD i 0)] == sums 1 [bs]) = (bs.getD i 0 == bs.getD j 0) := by
  have self : ∀ (l : List Int) (k : Nat), k < l.length → l.set k (l.getD k 0) = l := by
    intro l k hk
    apply List.ext_getElem?
    intro m
    rw [List.getElem?_set]
    split
    · rename_i hk'; subst hk'; rw [List.getD_eq_getElem?_getD, List.getElem?_eq_getElem hk]; rfl
    · rfl
  by_cases e : bs.getD i 0 = bs.getD j 0
  · rw [← e, self bs i hi, e, self bs j hj]; simp
  · have hij : i ≠ j := by rintro rfl; exact e rfl
    have gj : (bs.set i (bs.getD j 0)).getD j 0 = bs.getD j 0 := by
      rw [List.getD_eq_getElem?_getD, List.getElem?_set, if_neg hij, ← List.getD_eq_getElem?_getD]
    have h2 : sums 1 [(bs.set i (bs.getD j 0)).set j (bs.getD i 0)] ≠ sums 1 [bs] := by
      rw [sums_one, sums_one]
      intro hjn
      have hp := join_inj (adl_lim _ _ one_lim) (adl_lim _ _ one_lim) hjn
      have l1 := adl_high ((bs.set i (bs.getD j 0)).set j (bs.getD i 0)) (1, 0)
      have l2 := adl_high bs (1, 0)
      rw [hp, wei_set _ j _ (by simpa using hj), gj, wei_set bs i _ hi] at l1
      simp only [List.length_set] at l1 l2
      have h3 : (65521 : Int) ∣ ((j : Int) - i) * (bs.getD j 0 - bs.getD i 0) := by
        have h4 := Int.dvd_sub l2 l1
        have e4 : ((adl bs (1, 0)).2 - (0 + (bs.length : Int) * 1 + wei bs)) - ((adl bs (1, 0)).2 - (0 + (bs.length : Int) * 1 + (wei bs + ((bs.length : Int) - i) * (bs.getD j 0 - bs.getD i 0) + ((bs.length : Int) - j) * (bs.getD i 0 - bs.getD j 0)))) = ((j : Int) - i) * (bs.getD j 0 - bs.getD i 0) := by
          simp only [Int.sub_mul, Int.mul_sub]
          omega
        rwa [e4] at h4
      exact not_dvd_int _ _ (by omega) (by omega) (by omega) (by omega) (by omega) (by omega) h3
    rw [beq_eq_false_iff_ne.2 h2, beq_eq_false_iff_ne.2 e]

end Go.Proofs.Ytfceileohkngnaa

/- What tally.More, weirgateref01.More and weirgatekeep.Mod come to: contracts over the translation. -/
namespace Go.Proofs.Ytfceileohkngnaa
open Go.RowKit
set_option linter.unusedVariables false

/-- The bytes bs lie at address a in w (nothing is asked of an empty list). -/
def BysA (w : World) (a : Option Addr) (bs : List Int) : Prop :=
  bs ≠ [] → ∃ b off, a = some ⟨b, off, none⟩ ∧ ∀ i, i < bs.length → w.cell? ⟨b, off + i, none⟩ = some (.int .u8 (bs.getD i 0))

def Byt (bs : List Int) : Prop := ∀ i, 0 ≤ bs.getD i 0 ∧ bs.getD i 0 ≤ 255

theorem ret_int {k : IntKind} {a b : Int} (h : a = b) : Ending.returned (.int k a) = .returned (.int k b) := by rw [h]

theorem take_snoc (l : List Int) (k : Nat) (h : k < l.length) : l.take (k + 1) = l.take k ++ [l.getD k 0] := by
  rw [List.take_succ_eq_append_getElem h, List.getD_eq_getElem?_getD, List.getElem?_eq_getElem h]; rfl

set_option maxHeartbeats 400000 in
theorem more_any (s : Int) (hs : 0 ≤ s ∧ s ≤ 4294967295) (a : Option Addr) (bs : List Int) (cap : Nat) (w : World)
    (hb : BysA w a bs) (hB : Byt bs) (hl : bs.length ≤ maxLen) :
    Calls Try.prog 73 #[.int .u32 s, .slice a bs.length cap] w fun e w' => e = .returned (.int .u32 (more s bs)) ∧ w' = w := by
  unfold maxLen at hl
  obtain ⟨hs1, hs2⟩ := hs
  go_enter Try.func73, Try.ntmps73
  go_wp2
  go_loop [5, 6, 17] (fun lo hi i => ∃ k : Nat, k ≤ bs.length ∧ i = .int .i64 k ∧ lo = .int .u32 (adl (bs.take k) (halves s)).1 ∧ hi = .int .u32 (adl (bs.take k) (halves s)).2) (fun _ _ i => bs.length - (intOf i).toNat)
  case atStart => exact ⟨0, Nat.zero_le _, rfl, rfl, rfl⟩
  case round =>
    obtain ⟨k, hk, rfl, rfl, rfl⟩ := hrel
    by_cases hlt : k < bs.length
    · obtain ⟨b, off, rfl, hc⟩ := hb (by rintro rfl; simp at hlt)
      have hck := hc k hlt
      obtain ⟨x1, x2⟩ := hB k
      have HS : Hid (bs.take (k + 1) = bs.take k ++ [bs.getD k 0]) := take_snoc bs k hlt
      generalize bs.getD k 0 = x at *
      have hL := adl_lim (bs.take k) _ (halves_lim s)
      have HP : Hid (adl (bs.take (k + 1)) (halves s) = (((adl (bs.take k) (halves s)).1 + x) % 65521, ((adl (bs.take k) (halves s)).2 + ((adl (bs.take k) (halves s)).1 + x) % 65521) % 65521)) := by
        show _ = _
        rw [HS.out, adl_snoc]
      clear HS hc hb hB
      generalize adl (bs.take k) (halves s) = p at *
      obtain ⟨p1, p2⟩ := p
      obtain ⟨l1, l2, l3, l4⟩ := hL
      simp only at l1 l2 l3 l4
      go_wp2
      go_round
      case rel => exact ⟨k + 1, by omega, by go_num, by rw [HP.out], by rw [HP.out]⟩
      case measure => simp [intOf]; omega
    · have hL := adl_lim (bs.take k) _ (halves_lim s)
      have HT : Hid (bs.take k = bs) := List.take_of_length_le (by omega)
      have HM : Hid (more s bs = join (adl (bs.take k) (halves s))) := by show _ = _; rw [HT.out]; rfl
      generalize adl (bs.take k) (halves s) = p at *
      obtain ⟨p1, p2⟩ := p
      obtain ⟨l1, l2, l3, l4⟩ := hL
      simp only at l1 l2 l3 l4
      go_wp2
      go_ret
      exact ⟨ret_int (by rw [HM.out]; rfl), rfl⟩

set_option maxHeartbeats 400000 in
theorem refmore_any (s : Int) (hs : 0 ≤ s ∧ s ≤ 4294967295) (a : Option Addr) (bs : List Int) (cap : Nat) (w : World)
    (hb : BysA w a bs) (hB : Byt bs) (hl : bs.length ≤ maxLen) :
    Calls Try.prog 74 #[.int .u32 s, .slice a bs.length cap] w fun e w' => e = .returned (.int .u32 (more s bs)) ∧ w' = w := by
  unfold maxLen at hl
  obtain ⟨hs1, hs2⟩ := hs
  go_enter Try.func74, Try.ntmps74
  go_wp2
  go_loop [5, 6, 7] (fun lo hi i => ∃ k : Nat, k ≤ bs.length ∧ i = .int .i64 k ∧ lo = .int .u32 (adl (bs.take k) (halves s)).1 ∧ hi = .int .u32 (adl (bs.take k) (halves s)).2) (fun _ _ i => bs.length - (intOf i).toNat)
  case atStart => exact ⟨0, Nat.zero_le _, rfl, rfl, rfl⟩
  case round =>
    obtain ⟨k, hk, rfl, rfl, rfl⟩ := hrel
    by_cases hlt : k < bs.length
    · obtain ⟨b, off, rfl, hc⟩ := hb (by rintro rfl; simp at hlt)
      have hck := hc k hlt
      obtain ⟨x1, x2⟩ := hB k
      have HS : Hid (bs.take (k + 1) = bs.take k ++ [bs.getD k 0]) := take_snoc bs k hlt
      generalize bs.getD k 0 = x at *
      have hL := adl_lim (bs.take k) _ (halves_lim s)
      have HP : Hid (adl (bs.take (k + 1)) (halves s) = (((adl (bs.take k) (halves s)).1 + x) % 65521, ((adl (bs.take k) (halves s)).2 + ((adl (bs.take k) (halves s)).1 + x) % 65521) % 65521)) := by
        show _ = _
        rw [HS.out, adl_snoc]
      clear HS hc hb hB
      generalize adl (bs.take k) (halves s) = p at *
      obtain ⟨p1, p2⟩ := p
      obtain ⟨l1, l2, l3, l4⟩ := hL
      simp only at l1 l2 l3 l4
      go_wp2
      go_round
      case rel => exact ⟨k + 1, by omega, by go_num, by rw [HP.out], by rw [HP.out]⟩
      case measure => simp [intOf]; omega
    · have hL := adl_lim (bs.take k) _ (halves_lim s)
      have HT : Hid (bs.take k = bs) := List.take_of_length_le (by omega)
      have HM : Hid (more s bs = join (adl (bs.take k) (halves s))) := by show _ = _; rw [HT.out]; rfl
      generalize adl (bs.take k) (halves s) = p at *
      obtain ⟨p1, p2⟩ := p
      obtain ⟨l1, l2, l3, l4⟩ := hL
      simp only at l1 l2 l3 l4
      go_wp2
      go_ret
      exact ⟨ret_int (by rw [HM.out]; rfl), rfl⟩

/-- The parts pss lie at address a in w. -/
def PartsA (w : World) (a : Option Addr) (pss : List (List Int)) : Prop :=
  pss ≠ [] → ∃ b off, a = some ⟨b, off, none⟩ ∧ ∀ i, i < pss.length → ∃ a' cap', w.cell? ⟨b, off + i, none⟩ = some (.slice a' (pss.getD i []).length cap') ∧ BysA w a' (pss.getD i [])

def Byts (pss : List (List Int)) : Prop := ∀ i, Byt (pss.getD i []) ∧ (pss.getD i []).length ≤ maxLen

theorem takes_snoc (l : List (List Int)) (k : Nat) (h : k < l.length) : l.take (k + 1) = l.take k ++ [l.getD k []] := by
  rw [List.take_succ_eq_append_getElem h, List.getD_eq_getElem?_getD, List.getElem?_eq_getElem h]; rfl

set_option maxHeartbeats 400000 in
theorem sum_any (a : Option Addr) (pss : List (List Int)) (cap : Nat) (w : World)
    (hp : PartsA w a pss) (hB : Byts pss) (hl : pss.length ≤ maxLen) :
    Calls Try.prog 59 #[.slice a pss.length cap] w fun e w' => e = .returned (.int .u32 (sums 1 pss)) ∧ w' = w := by
  have hml : maxLen = 9223372036854775807 := rfl
  rw [hml] at hl
  clear hml
  go_enter Try.func59, Try.ntmps59
  go_wp2
  go_loop [3, 8] (fun t i => ∃ k : Nat, k ≤ pss.length ∧ i = .int .i64 k ∧ t = .int .u32 (sums 1 (pss.take k))) (fun _ i => pss.length - (intOf i).toNat)
  case atStart => exact ⟨0, Nat.zero_le _, rfl, rfl⟩
  case round =>
    obtain ⟨k, hk, rfl, rfl⟩ := hrel
    by_cases hlt : k < pss.length
    · obtain ⟨b, off, rfl, hc⟩ := hp (by rintro rfl; simp at hlt)
      obtain ⟨a', cap', hck, hby⟩ := hc k hlt
      obtain ⟨hB1, hB2⟩ := hB k
      have HS : Hid (sums 1 (pss.take (k + 1)) = more (sums 1 (pss.take k)) (pss.getD k [])) := by
        show _ = _
        rw [takes_snoc pss k hlt, sums_snoc]
      have hL := sums_lim 1 (pss.take k) (by omega)
      generalize pss.getD k [] = ps at *
      generalize sums 1 (pss.take k) = t at *
      clear hc hp hB
      go_wp2_with (go_at_call 73; refine (more_any t hL a' ps cap' _ hby hB1 hB2).mono ?_; rintro e w' ⟨rfl, rfl⟩)
      go_round
      case rel => exact ⟨k + 1, by omega, by go_num, by rw [HS.out]⟩
      case measure => simp [intOf]; omega
    · have HT : Hid (pss.take k = pss) := List.take_of_length_le (by omega)
      go_wp2
      go_ret
      exact ⟨ret_int (by rw [HT.out]), rfl⟩

set_option maxHeartbeats 400000 in
theorem refsum_any (a : Option Addr) (pss : List (List Int)) (cap : Nat) (w : World)
    (hp : PartsA w a pss) (hB : Byts pss) (hl : pss.length ≤ maxLen) :
    Calls Try.prog 61 #[.slice a pss.length cap] w fun e w' => e = .returned (.int .u32 (sums 1 pss)) ∧ w' = w := by
  have hml : maxLen = 9223372036854775807 := rfl
  rw [hml] at hl
  clear hml
  go_enter Try.func61, Try.ntmps61
  go_wp2
  go_loop [3, 4] (fun t i => ∃ k : Nat, k ≤ pss.length ∧ i = .int .i64 k ∧ t = .int .u32 (sums 1 (pss.take k))) (fun _ i => pss.length - (intOf i).toNat)
  case atStart => exact ⟨0, Nat.zero_le _, rfl, rfl⟩
  case round =>
    obtain ⟨k, hk, rfl, rfl⟩ := hrel
    by_cases hlt : k < pss.length
    · obtain ⟨b, off, rfl, hc⟩ := hp (by rintro rfl; simp at hlt)
      obtain ⟨a', cap', hck, hby⟩ := hc k hlt
      obtain ⟨hB1, hB2⟩ := hB k
      have HS : Hid (sums 1 (pss.take (k + 1)) = more (sums 1 (pss.take k)) (pss.getD k [])) := by
        show _ = _
        rw [takes_snoc pss k hlt, sums_snoc]
      have hL := sums_lim 1 (pss.take k) (by omega)
      generalize pss.getD k [] = ps at *
      generalize sums 1 (pss.take k) = t at *
      clear hc hp hB
      go_wp2_with (go_at_call 74; refine (refmore_any t hL a' ps cap' _ hby hB1 hB2).mono ?_; rintro e w' ⟨rfl, rfl⟩)
      go_round
      case rel => exact ⟨k + 1, by omega, by go_num, by rw [HS.out]⟩
      case measure => simp [intOf]; omega
    · have HT : Hid (pss.take k = pss) := List.take_of_length_le (by omega)
      go_wp2
      go_ret
      exact ⟨ret_int (by rw [HT.out]), rfl⟩

/-- Not fair: more bytes than are gone through, or more than a hundred parts. -/
def fairFrom (n : Int) : List (List Int) → Bool
  | [] => true
  | p :: r => let n' := n + min (p.length : Int) 20001; if n' > 20000 then false else fairFrom n' r

theorem fairFrom_append (n : Int) (xs ys : List (List Int)) (h : fairFrom n (xs ++ ys) = true) : fairFrom n xs = true := by
  induction xs generalizing n with
  | nil => rfl
  | cons x r ih =>
    simp only [List.cons_append, fairFrom] at h ⊢
    split
    · rename_i hc; rw [if_pos hc] at h; cases h
    · rename_i hc; rw [if_neg hc] at h; exact ih _ h

def fairB (pss : List (List Int)) : Bool := fairFrom 0 pss && decide (pss.length ≤ 100)

end Go.Proofs.Ytfceileohkngnaa

/- What weirgatekeep.Lists comes to at two lists of parts that are alike. -/
namespace Go.Proofs.Ytfceileohkngnaa
open Go.RowKit
set_option linter.unusedVariables false

theorem bysA_drew {w : World} {a : Option Addr} {bs : List Int} (n : Nat) (h : BysA w a bs) : BysA (w.drewN n) a bs := by
  intro hne
  obtain ⟨b, off, ha, hc⟩ := h hne
  exact ⟨b, off, ha, fun i hi => by simpa using hc i hi⟩

theorem conv_any {w : World} {a : Option Addr} {bs : List Int} {cap : Nat} (h : BysA w a bs) :
    (convert 23 9 (.slice a bs.length cap)).run Try.prog w = .ok (.string (strOfNums bs)) w := by
  by_cases hne : bs = []
  · subst hne
    cases a with
    | none => exact run_convert_bytes_nil w 23 5 Try.underlying23 Try.underlying5 0 cap 9 Try.underlying9
    | some x =>
      have hl : (loadCells x 0).run Try.prog w = .ok (([] : List Int).map (Value.int .u8)).toArray w :=
        run_loadCells_list (P := Try.prog) w x [] (fun j v hj => by simp at hj)
      rw [run_convert_bytes_string w 23 9 5 _ _ cap Try.underlying23 Try.underlying5 Try.underlying9]
      exact run_bytesToString w x 0 cap [] hl
  · obtain ⟨b, off, rfl, hc⟩ := h hne
    exact run_convert_bytes_arg w 23 5 Try.underlying23 Try.underlying5 b off bs.length cap bs rfl hc 9 Try.underlying9

end Go.Proofs.Ytfceileohkngnaa

/- What the laws' own 'wakes' comes to: true; old memory is as it was. -/
namespace Go.Proofs.Ytfceileohkngnaa
open Go.RowKit
set_option linter.unusedVariables false
set_option linter.unusedSimpArgs false

theorem s0 : sums 1 [] = 1 := by decide
theorem s1 : sums 1 [[97]] = 6422626 := by decide +kernel
theorem s2 : sums 1 [[87, 105, 107, 105], [112, 101, 100, 105, 97]] = 300286872 := by decide +kernel
theorem s3 : more 1 [97] = 6422626 := by decide +kernel

theorem byt_of {bs : List Int} (h : ∀ x ∈ bs, 0 ≤ x ∧ x ≤ 255) : Byt bs := by
  intro i
  rw [List.getD_eq_getElem?_getD]
  by_cases hi : i < bs.length
  · rw [List.getElem?_eq_getElem hi]; exact h _ (List.getElem_mem hi)
  · rw [List.getElem?_eq_none (by omega)]; simp

theorem byts_of {pss : List (List Int)} (h : ∀ p ∈ pss, Byt p ∧ p.length ≤ maxLen) : Byts pss := by
  intro i
  rw [List.getD_eq_getElem?_getD]
  by_cases hi : i < pss.length
  · rw [List.getElem?_eq_getElem hi]; exact h _ (List.getElem_mem hi)
  · rw [List.getElem?_eq_none (by omega)]; exact ⟨by intro j; simp, by simp⟩

theorem conv_const (w : World) (C : Array Value) (n c N : Nat) (h : N = w.heap.size) :
    (convert 23 23 (.slice (some ⟨N, 0, none⟩) n c)).run Try.prog (w.alloc (.cells C 5)) = .ok (.slice (some ⟨N, 0, none⟩) n c) (w.alloc (.cells C 5 (C.size, C.size + 1))) := by
  subst h
  exact Lib.run_convert_bytes_const (P := Try.prog) w 23 5 C n c Try.underlying23 Try.underlying5

theorem cell_at (w : World) (c : Array Value) (t : TypeId) (r : Nat × Nat) (n i : Nat) (hn : n = w.heap.size) : (w.alloc (.cells c t r)).cell? ⟨n, i, none⟩ = c[i]? := by
  subst hn
  unfold World.cell? World.alloc
  simp only [Array.getElem?_push, if_true]
  rfl

/-- One part, whose bytes are those of a block of its own. -/
theorem one_part {W : World} {a' : Option Addr} {bs : List Int} {cap' b : Nat} (hc : W.cell? ⟨b, 0, none⟩ = some (.slice a' bs.length cap')) (hb : BysA W a' bs) : PartsA W (some ⟨b, 0, none⟩) [bs] := by
  intro _
  refine ⟨b, 0, rfl, fun i hi => ?_⟩
  have : i = 0 := by simpa using hi
  subst this
  exact ⟨a', cap', by simpa using hc, by simpa using hb⟩

theorem two_parts {W : World} {a1 a2 : Option Addr} {b1 b2 : List Int} {c1 c2 b : Nat} (h0 : W.cell? ⟨b, 0, none⟩ = some (.slice a1 b1.length c1)) (h1 : W.cell? ⟨b, 1, none⟩ = some (.slice a2 b2.length c2))
    (hb1 : BysA W a1 b1) (hb2 : BysA W a2 b2) : PartsA W (some ⟨b, 0, none⟩) [b1, b2] := by
  intro _
  refine ⟨b, 0, rfl, fun i hi => ?_⟩
  have : i = 0 ∨ i = 1 := by simp at hi; omega
  rcases this with rfl | rfl
  · exact ⟨a1, c1, by simpa using h0, by simpa using hb1⟩
  · exact ⟨a2, c2, by simpa using h1, by simpa using hb2⟩

theorem bysA_block {W : World} {b : Nat} {bs : List Int} (h : ∀ i, i < bs.length → W.cell? ⟨b, i, none⟩ = some (.int .u8 (bs.getD i 0))) : BysA W (some ⟨b, 0, none⟩) bs :=
  fun _ => ⟨b, 0, rfl, fun i hi => by rw [Nat.zero_add]; exact h i hi⟩

theorem bys1 {W : World} {b : Nat} {x : Int} (h : W.cell? ⟨b, 0, none⟩ = some (.int .u8 x)) : BysA W (some ⟨b, 0, none⟩) [x] :=
  bysA_block fun i hi => by
    have : i = 0 := by simpa using hi
    subst this; simpa using h

theorem cell_past {w : World} {n i : Nat} {v : Value} (o : Obj) (h : w.cell? ⟨n, i, none⟩ = some v) : (w.alloc o).cell? ⟨n, i, none⟩ = some v := Lib.cell?_alloc_marked o h

theorem mem1 (w0 : World) : PartsA ((w0.alloc (.cells #[.int .u8 97] 5 (1, 2))).alloc (.cells #[.slice (some ⟨w0.heap.size, 0, none⟩) 1 1] 23)) (some ⟨w0.heap.size + 1, 0, none⟩) [[97]] :=
  one_part (a' := some ⟨w0.heap.size, 0, none⟩) (cap' := 1) (by rw [cell_at _ _ _ _ _ _ (by simp)]; rfl) (bys1 (cell_past _ (by rw [cell_at _ _ _ _ _ _ rfl]; rfl)))

theorem mem2 (w1 : World) : PartsA (((w1.alloc (.cells #[.int .u8 87, .int .u8 105, .int .u8 107, .int .u8 105] 5 (4, 5))).alloc (.cells #[.int .u8 112, .int .u8 101, .int .u8 100, .int .u8 105, .int .u8 97] 5 (5, 6))).alloc (.cells #[.slice (some ⟨w1.heap.size, 0, none⟩) 4 4, .slice (some ⟨w1.heap.size + 1, 0, none⟩) 5 5] 23))
    (some ⟨w1.heap.size + 1 + 1, 0, none⟩) [[87, 105, 107, 105], [112, 101, 100, 105, 97]] := by
  refine two_parts (a1 := some ⟨w1.heap.size, 0, none⟩) (a2 := some ⟨w1.heap.size + 1, 0, none⟩) (c1 := 4) (c2 := 5) (by rw [cell_at _ _ _ _ _ _ (by simp)]; rfl) (by rw [cell_at _ _ _ _ _ _ (by simp)]; rfl) (bysA_block fun i hi => ?_) (bysA_block fun i hi => ?_)
  · have : i = 0 ∨ i = 1 ∨ i = 2 ∨ i = 3 := by simp at hi; omega
    refine cell_past _ (cell_past _ ?_)
    rw [cell_at _ _ _ _ _ _ rfl]
    rcases this with rfl | rfl | rfl | rfl <;> rfl
  · have : i = 0 ∨ i = 1 ∨ i = 2 ∨ i = 3 ∨ i = 4 := by simp at hi; omega
    refine cell_past _ ?_
    rw [cell_at _ _ _ _ _ _ (by simp)]
    rcases this with rfl | rfl | rfl | rfl | rfl <;> rfl

theorem mem3 (w : World) (x : Int) (r : Nat × Nat) : BysA (w.alloc (.cells #[.int .u8 x] 5 r)) (some ⟨w.heap.size, 0, none⟩) [x] :=
  bys1 (by rw [cell_at _ _ _ _ _ _ rfl]; rfl)

end Go.Proofs.Ytfceileohkngnaa

/- The walk of TallyParts. -/
namespace Go.Proofs.Ytfceileohkngnaa
open Go.RowKit
set_option linter.unusedVariables false
attribute [local go_sem ↓] Go.wp_at_zero Go.wp_at_succ

theorem bysA_below {w0 W : World} {a : Option Addr} {bs : List Int} (h : BysA w0 a bs) (hb : Below w0.heap.size w0 W) : BysA W a bs := by
  intro hne
  obtain ⟨b, off, ha, hc⟩ := h hne
  exact ⟨b, off, ha, fun i hi => by rw [hb.cell (World.block_lt_of_cell? _ _ (hc i hi))]; exact hc i hi⟩

theorem bysA_alloc {W : World} {a : Option Addr} {bs : List Int} (h : BysA W a bs) (o : Obj) : BysA (W.alloc o) a bs := by
  intro hne
  obtain ⟨b, off, ha, hc⟩ := h hne
  exact ⟨b, off, ha, fun i hi => cell_past o (hc i hi)⟩

theorem partsA_drew {w : World} {a : Option Addr} {pss : List (List Int)} (h : PartsA w a pss) : PartsA w.drew a pss := by
  intro hne
  obtain ⟨b, off, ha, hc⟩ := h hne
  exact ⟨b, off, ha, fun i hi => hc i hi⟩

/-- A new block whose cells are slices: its parts. -/
theorem parts_new {W : World} {t : TypeId} {cs : List Value} {pss : List (List Int)} {N : Nat} (hN : N = W.heap.size)
    (h : ∀ i, i < pss.length → ∃ a' cap', cs[i]? = some (.slice a' (pss.getD i []).length cap') ∧ BysA W a' (pss.getD i [])) :
    PartsA (W.alloc (.cells cs.toArray t)) (some ⟨N, 0, none⟩) pss := by
  intro _
  refine ⟨N, 0, rfl, fun i hi => ?_⟩
  obtain ⟨a', cap', hc, hb⟩ := h i hi
  refine ⟨a', cap', ?_, bysA_alloc hb _⟩
  rw [cell_at _ _ _ _ _ _ hN]
  simpa using hc

theorem bysA_nil (W : World) (a : Option Addr) : BysA W a [] := fun h => absurd rfl h

theorem byt_take {bs : List Int} (h : Byt bs) (k : Nat) : Byt (bs.take k) := by
  intro i
  have := h i
  simp only [List.getD_eq_getElem?_getD, List.getElem?_take] at this ⊢
  split
  · exact this
  · simp
theorem byt_drop {bs : List Int} (h : Byt bs) (k : Nat) : Byt (bs.drop k) := by
  intro i
  have := h (k + i)
  simpa only [List.getD_eq_getElem?_getD, List.getElem?_drop] using this

theorem bysA_take {W : World} {a : Option Addr} {bs : List Int} (h : BysA W a bs) (k : Nat) : BysA W a (bs.take k) := by
  intro hne
  obtain ⟨b, off, ha, hc⟩ := h (by rintro rfl; simp at hne)
  refine ⟨b, off, ha, fun i hi => ?_⟩
  have hi' : i < bs.length ∧ i < k := by simp at hi; omega
  rw [hc i hi'.1, List.getD_eq_getElem?_getD, List.getD_eq_getElem?_getD, List.getElem?_take, if_pos hi'.2]

theorem bysA_drop {W : World} {b off : Nat} {bs : List Int} (h : BysA W (some ⟨b, off, none⟩) bs) (k cap : Nat) (hc : bs.length ≤ cap) :
    BysA W (if cap = k then some ⟨b, off, none⟩ else some ⟨b, off + k, none⟩) (bs.drop k) := by
  intro hne
  have hlt : k < bs.length := by
    rcases Nat.lt_or_ge k bs.length with h | h
    · exact h
    · exact absurd (List.drop_of_length_le h) hne
  rw [if_neg (by omega)]
  obtain ⟨b', off', ha, hcl⟩ := h (by rintro rfl; simp at hlt)
  cases ha
  refine ⟨b, off + k, rfl, fun i hi => ?_⟩
  have hi' : k + i < bs.length := by simp at hi; omega
  rw [Nat.add_assoc, hcl (k + i) hi', List.getD_eq_getElem?_getD, List.getD_eq_getElem?_getD, List.getElem?_drop]

theorem byts_one {bs : List Int} (h : Byt bs) (hl : bs.length ≤ 20000) : Byts [bs] := byts_of (by simp only [List.mem_singleton, forall_eq]; exact ⟨h, maxLen_ge _ (by omega)⟩)
theorem byts_two {b1 b2 : List Int} (h1 : Byt b1) (hl1 : b1.length ≤ 20000) (h2 : Byt b2) (hl2 : b2.length ≤ 20000) : Byts [b1, b2] :=
  byts_of (by simp only [List.mem_cons, List.not_mem_nil, or_false, forall_eq_or_imp, forall_eq]; exact ⟨⟨h1, maxLen_ge _ (by omega)⟩, ⟨h2, maxLen_ge _ (by omega)⟩⟩)
theorem byt_nil : Byt [] := fun i => by simp
theorem byts_four {b1 b2 : List Int} (h1 : Byt b1) (hl1 : b1.length ≤ 20000) (h2 : Byt b2) (hl2 : b2.length ≤ 20000) : Byts [b1, [], b2, []] :=
  byts_of (by simp only [List.mem_cons, List.not_mem_nil, or_false, forall_eq_or_imp, forall_eq]; exact ⟨⟨h1, maxLen_ge _ (by omega)⟩, ⟨byt_nil, maxLen_ge _ (by simp)⟩, ⟨h2, maxLen_ge _ (by omega)⟩, ⟨byt_nil, maxLen_ge _ (by simp)⟩⟩)

theorem e_two (bs : List Int) (k : Nat) : sums 1 [bs.take k, bs.drop k] = sums 1 [bs] := by
  rw [sums_flat _ _ fine_one, sums_flat _ _ fine_one]; simp
theorem e_four (bs : List Int) (k : Nat) : sums 1 [bs.take k, [], bs.drop k, []] = sums 1 [bs] := by
  rw [sums_flat _ _ fine_one, sums_flat _ _ fine_one]; simp
theorem e_more (bs : List Int) (k : Nat) : more (sums 1 [bs.take k]) (bs.drop k) = sums 1 [bs] := by
  rw [sums_flat _ _ fine_one, sums_flat _ _ fine_one, ← more_append]; simp

theorem sum2 {bs : List Int} (k : Nat) (hB : Byt bs) (h : bs.length ≤ 20000) (W : World) (N : Nat) (hp : PartsA W (some ⟨N, 0, none⟩) [bs.take k, bs.drop k]) :
    Calls Try.prog 59 #[.slice (some ⟨N, 0, none⟩) 2 2] W fun e w' => e = .returned (.int .u32 (sums 1 [bs])) ∧ w' = W := by
  rw [← e_two bs k]
  exact sum_any (some ⟨N, 0, none⟩) [bs.take k, bs.drop k] 2 W hp (byts_two (byt_take hB k) (by simp; omega) (byt_drop hB k) (by simp; omega)) (maxLen_ge _ (by simp))
theorem sum4 {bs : List Int} (k : Nat) (hB : Byt bs) (h : bs.length ≤ 20000) (W : World) (N : Nat) (hp : PartsA W (some ⟨N, 0, none⟩) [bs.take k, [], bs.drop k, []]) :
    Calls Try.prog 59 #[.slice (some ⟨N, 0, none⟩) 4 4] W fun e w' => e = .returned (.int .u32 (sums 1 [bs])) ∧ w' = W := by
  rw [← e_four bs k]
  exact sum_any (some ⟨N, 0, none⟩) [bs.take k, [], bs.drop k, []] 4 W hp (byts_four (byt_take hB k) (by simp; omega) (byt_drop hB k) (by simp; omega)) (maxLen_ge _ (by simp))
theorem sum1 {bs : List Int} (hB : Byt bs) (h : bs.length ≤ 20000) (W : World) (N : Nat) (hp : PartsA W (some ⟨N, 0, none⟩) [bs]) :
    Calls Try.prog 59 #[.slice (some ⟨N, 0, none⟩) 1 1] W fun e w' => e = .returned (.int .u32 (sums 1 [bs])) ∧ w' = W :=
  sum_any (some ⟨N, 0, none⟩) [bs] 1 W hp (byts_one hB (by omega)) (maxLen_ge _ (by simp))
theorem mored {bs : List Int} (k : Nat) (hB : Byt bs) (h : bs.length ≤ 20000) (u : Int) (hu : u = sums 1 [bs.take k]) (A : Option Addr) (cap : Nat) (W : World) (hp : BysA W A (bs.drop k)) :
    Calls Try.prog 73 #[.int .u32 u, .slice A (bs.length - k) cap] W fun e w' => e = .returned (.int .u32 (sums 1 [bs])) ∧ w' = W := by
  rw [← e_more bs k, ← hu, ← List.length_drop]
  exact more_any u (by rw [hu]; exact sums_lim _ _ (by omega)) A (bs.drop k) cap W hp (byt_drop hB k) (maxLen_ge _ (by simp; omega))

theorem part1 {w0 : World} {b off cap0 k : Nat} {bs : List Int} (hk : k ≤ bs.length) (ht : BysA w0 (some ⟨b, off, none⟩) (bs.take k)) (W : World) (N : Nat) (hW : Below w0.heap.size w0 W) (hN : N = W.heap.size) :
    PartsA (W.alloc (.cells #[.slice (some ⟨b, off, none⟩) k cap0] 23)) (some ⟨N, 0, none⟩) [bs.take k] := by
  have lt : (bs.take k).length = k := by simp; omega
  refine parts_new (cs := [_]) hN (fun i hi => ?_)
  have : i = 0 := by simpa using hi
  subst this
  exact ⟨some ⟨b, off, none⟩, cap0, by show some (Value.slice _ k _) = some (Value.slice _ (bs.take k).length _); rw [lt], bysA_below ht hW⟩

theorem part2 {w0 : World} {b off cap0 cap1 k : Nat} {A : Option Addr} {bs : List Int} (hk : k ≤ bs.length) (ht : BysA w0 (some ⟨b, off, none⟩) (bs.take k)) (hd : BysA w0 A (bs.drop k)) (W : World) (N : Nat) (hW : Below w0.heap.size w0 W) (hN : N = W.heap.size) :
    PartsA (W.alloc (.cells #[.slice (some ⟨b, off, none⟩) k cap0, .slice A (bs.length - k) cap1] 23)) (some ⟨N, 0, none⟩) [bs.take k, bs.drop k] := by
  have lt : (bs.take k).length = k := by simp; omega
  have ld : (bs.drop k).length = bs.length - k := by simp
  refine parts_new (cs := [_, _]) hN (fun i hi => ?_)
  have : i = 0 ∨ i = 1 := by simp at hi; omega
  rcases this with rfl | rfl
  · exact ⟨some ⟨b, off, none⟩, cap0, by show some (Value.slice _ k _) = some (Value.slice _ (bs.take k).length _); rw [lt], bysA_below ht hW⟩
  · exact ⟨A, cap1, by show some (Value.slice _ (bs.length - k) _) = some (Value.slice _ (bs.drop k).length _); rw [ld], bysA_below hd hW⟩

theorem part4 {w0 : World} {b off cap0 cap1 k : Nat} {A : Option Addr} {bs : List Int} (hk : k ≤ bs.length) (ht : BysA w0 (some ⟨b, off, none⟩) (bs.take k)) (hd : BysA w0 A (bs.drop k)) (W : World) (N : Nat) (hW : Below w0.heap.size w0 W) (hN : N = W.heap.size) :
    PartsA (W.alloc (.cells #[.slice (some ⟨b, off, none⟩) k cap0, .slice none 0 0, .slice A (bs.length - k) cap1, .slice none 0 0] 23)) (some ⟨N, 0, none⟩) [bs.take k, [], bs.drop k, []] := by
  have lt : (bs.take k).length = k := by simp; omega
  have ld : (bs.drop k).length = bs.length - k := by simp
  refine parts_new (cs := [_, _, _, _]) hN (fun i hi => ?_)
  have : i = 0 ∨ i = 1 ∨ i = 2 ∨ i = 3 := by simp at hi; omega
  rcases this with rfl | rfl | rfl | rfl
  · exact ⟨some ⟨b, off, none⟩, cap0, by show some (Value.slice _ k _) = some (Value.slice _ (bs.take k).length _); rw [lt], bysA_below ht hW⟩
  · exact ⟨none, 0, rfl, bysA_nil _ _⟩
  · exact ⟨A, cap1, by show some (Value.slice _ (bs.length - k) _) = some (Value.slice _ (bs.drop k).length _); rw [ld], bysA_below hd hW⟩
  · exact ⟨none, 0, rfl, bysA_nil _ _⟩

end Go.Proofs.Ytfceileohkngnaa

/- The walk of TallyTurns. -/
namespace Go.Proofs.Ytfceileohkngnaa
open Go.RowKit
set_option linter.unusedVariables false
attribute [local go_sem ↓] Go.wp_at_zero Go.wp_at_succ

theorem Try.info5 : (Try.prog.info? 5).map (fun i => (i.zero, i.size, i.bytes)) = some (some (.int .u8 0), 1, 1) := by kernel_rfl

theorem rowA_bys {w : World} {A : Option Addr} {bs : List Int} (h : BysA w A bs) : RowA w A (bs.map (Value.int .u8)) := by
  intro hne
  obtain ⟨b, off, ha, hc⟩ := h (by rintro rfl; simp at hne)
  refine ⟨b, off, ha, fun j u hj => ?_⟩
  rw [List.getElem?_map] at hj
  have hjl : j < bs.length := by
    rcases Nat.lt_or_ge j bs.length with h | h
    · exact h
    · rw [List.getElem?_eq_none h] at hj; cases hj
  rw [hc j hjl, ← hj, List.getD_eq_getElem?_getD, List.getElem?_eq_getElem hjl]; rfl

theorem bys_rowA {w : World} {A : Option Addr} {bs : List Int} (h : RowA w A (bs.map (Value.int .u8))) : BysA w A bs := by
  intro hne
  obtain ⟨b, off, ha, hc⟩ := h (by simpa using hne)
  refine ⟨b, off, ha, fun j hj => ?_⟩
  rw [hc j (.int .u8 (bs.getD j 0))]
  rw [List.getElem?_map, List.getD_eq_getElem?_getD, List.getElem?_eq_getElem hj]; rfl

theorem one_u8 (bs : List Int) : ∀ u ∈ bs.map (Value.int .u8), u.oneCell' = true := by
  intro u hu
  obtain ⟨x, _, rfl⟩ := List.mem_map.1 hu
  rfl

/-- 'append([]byte{}, b...)': a copy of b, in a block of its own. -/
theorem wpList_copy {w0 W : World} {ops : Array Oper} {rest : List Oper} {o : Oper} {a : Act} {Q : Exit → Act → World → Prop} (hgd : o.guard = none) (s x : Operand)
    (ho : o.op = .call { callee := .builtin .append, args := #[s, x], argTypes := #[23, 23] }) (N : Nat) (hN : N = W.heap.size)
    (hs : a.eval s = .slice (some ⟨N, 0, none⟩) 0 0) (A : Option Addr) (c : Nat) (bs : List Int) (hx : a.eval x = .slice A bs.length c) (hR : BysA w0 A bs) (hw : Below w0.heap.size w0 W)
    (hlen : bs.length ≤ 20000) (hpos : 0 < bs.length)
    (h : ∀ g cap W', w0.heap.size ≤ g → W.heap.size ≤ g → bs.length ≤ cap → Below w0.heap.size w0 W' → Blk W' 5 g cap (bs.map (Value.int .u8)) → Below W.heap.size W W' → wpList Try.prog ops Q rest (a.put o.dst (.slice (some ⟨g, 0, none⟩) bs.length cap)) W') :
    wpList Try.prog ops Q (o :: rest) a (W.alloc (.cells #[] 5)) := by
  subst hN
  obtain ⟨i0, hi, hz0, hz1, hz2⟩ := info_parts Try.info5
  have hown : (W.alloc (.cells #[] 5)).ownsRow W.heap.size 5 1 (.slice (some ⟨W.heap.size, 0, none⟩) 0 0) 0 [] :=
    World.ownsRow_lit W #[] 0 (Nat.le_refl _) (by simp) (by simp)
  refine wpList_append_row hgd s x 23 ho W.heap.size 5 i0 (.int .u8 0) 1 1 Try.underlying23 hi hz0 hz1 hz2 rfl (by decide) (by decide) _ 0 [] hs hown A bs.length c (bs.map (Value.int .u8)) hx (by simp)
    (rowA_below (rowA_bys hR) (below_alloc hw _)) (one_u8 bs) (by omega) (by simp) ?_
  intro v' W' hown' hgrow hat
  obtain ⟨g, cap, rfl, hg, hcap, _, hblk⟩ := own_blk hown' (by omega)
  have hbel : Below W.heap.size W W' := (below_alloc (Below.refl _ _) _).grown hgrow (by simp) (fun k hk => by simp [Value.ownBlock] at hk; omega)
  rw [Nat.zero_add, List.nil_append] at *
  exact h g cap W' (Nat.le_trans hw.size hg) hg hcap (below_then hw hbel) hblk hbel

theorem map_get {bs : List Int} {i : Nat} (h : i < bs.length) : (bs.map (Value.int .u8))[i]? = some (.int .u8 (bs.getD i 0)) := by
  rw [List.getElem?_map, List.getD_eq_getElem?_getD, List.getElem?_eq_getElem h]; rfl

theorem byt_set {bs : List Int} (h : Byt bs) (i : Nat) (v : Int) (hv : 0 ≤ v ∧ v ≤ 255) : Byt (bs.set i v) := by
  intro k
  have := h k
  rw [List.getD_eq_getElem?_getD] at this ⊢
  rw [List.getElem?_set]
  split
  · split
    · exact hv
    · simp
  · exact this

/-- The sum of one slice, in every world behind w1: for the regions that draw their order. -/
theorem sumIn {w1 : World} {A : Option Addr} {bs : List Int} (hb : BysA w1 A bs) (hB : Byt bs) (hl : bs.length ≤ 20000) (c : Nat) (W : World) (N : Nat) (hN : N = W.heap.size) (hW : Below w1.heap.size w1 W) :
    Calls Try.prog 59 #[.slice (some ⟨N, 0, none⟩) 1 1] (W.alloc (.cells #[.slice A bs.length c] 23)) fun e w' => e = .returned (.int .u32 (sums 1 [bs])) ∧ Below w1.heap.size w1 w' := by
  refine (sum1 hB hl _ N (parts_new (cs := [_]) hN (fun i hi => ?_))).mono ?_
  · have : i = 0 := by simpa using hi
    subst this
    exact ⟨A, c, rfl, bysA_below hb hW⟩
  · rintro e w' ⟨he, rfl⟩
    exact ⟨he, below_alloc hW _⟩

/-- The sum of one slice whose header lies in cell N of the world at hand. -/
theorem sumAt {w1 : World} {A : Option Addr} {bs : List Int} (hb : BysA w1 A bs) (hB : Byt bs) (hl : bs.length ≤ 20000) (n c : Nat) (hn : n = bs.length) (W : World) (N : Nat) (hW : Below w1.heap.size w1 W)
    (hc : W.cell? ⟨N, 0, none⟩ = some (.slice A n c)) :
    Calls Try.prog 59 #[.slice (some ⟨N, 0, none⟩) 1 1] W fun e w' => e = .returned (.int .u32 (sums 1 [bs])) ∧ w' = W := by
  subst hn
  exact sum1 hB hl W N (one_part hc (bysA_below hb hW))

end Go.Proofs.Ytfceileohkngnaa

/- Headers of slices that lie in a row of the call's own, and the bytes behind them. -/
namespace Go.Proofs.Ytfceileohkngnaa
open Go.RowKit
set_option linter.unusedVariables false

/-- Each header leads to bytes in a block of its own. -/
def Heads5 (w : World) : List Value → List (List Int) → Prop
  | [], [] => True
  | h :: hs, p :: ps => (∃ g cap, h = .slice (some ⟨g, 0, none⟩) p.length cap ∧ Blk w 5 g cap (p.map (Value.int .u8))) ∧ Heads5 w hs ps
  | _, _ => False

/-- Each header leads to bytes that came in, or to none. -/
def HeadsA (w : World) : List Value → List (List Int) → Prop
  | [], [] => True
  | h :: hs, p :: ps => (∃ a cap, h = .slice a p.length cap ∧ BysA w a p) ∧ HeadsA w hs ps
  | _, _ => False

theorem heads5_a {w : World} : ∀ {hs : List Value} {ps : List (List Int)}, Heads5 w hs ps → HeadsA w hs ps
  | [], [], _ => trivial
  | _ :: _, _ :: _, ⟨⟨g, cap, h1, h2⟩, r⟩ => ⟨⟨_, cap, h1, bys_rowA h2.row⟩, heads5_a r⟩

theorem heads5_app {w : World} : ∀ {hs : List Value} {ps : List (List Int)} {hs' : List Value} {ps' : List (List Int)}, Heads5 w hs ps → Heads5 w hs' ps' → Heads5 w (hs ++ hs') (ps ++ ps')
  | [], [], _, _, _, k => k
  | _ :: _, _ :: _, _, _, ⟨h, r⟩, k => ⟨h, heads5_app r k⟩

theorem headsA_app {w : World} : ∀ {hs : List Value} {ps : List (List Int)} {hs' : List Value} {ps' : List (List Int)}, HeadsA w hs ps → HeadsA w hs' ps' → HeadsA w (hs ++ hs') (ps ++ ps')
  | [], [], _, _, _, k => k
  | _ :: _, _ :: _, _, _, ⟨h, r⟩, k => ⟨h, headsA_app r k⟩

theorem heads5_mono {w w' : World} (h : ∀ g cap vs, Blk w 5 g cap vs → Blk w' 5 g cap vs) : ∀ {hs : List Value} {ps : List (List Int)}, Heads5 w hs ps → Heads5 w' hs ps
  | [], [], _ => trivial
  | _ :: _, _ :: _, ⟨⟨g, cap, h1, h2⟩, r⟩ => ⟨⟨g, cap, h1, h g cap _ h2⟩, heads5_mono h r⟩

theorem headsA_below {w w' : World} (h : Below w.heap.size w w') : ∀ {hs : List Value} {ps : List (List Int)}, HeadsA w hs ps → HeadsA w' hs ps
  | [], [], _ => trivial
  | _ :: _, _ :: _, ⟨⟨a, cap, h1, h2⟩, r⟩ => ⟨⟨a, cap, h1, bysA_below h2 h⟩, headsA_below h r⟩

theorem headsA_len {w : World} : ∀ {hs : List Value} {ps : List (List Int)}, HeadsA w hs ps → hs.length = ps.length
  | [], [], _ => rfl
  | _ :: _, _ :: _, ⟨_, r⟩ => by simp [headsA_len r]

theorem headsA_get {w : World} : ∀ {hs : List Value} {ps : List (List Int)}, HeadsA w hs ps → ∀ i, i < ps.length → ∃ a cap, hs[i]? = some (.slice a (ps.getD i []).length cap) ∧ BysA w a (ps.getD i [])
  | [], [], _, i, hi => by simp at hi
  | h :: hs, p :: ps, ⟨⟨a, cap, h1, h2⟩, r⟩, i, hi => by
    cases i with
    | zero => exact ⟨a, cap, by simpa using h1, by simpa using h2⟩
    | succ i =>
      obtain ⟨a', cap', k1, k2⟩ := headsA_get r i (by simpa using hi)
      exact ⟨a', cap', by simpa using k1, by simpa using k2⟩

/-- A row of headers, and what they lead to: parts. -/
theorem parts_heads {w : World} {A : Option Addr} {hs : List Value} {ps : List (List Int)} (hr : RowA w A hs) (hh : HeadsA w hs ps) : PartsA w A ps := by
  intro hne
  have hl := headsA_len hh
  obtain ⟨b, off, ha, hc⟩ := hr (by rintro rfl; simp at hl; exact hne (List.length_eq_zero_iff.1 hl.symm))
  refine ⟨b, off, ha, fun i hi => ?_⟩
  obtain ⟨a', cap', h1, h2⟩ := headsA_get hh i hi
  exact ⟨a', cap', hc i _ h1, h2⟩

/-- What grows a row of headers turns no block of bytes. -/
theorem blk_grown {w w' : World} {base n : Nat} {v : Value} {xs : List Value} (ho : w.ownsRow base 23 1 v n xs) (hg : w.grownBy w' v.ownBlock) : ∀ g cap vs, Blk w 5 g cap vs → Blk w' 5 g cap vs := by
  intro g cap vs hb
  have hlt := hb.lt
  obtain ⟨cur, hc, r⟩ := hb
  refine ⟨cur, ?_, r⟩
  rw [hg.block g hlt, hc]
  intro e
  rcases ho.2 with ⟨rfl, _⟩ | ⟨g', cap', cur', rfl, _, hh, _⟩
  · simp [Value.ownBlock] at e
  · simp [Value.ownBlock] at e
    subst e
    rw [hc] at hh
    cases hh

/-- What a row that the call owns looks like. -/
theorem own_form {w : World} {base : Nat} {e : TypeId} {v : Value} {n : Nat} {xs : List Value} (h : w.ownsRow base e 1 v n xs) : ∃ A cap, v = .slice A n cap ∧ RowA w A xs ∧ xs.length = n := by
  have hl : xs.length = n := by have := h.1; omega
  rcases h.2 with ⟨rfl, rfl⟩ | ⟨g, cap, cur, rfl, hb, hg, hnc, hcm, hcs, htk⟩
  · obtain rfl : xs = [] := List.length_eq_zero_iff.1 hl
    exact ⟨none, 0, rfl, rowA_nil _ _, rfl⟩
  · refine ⟨_, cap, rfl, Blk.row (e := e) (cap := cap) ⟨cur, hg, by omega, by rw [h.1]; exact htk⟩, hl⟩

theorem own_some {w : World} {base : Nat} {e : TypeId} {v : Value} {n : Nat} {xs : List Value} (h : w.ownsRow base e 1 v n xs) (hn : v.ownBlock ≠ none) :
    ∃ g cap, v = .slice (some ⟨g, 0, none⟩) n cap ∧ base ≤ g ∧ n ≤ cap ∧ cap ≤ maxLen ∧ Blk w e g cap xs := by
  obtain ⟨hl, h2⟩ := h
  rcases h2 with ⟨rfl, h0⟩ | ⟨g, cap, cur, hv, hb, hg, hnc, hcm, hcs, htk⟩
  · simp [Value.ownBlock] at hn
  · exact ⟨g, cap, hv, hb, hnc, hcm, cur, hg, by omega, by rw [hl]; exact htk⟩

/-- 'append([]byte{}, b...)', b empty or not: a copy of b, in a block of its own. -/
theorem wpList_copy' {w0 W : World} {ops : Array Oper} {rest : List Oper} {o : Oper} {a : Act} {Q : Exit → Act → World → Prop} (hgd : o.guard = none) (s x : Operand)
    (ho : o.op = .call { callee := .builtin .append, args := #[s, x], argTypes := #[23, 23] }) (N : Nat) (hN : N = W.heap.size)
    (hs : a.eval s = .slice (some ⟨N, 0, none⟩) 0 0) (A : Option Addr) (c : Nat) (bs : List Int) (hx : a.eval x = .slice A bs.length c) (hR : BysA w0 A bs) (hw : Below w0.heap.size w0 W)
    (hlen : bs.length ≤ 20000)
    (h : ∀ g cap W', W.heap.size ≤ g → Below W.heap.size W W' → Blk W' 5 g cap (bs.map (Value.int .u8)) → wpList Try.prog ops Q rest (a.put o.dst (.slice (some ⟨g, 0, none⟩) bs.length cap)) W') :
    wpList Try.prog ops Q (o :: rest) a (W.alloc (.cells #[] 5)) := by
  subst hN
  obtain ⟨i0, hi, hz0, hz1, hz2⟩ := info_parts Try.info5
  have hown : (W.alloc (.cells #[] 5)).ownsRow W.heap.size 5 1 (.slice (some ⟨W.heap.size, 0, none⟩) 0 0) 0 [] :=
    World.ownsRow_lit W #[] 0 (Nat.le_refl _) (by simp) (by simp)
  refine wpList_append_row hgd s x 23 ho W.heap.size 5 i0 (.int .u8 0) 1 1 Try.underlying23 hi hz0 hz1 hz2 rfl (by decide) (by decide) _ 0 [] hs hown A bs.length c (bs.map (Value.int .u8)) hx (by simp)
    (rowA_below (rowA_bys hR) (below_alloc hw _)) (one_u8 bs) (by omega) (by simp) ?_
  intro v' W' hown' hgrow hat
  obtain ⟨g, cap, rfl, hg, hcap, _, hblk⟩ := own_some hown' (by rcases hat with h | h <;> rw [h] <;> simp [Value.ownBlock])
  have hbel : Below W.heap.size W W' := (below_alloc (Below.refl _ _) _).grown hgrow (by simp) (fun k hk => by simp [Value.ownBlock] at hk; omega)
  rw [Nat.zero_add, List.nil_append] at *
  exact h g cap W' hg hbel hblk

end Go.Proofs.Ytfceileohkngnaa

/- The walk of TallySums. -/
namespace Go.Proofs.Ytfceileohkngnaa
open Go.RowKit
set_option linter.unusedVariables false
attribute [local go_sem ↓] Go.wp_at_zero Go.wp_at_succ

theorem Try.info23 : (Try.prog.info? 23).map (fun i => (i.zero, i.size, i.bytes)) = some (some (.slice none 0 0), 1, 24) := by kernel_rfl

theorem fair_each (n : Int) (hn : 0 ≤ n) (pss : List (List Int)) (h : fairFrom n pss = true) : ∀ p ∈ pss, p.length ≤ 20000 := by
  induction pss generalizing n with
  | nil => simp
  | cons q r ih =>
    simp only [fairFrom] at h
    split at h
    · cases h
    · rename_i hc
      intro p hp
      rcases List.mem_cons.1 hp with rfl | hp
      · omega
      · exact ih _ (by omega) h p hp

theorem fair_get {pss : List (List Int)} (h : fairB pss = true) (i : Nat) : (pss.getD i []).length ≤ 20000 ∧ pss.length ≤ 100 := by
  unfold fairB at h
  rw [Bool.and_eq_true] at h
  obtain ⟨h1, h2⟩ := h
  refine ⟨?_, of_decide_eq_true h2⟩
  rw [List.getD_eq_getElem?_getD]
  by_cases hi : i < pss.length
  · rw [List.getElem?_eq_getElem hi]; exact fair_each 0 (by omega) pss h1 _ (List.getElem_mem hi)
  · rw [List.getElem?_eq_none (by omega)]; simp

theorem partsA_below {w0 W : World} {a : Option Addr} {pss : List (List Int)} (h : PartsA w0 a pss) (hb : Below w0.heap.size w0 W) : PartsA W a pss := by
  intro hne
  obtain ⟨b, off, ha, hc⟩ := h hne
  refine ⟨b, off, ha, fun i hi => ?_⟩
  obtain ⟨a', cap', h1, h2⟩ := hc i hi
  exact ⟨a', cap', by rw [hb.cell (World.block_lt_of_cell? _ _ h1)]; exact h1, bysA_below h2 hb⟩

theorem own_below {w W : World} {base : Nat} {e : TypeId} {size : Nat} {v : Value} {n : Nat} {xs : List Value} (h : w.ownsRow base e size v n xs) (hb : Below w.heap.size w W) : W.ownsRow base e size v n xs := by
  obtain ⟨hl, h2⟩ := h
  refine ⟨hl, ?_⟩
  rcases h2 with h0 | ⟨g, cap, cur, hv, hbg, hg, r⟩
  · exact .inl h0
  · have hlt : g < w.heap.size := by
      rcases Nat.lt_or_ge g w.heap.size with h | h
      · exact h
      · rw [Array.getElem?_eq_none h] at hg; cases hg
    exact .inr ⟨g, cap, cur, hv, hbg, by rw [hb.block g hlt]; exact hg, r⟩

/-- 'append(rows, h..)' of headers that were just laid, onto a row of headers that the call owns. -/
theorem wpList_push {w0 W1 : World} {ops : Array Oper} {rest : List Oper} {o : Oper} {a : Act} {Q : Exit → Act → World → Prop} (hgd : o.guard = none) (s x : Operand)
    (ho : o.op = .call { callee := .builtin .append, args := #[s, x], argTypes := #[58, 58] }) (N : Nat) (hN : N = W1.heap.size)
    (v : Value) (n : Nat) (xs : List Value) (hs : a.eval s = v) (hown : W1.ownsRow w0.heap.size 23 1 v n xs) (m : Nat) (vs : List Value) (hx : a.eval x = .slice (some ⟨N, 0, none⟩) m m) (hl : vs.length = m)
    (hone : ∀ u ∈ vs, u.oneCell' = true) (hsmall : n + m ≤ 1000) (hw : Below w0.heap.size w0 W1)
    (h : ∀ v' W', W'.ownsRow w0.heap.size 23 1 v' (n + m) (xs ++ vs) → Below w0.heap.size w0 W' → (∀ g cap us, Blk W1 5 g cap us → Blk W' 5 g cap us) → wpList Try.prog ops Q rest (a.put o.dst v') W') :
    wpList Try.prog ops Q (o :: rest) a (W1.alloc (.cells vs.toArray 23)) := by
  subst hN
  obtain ⟨i0, hi, hz0, hz1, hz2⟩ := info_parts Try.info23
  have hown2 := own_below hown (below_alloc (Below.refl _ _) (.cells vs.toArray 23))
  refine wpList_append_row hgd s x 58 ho w0.heap.size 23 i0 (.slice none 0 0) 1 24 Try.underlying58 hi hz0 hz1 hz2 rfl (by decide) (by decide) v n xs hs hown2 _ m m vs hx (by omega)
    (fun _ => ⟨_, _, rfl, fun j u hj => by rw [Nat.zero_add, cell_at _ _ _ _ _ _ rfl]; simpa using hj⟩) hone (by omega) (by have := hw.size; simp; omega) ?_
  intro v' W' hown' hgrow hat
  refine h v' W' hown' ?_ ?_
  · exact (below_alloc hw _).grown hgrow (by have := hw.size; simp; omega) (fun k hk => (hown2.lt k hk).1)
  · intro g cap us hb
    exact blk_grown hown2 hgrow g cap us (hb.below (below_alloc (Below.refl _ _) _))

theorem partsA_drewN {w : World} {a : Option Addr} {pss : List (List Int)} (h : PartsA w a pss) (n : Nat) : PartsA (w.drewN n) a pss := by
  intro hne
  obtain ⟨b, off, ha, hc⟩ := h hne
  refine ⟨b, off, ha, fun i hi => ?_⟩
  obtain ⟨a', cap', h1, h2⟩ := hc i hi
  exact ⟨a', cap', h1, bysA_drew n h2⟩

end Go.Proofs.Ytfceileohkngnaa
