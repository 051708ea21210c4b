/- What is read, flushed and left by a crash, on lists. -/
import Derived.Test.YtcakiohpkebmpaaMem
namespace Go.Proofs.Ytcakiohpkebmpaa

def readS (S : List Sct) (P : List (Nat × Sct)) (i : Nat) : Sct := P.foldl (fun s p => if p.1 = i then p.2 else s) (S.getD i zeroS)
def flushS (S : List Sct) (P : List (Nat × Sct)) : List Sct := P.foldl (fun S p => S.set p.1 p.2) S
/-- The pending writes that are kept. -/
def keptP : List (Nat × Sct) → List Bool → List (Nat × Sct)
  | p :: P, b :: K => if b then p :: keptP P K else keptP P K
  | _, _ => []

theorem foldl_none (i : Nat) : ∀ (P : List (Nat × Sct)) (s : Sct), (∀ p ∈ P, p.1 ≠ i) → P.foldl (fun s p => if p.1 = i then p.2 else s) s = s
  | [], _, _ => rfl
  | p :: P, s, h => by
    rw [List.foldl_cons, if_neg (h p (by simp))]
    exact foldl_none i P s (fun q hq => h q (by simp [hq]))
theorem readS_miss (S : List Sct) (P : List (Nat × Sct)) (i : Nat) (h : ∀ (j : Nat) (q : Nat × Sct), P[j]? = some q → q.1 ≠ i) : readS S P i = S.getD i zeroS :=
  foldl_none i P _ (fun p hp => by obtain ⟨j, hj⟩ := List.getElem?_of_mem hp; exact h j p hj)
theorem readS_hit (S : List Sct) (P : List (Nat × Sct)) (i k : Nat) (p : Nat × Sct) (hk : P[k]? = some p) (hp : p.1 = i) (h : ∀ (j : Nat) (q : Nat × Sct), k < j → P[j]? = some q → q.1 ≠ i) : readS S P i = p.2 := by
  have hkl := (List.getElem?_eq_some_iff.1 hk).1
  have e : P = P.take k ++ (p :: P.drop (k + 1)) := by
    rw [List.getElem?_eq_getElem hkl, Option.some.injEq] at hk
    rw [← hk, List.getElem_cons_drop hkl, List.take_append_drop]
  unfold readS
  rw [e, List.foldl_append, List.foldl_cons, if_pos hp]
  refine foldl_none i _ _ (fun q hq => ?_)
  obtain ⟨j, hj⟩ := List.getElem?_of_mem hq
  rw [List.getElem?_drop] at hj
  exact h (k + 1 + j) q (by omega) hj

theorem flushS_len (P : List (Nat × Sct)) : ∀ S : List Sct, (flushS S P).length = S.length := by
  induction P with
  | nil => intro S; rfl
  | cons p P ih => intro S; show (flushS (S.set p.1 p.2) P).length = _; rw [ih, List.length_set]
theorem flushS_snoc (S : List Sct) (P : List (Nat × Sct)) (p : Nat × Sct) : flushS S (P ++ [p]) = (flushS S P).set p.1 p.2 := by unfold flushS; rw [List.foldl_append]; rfl
/-- What is flushed is what was read. -/
theorem flush_read (i : Nat) : ∀ (P : List (Nat × Sct)) (S : List Sct), i < S.length → (flushS S P).getD i zeroS = readS S P i
  | [], S, _ => rfl
  | p :: P, S, h => by
    show (flushS (S.set p.1 p.2) P).getD i zeroS = P.foldl _ (if p.1 = i then p.2 else S.getD i zeroS)
    rw [flush_read i P (S.set p.1 p.2) (by rw [List.length_set]; exact h)]
    unfold readS
    congr 1
    rw [List.getD_eq_getElem?_getD, List.getElem?_set]
    by_cases hp : p.1 = i
    · rw [if_pos hp, if_pos hp, if_pos (by omega)]; rfl
    · rw [if_neg hp, if_neg hp, List.getD_eq_getElem?_getD]
theorem readS_nil (S : List Sct) (i : Nat) : readS S [] i = S.getD i zeroS := rfl
theorem readS_snoc (S : List Sct) (P : List (Nat × Sct)) (p : Nat × Sct) (i : Nat) : readS S (P ++ [p]) i = if p.1 = i then p.2 else readS S P i := by unfold readS; rw [List.foldl_append]; rfl

theorem kept_snoc : ∀ (P : List (Nat × Sct)) (K : List Bool) (k : Nat) (p : Nat × Sct) (b : Bool), P[k]? = some p → K[k]? = some b → keptP (P.take (k + 1)) (K.take (k + 1)) = keptP (P.take k) (K.take k) ++ (if b then [p] else [])
  | [], _, _, _, _, h, _ => by simp at h
  | _ :: _, [], _, _, _, _, h => by simp at h
  | q :: P, c :: K, 0, p, b, h1, h2 => by
    simp only [List.getElem?_cons_zero, Option.some.injEq] at h1 h2
    subst h1 h2
    simp [keptP]
  | q :: P, c :: K, k + 1, p, b, h1, h2 => by
    rw [List.getElem?_cons_succ] at h1 h2
    have := kept_snoc P K k p b h1 h2
    simp only [List.take_succ_cons, keptP] at this ⊢
    by_cases hc : c = true
    · rw [if_pos hc, if_pos hc, this, List.cons_append]
    · rw [if_neg hc, if_neg hc, this]
theorem kept_short : ∀ (P : List (Nat × Sct)) (K : List Bool) (m : Nat), m = min K.length P.length → keptP (P.take m) (K.take m) = keptP P K
  | [], K, m, h => by simp [keptP]
  | p :: P, [], m, h => by
    have : m = 0 := by simpa using h
    subst this
    simp [keptP]
  | p :: P, c :: K, m, h => by
    obtain ⟨k, rfl⟩ : ∃ k, m = k + 1 := ⟨m - 1, by simp at h; omega⟩
    have := kept_short P K k (by simp at h; omega)
    simp only [List.take_succ_cons, keptP, this]
theorem kept_mem : ∀ (P : List (Nat × Sct)) (K : List Bool) (p : Nat × Sct), p ∈ keptP P K → p ∈ P
  | [], _, _, h => by simp [keptP] at h
  | _ :: _, [], _, h => by simp [keptP] at h
  | q :: P, c :: K, p, h => by
    unfold keptP at h
    by_cases hc : c = true
    · rw [if_pos hc] at h
      rcases List.mem_cons.1 h with h | h
      · exact List.mem_cons.2 (.inl h)
      · exact List.mem_cons.2 (.inr (kept_mem P K p h))
    · rw [if_neg hc] at h
      exact List.mem_cons.2 (.inr (kept_mem P K p h))
theorem foldl_some (i : Nat) : ∀ (P : List (Nat × Sct)) (s : Sct), P.foldl (fun s p => if p.1 = i then p.2 else s) s = s ∨ ∃ p ∈ P, p.1 = i ∧ P.foldl (fun s p => if p.1 = i then p.2 else s) s = p.2
  | [], s => .inl rfl
  | p :: P, s => by
    rw [List.foldl_cons]
    rcases foldl_some i P (if p.1 = i then p.2 else s) with h | ⟨q, hq, h1, h2⟩
    · by_cases hp : p.1 = i
      · rw [if_pos hp] at h ⊢
        exact .inr ⟨p, by simp, hp, h⟩
      · rw [if_neg hp] at h ⊢
        exact .inl h
    · exact .inr ⟨q, by simp [hq], h1, h2⟩
end Go.Proofs.Ytcakiohpkebmpaa
