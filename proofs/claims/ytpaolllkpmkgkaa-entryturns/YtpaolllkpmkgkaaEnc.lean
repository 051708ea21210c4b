/- Contracts: an entry's bytes, its sectors. -/
import Derived.Test.YtpaolllkpmkgkaaBys2
import Derived.Deep.RegionWith
import Derived.Deep.RegionHeld3
namespace Go.Proofs.Ytpaolllkpmkgkaa
open Go.RowKit
set_option linter.unusedVariables false

def leadL (k e s : Int) : List Int := [k] ++ four e ++ four s
def headL (k e s : Int) (b : List Int) : List Int := leadL k e s ++ [(b.length : Int) / 256 % 256, (b.length : Int) % 256] ++ b
/-- An entry's bytes. -/
def entL (k e s : Int) (b : List Int) : List Int := headL k e s b ++ four (more 1 (headL k e s b))

def fourV (x : Int) : Array Value := ((four x).map (Value.int .u8)).toArray
theorem wide_four (x : Int) (hx : 0 ≤ x ∧ x ≤ 4294967295) (w : World) : Calls Try.prog 62 #[.int .u32 x] w fun e w' => e = .returned (.slice (some ⟨w.heap.size, 0, none⟩) 4 4) ∧ w' = w.alloc (.cells (fourV x) 5) := wide_any x hx w
theorem rfour_four (x : Int) (hx : 0 ≤ x ∧ x ≤ 4294967295) (w : World) : Calls Try.prog 64 #[.int .u32 x] w fun e w' => e = .returned (.slice (some ⟨w.heap.size, 0, none⟩) 4 4) ∧ w' = w.alloc (.cells (fourV x) 5) := rfour_any x hx w
theorem leadL_len (k e s : Int) : (leadL k e s).length = 9 := rfl
theorem headL_len (k e s : Int) (b : List Int) : (headL k e s b).length = 11 + b.length := by unfold headL; simp [leadL_len]; omega
theorem entL_len (k e s : Int) (b : List Int) : (entL k e s b).length = 15 + b.length := by unfold entL; rw [List.length_append, headL_len, four_len]; omega
theorem byt_app {a b : List Int} (h : Byt a) (k : Byt b) : Byt (a ++ b) := by
  intro i
  rw [List.getD_eq_getElem?_getD, List.getElem?_append]
  split
  · rw [← List.getD_eq_getElem?_getD]; exact h i
  · rw [← List.getD_eq_getElem?_getD]; exact k _
theorem byt_one {x : Int} (h : 0 ≤ x ∧ x ≤ 255) : Byt [x] := byt_of (by simp only [List.mem_singleton]; rintro y rfl; exact h)
theorem leadL_byt {k e s : Int} (hk : 0 ≤ k ∧ k ≤ 255) : Byt (leadL k e s) := byt_app (byt_app (byt_one hk) (four_byt e)) (four_byt s)
theorem lenB_byt (n : Nat) : Byt [(n : Int) / 256 % 256, (n : Int) % 256] := byt_of (by simp only [List.mem_cons, List.not_mem_nil, or_false]; rintro y (rfl | rfl) <;> omega)
theorem headL_byt {k e s : Int} {b : List Int} (hk : 0 ≤ k ∧ k ≤ 255) (hb : Byt b) : Byt (headL k e s b) := byt_app (byt_app (leadL_byt hk) (lenB_byt _)) hb
theorem entL_byt {k e s : Int} {b : List Int} (hk : 0 ≤ k ∧ k ≤ 255) (hb : Byt b) : Byt (entL k e s b) := byt_app (headL_byt hk hb) (four_byt _)

theorem bys4 {W : World} {b : Nat} {x y z u : Int} (h0 : W.cell? ⟨b, 0, none⟩ = some (.int .u8 x)) (h1 : W.cell? ⟨b, 1, none⟩ = some (.int .u8 y)) (h2 : W.cell? ⟨b, 2, none⟩ = some (.int .u8 z)) (h3 : W.cell? ⟨b, 3, none⟩ = some (.int .u8 u)) : BysA W (some ⟨b, 0, none⟩) [x, y, z, u] :=
  bysA_block fun i hi => by
    have : i = 0 ∨ i = 1 ∨ i = 2 ∨ i = 3 := by simp at hi; omega
    rcases this with rfl | rfl | rfl | rfl
    · exact h0
    · exact h1
    · exact h2
    · exact h3
theorem bys2 {W : World} {b : Nat} {x y : Int} (h0 : W.cell? ⟨b, 0, none⟩ = some (.int .u8 x)) (h1 : W.cell? ⟨b, 1, none⟩ = some (.int .u8 y)) : BysA W (some ⟨b, 0, none⟩) [x, y] :=
  bysA_block fun i hi => by
    have : i = 0 ∨ i = 1 := by simp at hi; omega
    rcases this with rfl | rfl
    · exact h0
    · exact h1
theorem bys_lit {X : World} {N : Nat} {c : Array Value} {r : Nat × Nat} {l : List Int} (h : N = X.heap.size) (hc : c = (l.map (Value.int .u8)).toArray) : BysA (X.alloc (.cells c 5 r)) (some ⟨N, 0, none⟩) l :=
  bysA_block fun i hi => by rw [cell_at _ _ _ _ _ _ h, hc, toArr_get, map_get hi]
theorem cell_lit {X : World} {N i : Nat} {c : Array Value} {t : TypeId} {r : Nat × Nat} {v : Value} (h : N = X.heap.size) (hc : c[i]? = some v) : (X.alloc (.cells c t r)).cell? ⟨N, i, none⟩ = some v := by rw [cell_at _ _ _ _ _ _ h, hc]
theorem parts3 {W : World} {N : Nat} {a1 a2 a3 : Option Addr} {p1 p2 p3 : List Int} {c1 c2 c3 : Nat} (h1 : W.cell? ⟨N, 0, none⟩ = some (.slice a1 p1.length c1)) (h2 : W.cell? ⟨N, 1, none⟩ = some (.slice a2 p2.length c2)) (h3 : W.cell? ⟨N, 2, none⟩ = some (.slice a3 p3.length c3))
    (b1 : BysA W a1 p1) (b2 : BysA W a2 p2) (b3 : BysA W a3 p3) : PartsA W (some ⟨N, 0, none⟩) [p1, p2, p3] := by
  intro _
  refine ⟨N, 0, rfl, fun i hi => ?_⟩
  have : i = 0 ∨ i = 1 ∨ i = 2 := by simp at hi; omega
  rcases this with rfl | rfl | rfl
  · exact ⟨a1, c1, by simpa using h1, by simpa using b1⟩
  · exact ⟨a2, c2, by simpa using h2, by simpa using b2⟩
  · exact ⟨a3, c3, by simpa using h3, by simpa using b3⟩
theorem bys_four {X : World} {N : Nat} {x : Int} (h : N = X.heap.size) : BysA (X.alloc (.cells (fourV x) 5)) (some ⟨N, 0, none⟩) (four x) := bys_lit h rfl
theorem bys_kind {X : World} {N : Nat} {x : Int} (h : N = X.heap.size) : BysA (X.alloc (.cells #[.int .u8 x] 5)) (some ⟨N, 0, none⟩) [x] := bys_lit h rfl
theorem bys_pair {X : World} {N : Nat} {x y : Int} (h : N = X.heap.size) : BysA (X.alloc (.cells #[.int .u8 x, .int .u8 y] 5)) (some ⟨N, 0, none⟩) [x, y] := bys_lit h rfl
theorem parts_row3 {X : World} {N : Nat} {A1 A2 A3 : Option Addr} {n1 n2 n3 c1 c2 c3 : Nat} {p1 p2 p3 : List Int} (h : N = X.heap.size) (e1 : n1 = p1.length) (e2 : n2 = p2.length) (e3 : n3 = p3.length) (b1 : BysA X A1 p1) (b2 : BysA X A2 p2) (b3 : BysA X A3 p3) : PartsA (X.alloc (.cells #[.slice A1 n1 c1, .slice A2 n2 c2, .slice A3 n3 c3] 23)) (some ⟨N, 0, none⟩) [p1, p2, p3] := by
  subst e1 e2 e3
  refine parts3 (a1 := A1) (a2 := A2) (a3 := A3) (c1 := c1) (c2 := c2) (c3 := c3) (cell_lit h rfl) (cell_lit h rfl) (cell_lit h rfl) (bysA_alloc b1 _) (bysA_alloc b2 _) (bysA_alloc b3 _)
theorem byts_three {b1 b2 b3 : List Int} (h1 : Byt b1) (l1 : b1.length ≤ 20000) (h2 : Byt b2) (l2 : b2.length ≤ 20000) (h3 : Byt b3) (l3 : b3.length ≤ 20000) : Byts [b1, b2, b3] :=
  byts_of (by
    simp only [List.mem_cons, List.not_mem_nil, or_false, forall_eq_or_imp, forall_eq]
    exact ⟨⟨h1, maxLen_ge _ (by omega)⟩, ⟨h2, maxLen_ge _ (by omega)⟩, ⟨h3, maxLen_ge _ (by omega)⟩⟩)
theorem own_mono {w : World} {base base' : Nat} {e : TypeId} {size : Nat} {v : Value} {n : Nat} {xs : List Value} (h : w.ownsRow base e size v n xs) (hb : base' ≤ base) : w.ownsRow base' e size v n xs := by
  obtain ⟨hl, h2⟩ := h
  refine ⟨hl, ?_⟩
  rcases h2 with h0 | ⟨g, cap, cur, hv, hbg, r⟩
  · exact .inl h0
  · exact .inr ⟨g, cap, cur, hv, by omega, r⟩
theorem concat3 (N cap : Nat) (p1 p2 p3 : List Int) (W : World) (hp : PartsA W (some ⟨N, 0, none⟩) [p1, p2, p3]) (hB : Byts [p1, p2, p3]) (h0 : 0 < p1.length) (hf : p1.length + p2.length + p3.length ≤ 10000) :
    Calls Try.prog 53 #[.slice (some ⟨N, 0, none⟩) 3 cap] W fun e w' => ∃ g c, e = .returned (.slice (some ⟨g, 0, none⟩) (p1 ++ p2 ++ p3).length c) ∧ w'.ownsRow W.heap.size 5 1 (.slice (some ⟨g, 0, none⟩) (p1 ++ p2 ++ p3).length c) (p1 ++ p2 ++ p3).length ((p1 ++ p2 ++ p3).map (Value.int .u8)) ∧ Below W.heap.size W w' := by
  have e : [p1, p2, p3].flatten = p1 ++ p2 ++ p3 := by simp
  have := concat_any (some ⟨N, 0, none⟩) [p1, p2, p3] cap W hp hB (by simp) (by rw [e]; simp; omega) (by rw [e]; simp; omega)
  rw [e] at this
  refine this.mono ?_
  rintro e w' ⟨v, rfl, ho, hb⟩
  obtain ⟨g, c, rfl, _⟩ := own_bys1 ho (by simp; omega)
  exact ⟨g, c, rfl, ho, hb⟩

set_option maxHeartbeats 2000000 in
theorem lead_any (k e s : Int) (hk : 0 ≤ k ∧ k ≤ 255) (he : 0 ≤ e ∧ e ≤ 4294967295) (hs : 0 ≤ s ∧ s ≤ 4294967295) (w : World) :
    Calls Try.prog 61 #[.agg #[.int .u8 k, .int .u32 e, .int .u32 s]] w fun x w' => ∃ g c, x = .returned (.slice (some ⟨g, 0, none⟩) 9 c) ∧ w'.ownsRow w.heap.size 5 1 (.slice (some ⟨g, 0, none⟩) 9 c) (leadL k e s).length ((leadL k e s).map (Value.int .u8)) ∧ Below w.heap.size w w' := by
  have HK := hide hk
  have HE := hide he
  have HS := hide hs
  have HBT : Hid (Byts [[k], four e, four s]) := byts_three (byt_one hk) (by simp) (four_byt _) (by simp [four_len]) (four_byt _) (by simp [four_len])
  have HZ : Hid (0 < [k].length) := by show _ < _; simp
  have HL : Hid ([k].length + (four e).length + (four s).length ≤ 10000) := by show _ ≤ _; simp [four_len]
  clear hk he hs
  have HB0 : Hid (Below w.heap.size w (w.alloc (.cells #[.int .u8 k, .int .u32 e, .int .u32 s] 91))) := below_alloc (Below.refl _ _) _
  have c0 : (w.alloc (.cells #[.int .u8 k, .int .u32 e, .int .u32 s] 91)).cell? ⟨w.heap.size, 0, none⟩ = some (.int .u8 k) := cell_lit rfl rfl
  have c1 : (w.alloc (.cells #[.int .u8 k, .int .u32 e, .int .u32 s] 91)).cell? ⟨w.heap.size, 1, none⟩ = some (.int .u32 e) := cell_lit rfl rfl
  have c2 : (w.alloc (.cells #[.int .u8 k, .int .u32 e, .int .u32 s] 91)).cell? ⟨w.heap.size, 2, none⟩ = some (.int .u32 s) := cell_lit rfl rfl
  have hlt : w.heap.size < (w.alloc (.cells #[.int .u8 k, .int .u32 e, .int .u32 s] 91)).heap.size := by simp
  go_enter Try.func61, Try.ntmps61
  go_wp2
  generalize w.alloc (.cells #[.int .u8 k, .int .u32 e, .int .u32 s] 91) = w1 at *
  obtain ⟨bx, hbx⟩ : ∃ bx, w.heap.size = bx := ⟨_, rfl⟩
  have HBX := hide hbx
  rw [hbx] at c0 c1 c2 hlt ⊢
  clear hbx
  have HKEEP := hide (fun (W : World) (h : Below w1.heap.size w1 W) => (⟨h, (h.cell (p := ⟨bx, 0, none⟩) hlt).trans c0, (h.cell (p := ⟨bx, 1, none⟩) hlt).trans c1, (h.cell (p := ⟨bx, 2, none⟩) hlt).trans c2⟩ : Below w1.heap.size w1 W ∧ W.cell? ⟨bx, 0, none⟩ = some (.int .u8 k) ∧ W.cell? ⟨bx, 1, none⟩ = some (.int .u32 e) ∧ W.cell? ⟨bx, 2, none⟩ = some (.int .u32 s)))
  go_region_held3 (fun W => Below w1.heap.size w1 W ∧ W.cell? ⟨bx, 0, none⟩ = some (.int .u8 k) ∧ W.cell? ⟨bx, 1, none⟩ = some (.int .u32 e) ∧ W.cell? ⟨bx, 2, none⟩ = some (.int .u32 s)) ((go_split_ands; refine unhide HKEEP _ ?_; repeat (first | assumption | exact Below.refl _ _ | apply Below.drew | apply below_alloc))) (first
    | (go_at_call 62; refine (wide_four _ ?_ _).mono ?_; (focus (first | exact unhide HE | exact unhide HS)); rintro x w' ⟨rfl, rfl⟩)
    | (go_at_call 53; go_split_ands; refine (concat3 _ _ [k] (four e) (four s) _ ?_ (unhide HBT) (unhide HZ) (unhide HL)).mono ?_; (focus ((try refine partsA_drew ?_); ((with_reducible refine parts_row3 ?_ ?_ ?_ ?_ ?_ ?_ ?_) <;> (repeat (first | (focus (simp; done)) | rfl | (with_reducible refine bys_four ?_) | (with_reducible refine bys_kind ?_) | (with_reducible refine bysA_alloc ?_ _)))); done)); rintro x w' ⟨g, c, rfl, ho, hb⟩; have hbw : Below w1.heap.size w1 w' := (below_then (by repeat (first | assumption | exact Below.refl _ _ | apply Below.drew | apply below_alloc)) hb); have HO := hide (own_mono ho (base' := w.heap.size) (by have := (unhide HB0).size; simp; omega)); clear ho hb))
  all_goals
    have hbw' := below_then (unhide HB0) hbw
    clear HBX
    go_wp2
    go_ret
    exact ⟨g, c, rfl, unhide HO, hbw'⟩
end Go.Proofs.Ytpaolllkpmkgkaa
