/- MacTells out of its arguments. -/
import Derived.Test.YtlnffmppkkkhjaaTel
import Derived.Test.YtlnffmppkkkhjaaOpn
import Derived.ChangeMaps5
import Derived.ProofKit
import Derived.OpenShut
namespace Go.Proofs.Ytlnffmppkkkhjaa
open Go.RowKit Go.ChangeShapes Go.WideShapes
open Go.ChangeMaps (open_string)
set_option linter.unusedVariables false
variable {H : Type} {enc : TypeId × Value → H} {W : World} {base : Nat}
theorem wf_u8' {x : Int} (h : (Lit.int .u8 x).wf = true) : 0 ≤ x ∧ x ≤ 255 := by simpa [Lit.wf, IntKind.min, IntKind.max, IntKind.signed, IntKind.bits] using h
theorem open_bytes {t e : TypeId} {v : Value} {d : DataW H} {p : List MemPlace} (ht : Try.prog.underlying t = some (.slice e)) (he : Try.prog.underlying e = some (.int .u8)) (hce : Try.prog.cellsOf e = 1)
    (o : Value.okWide Try.prog W .any base t v) (r : DataW.Trod enc Try.prog W 0 (fun _ => true) true t v d p) :
    ∃ (a : Option Addr) (bs : List Nat) (cap : Nat), v = .slice a bs.length cap ∧ (∀ x ∈ bs, x < 256) ∧ RowA W a (u8s bs) := by
  obtain ⟨a0, len0, cap0, rfl⟩ := okWide_slice ht o
  obtain ⟨fuel, hf⟩ := r
  rcases open_ints ht he hce (by simpa [Value.cells] using hf) with ⟨hcs, _⟩ | ⟨x, l, c, zs, hcs, _, hl, hm, hz, _, hcell, hwz⟩
  · simp at hcs
    obtain ⟨rfl, rfl, rfl⟩ := hcs
    exact ⟨none, [], 0, rfl, by simp, rowA_nil _ _⟩
  · simp at hcs
    obtain ⟨rfl, rfl, rfl⟩ := hcs
    have hzl : zs.length = cap0 := by simpa using hz
    refine ⟨some x, (zs.take len0).map Int.toNat, cap0, by simp; omega, ?_, ?_⟩
    · intro y hy
      obtain ⟨z, hz1, rfl⟩ := List.mem_map.1 hy
      have := wf_u8' (hwz z (List.mem_of_mem_take hz1))
      omega
    · intro hne
      have hpos : 0 < zs.length := by
        rcases Nat.eq_zero_or_pos zs.length with h | h
        · rw [List.length_eq_zero_iff] at h; subst h; simp [u8s] at hne
        · exact h
      obtain ⟨b, off, spot⟩ := x
      have hc0 := hcell 0 hpos
      have hspot : spot = none := by simpa [Addr.add] using World.cell?_spot hc0
      subst hspot
      refine ⟨b, off, rfl, fun j u hj => ?_⟩
      unfold u8s at hj
      rw [List.map_map, List.getElem?_map] at hj
      obtain ⟨z, hz1, rfl⟩ := Option.map_eq_some_iff.1 hj
      have hjl : j < (zs.take len0).length := (List.getElem?_eq_some_iff.1 hz1).1
      have hjz : j < zs.length := by simp at hjl; omega
      have hzj : zs[j]? = some z := by rw [List.getElem?_take] at hz1; split at hz1 <;> simp_all
      have hw := wf_u8' (hwz z (List.mem_of_getElem? hzj))
      rw [← addr_add, hcell j hjz, List.getD_eq_getElem?_getD, hzj]
      simp; omega
theorem macTells_call {H : Type} (enc : TypeId × Value → H) (W : World) (base : Nat) (v0 v1 v2 : Value) (o0 : Value.okWide Try.prog W .any base 22 v0) (o1 : Value.okWide Try.prog W .any base 23 v1) (o2 : Value.okWide Try.prog W .any base 9 v2) {d0 d1 d2 : DataW H} {p0 p1 p2 : List MemPlace}
    (r0 : DataW.Trod enc Try.prog W 0 (fun _ => true) true 22 v0 d0 p0) (r1 : DataW.Trod enc Try.prog W 0 (fun _ => true) true 23 v1 d1 p1) (r2 : DataW.Trod enc Try.prog W 0 (fun _ => true) true 9 v2 d2 p2) :
    Calls Try.prog 3 #[v0, v1, v2] W fun e w' => e = .returned (.bool true) ∧ Below W.heap.size W w' := by
  obtain ⟨a, rfl, ha⟩ := open_u64 Try.underlying22 o0 r0
  obtain ⟨A, xs, c, rfl, hx, hA⟩ := open_bytes Try.underlying23 Try.underlying5 (by kernel_rfl) o1 r1
  obtain ⟨s, rfl, _, _, _⟩ := open_string Try.underlying9 o2 r2
  by_cases h : xs.length ≤ 100 ∧ s.size ≤ 100
  · exact tells_any a ha A c xs hx s W hA h.1 h.2
  · exact tells_no a A xs.length c s (by omega) W
end Go.Proofs.Ytlnffmppkkkhjaa
