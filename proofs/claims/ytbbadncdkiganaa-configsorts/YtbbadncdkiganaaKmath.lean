/- Plain mathematics of configurations and their edits; bits are the model's own. -/
import Derived.Test.YtbbadncdkiganaaBase
namespace Go.Proofs.Ytbbadncdkiganaa
open Go.RowKit
set_option linter.unusedVariables false

/-- up, cost, pvid -/
abbrev PortC := Bool × Int × Int
/-- id, member, tagged -/
abbrev VlanC := Int × Int × Int
/-- mac, vlan, port -/
abbrev StatC := Int × Int × Int
structure Cfg where
  prio : Int
  age : Int
  delay : Int
  ports : List PortC
  vlans : List VlanC
  stats : List StatC
structure Ed where
  kind : Int
  port : Int
  n : Int
  vlan : Int
  member : Int
  tagged : Int
  mac : Int

def wi (x a b : Int) : Bool := decide (a ≤ x) && decide (x ≤ b)
theorem wi_t {x a b : Int} (h : wi x a b = true) : a ≤ x ∧ x ≤ b := by simpa [wi] using h
theorem wi_f {x a b : Int} (h : wi x a b = false) : x < a ∨ b < x := by
  simp [wi] at h
  omega
theorem wi_of {x a b : Int} (h1 : a ≤ x) (h2 : x ≤ b) : wi x a b = true := by simp [wi, h1, h2]
theorem wi_not {x a b : Int} (h : x < a ∨ b < x) : wi x a b = false := by
  simp [wi]
  omega
def everyI (n : Nat) : Int := 2 ^ n - 1
def cmpI (x y : Int) : Int := if x < y then -1 else if y < x then 1 else 0
def ltV (a b : VlanC) : Bool := decide (a.1 < b.1)
def eqV (a b : VlanC) : Bool := decide (a.1 = b.1)
def ltS (a b : StatC) : Bool := decide (a.2.1 < b.2.1) || (decide (a.2.1 = b.2.1) && decide (a.1 < b.1))
def eqS (a b : StatC) : Bool := decide (a.2.1 = b.2.1) && decide (a.1 = b.1)
/-- What an order says of two. -/
def ordB (lt eq : Bool) : Int := if lt then -1 else if eq then 0 else 1
def ordV (a b : VlanC) : Int := ordB (ltV a b) (eqV a b)
def ordS (a b : StatC) : Int := ordB (ltS a b) (eqS a b)
theorem cmp_v (a b : VlanC) : cmpI a.1 b.1 = ordV a b := by
  unfold cmpI ordV ordB ltV eqV
  by_cases h : a.1 < b.1
  · simp [h]
  · by_cases h2 : a.1 = b.1
    · simp [h2]
    · have : b.1 < a.1 := by omega
      simp [h, h2, this]
def orI (x y : Int) : Int := if x = 0 then y else x
theorem cmp_s (a b : StatC) : orI (cmpI a.2.1 b.2.1) (cmpI a.1 b.1) = ordS a b := by
  unfold orI cmpI ordS ordB ltS eqS
  by_cases h : a.2.1 < b.2.1
  · simp [h]
  · by_cases h2 : a.2.1 = b.2.1
    · by_cases h3 : a.1 < b.1
      · simp [h2, h3]
      · by_cases h4 : a.1 = b.1
        · simp [h2, h4]
        · have : b.1 < a.1 := by omega
          simp [h2, h3, h4, this]
    · have : b.2.1 < a.2.1 := by omega
      simp [h, h2, this]

def risB {α : Type} (lt : α → α → Bool) : List α → Bool
  | [] => true
  | [_] => true
  | a :: b :: t => lt a b && risB lt (b :: t)
/-- The first k of l rise. -/
theorem ris_take_succ {α : Type} (lt : α → α → Bool) : ∀ (l : List α) (k : Nat) (a b : α), l[k]? = some a → l[k + 1]? = some b → risB lt (l.take (k + 2)) = (risB lt (l.take (k + 1)) && lt a b)
  | [], k, a, b, h, _ => by simp at h
  | [x], k, a, b, _, h => by simp at h
  | x :: y :: t, 0, a, b, ha, hb => by
    simp at ha hb
    subst ha; subst hb
    simp [risB]
  | x :: y :: t, k + 1, a, b, ha, hb => by
    have := ris_take_succ lt (y :: t) k a b (by simpa using ha) (by simpa using hb)
    simp only [List.take_succ_cons, risB] at this ⊢
    rw [this, Bool.and_assoc]

def findV (vs : List VlanC) (id : Int) : Option VlanC := vs.find? (fun v => decide (v.1 = id))
def vlanOk (every : Int) (v : VlanC) : Bool := wi v.1 1 4094 && (bits .andNot .u8 v.2.1 every == 0) && (bits .andNot .u8 v.2.2 v.2.1 == 0)
def isMem (v : VlanC) (port : Int) : Bool := wi port 0 7 && (bits .and .u8 (v.2.1 / 2 ^ port.toNat) 1 == 1)
def portOk (vs : List VlanC) (p : PortC) : Bool := (findV vs p.2.2).isSome && wi p.2.1 1 200000000
def statOk (vs : List VlanC) (s : StatC) : Bool :=
  match findV vs s.2.1 with
  | none => false
  | some v => isMem v s.2.2 && wi s.1 1 281474976710655 && (bits .and .u64 s.1 1099511627776 == 0)
def sizesB (c : Cfg) : Bool := wi c.ports.length 1 8 && wi c.vlans.length 1 16 && decide ((c.stats.length : Int) ≤ 16)
def treeB (c : Cfg) : Bool := wi c.prio 0 61440 && decide (c.prio % 4096 = 0) && wi c.age 6 40 && wi c.delay 4 30 && decide (c.age ≤ 2 * (c.delay - 1))
def vlansB (c : Cfg) : Bool := c.vlans.all (vlanOk (everyI c.ports.length)) && risB ltV c.vlans
def portsB (c : Cfg) : Bool := c.ports.all (portOk c.vlans)
def statsB (c : Cfg) : Bool := c.stats.all (statOk c.vlans) && risB ltS c.stats
def goodB (c : Cfg) : Bool := sizesB c && treeB c && vlansB c && portsB c && statsB c

/-- How many of l stand ahead of x. -/
def atL {α : Type} (lt : α → α → Bool) (x : α) (l : List α) : Nat := (l.takeWhile (fun y => lt y x)).length
def hasL {α : Type} (lt eq : α → α → Bool) (x : α) (l : List α) : Bool :=
  match l[atL lt x l]? with
  | none => false
  | some y => eq y x
def putL {α : Type} (lt eq : α → α → Bool) (x : α) (l : List α) : List α :=
  if hasL lt eq x l then l.set (atL lt x l) x else l.take (atL lt x l) ++ x :: l.drop (atL lt x l)
def cutL {α : Type} (lt : α → α → Bool) (x : α) (l : List α) : List α := l.take (atL lt x l) ++ l.drop (atL lt x l + 1)

def portE (ports : List PortC) (e : Ed) : Int × List PortC :=
  match ports[e.port.toNat]? with
  | none => (1, ports)
  | some p =>
    if e.port < 0 then (1, ports)
    else if e.kind = 4 ∧ wi e.n 0 1 = true then (0, ports.set e.port.toNat (decide (e.n = 1), p.2.1, p.2.2))
    else if e.kind = 5 ∧ wi e.n 0 4294967295 = true then (0, ports.set e.port.toNat (p.1, e.n, p.2.2))
    else if e.kind = 6 then (0, ports.set e.port.toNat (p.1, p.2.1, e.n))
    else (1, ports)
def applyE (c : Cfg) (e : Ed) : Int × Cfg :=
  if e.kind = 1 then (0, { c with prio := e.n })
  else if e.kind = 2 then (0, { c with age := e.n })
  else if e.kind = 3 then (0, { c with delay := e.n })
  else if e.kind = 4 ∨ e.kind = 5 ∨ e.kind = 6 then ((portE c.ports e).1, { c with ports := (portE c.ports e).2 })
  else if e.kind = 7 then (0, { c with vlans := putL ltV eqV (e.vlan, e.member, e.tagged) c.vlans })
  else if e.kind = 8 then (if hasL ltV eqV (e.vlan, 0, 0) c.vlans then (0, { c with vlans := cutL ltV (e.vlan, 0, 0) c.vlans }) else (13, c))
  else if e.kind = 9 then (0, { c with stats := putL ltS eqS (e.mac, e.vlan, e.port) c.stats })
  else if e.kind = 10 then (if hasL ltS eqS (e.mac, e.vlan, 0) c.stats then (0, { c with stats := cutL ltS (e.mac, e.vlan, 0) c.stats }) else (13, c))
  else (11, c)
def applyAll (c : Cfg) : List Ed → Int × Cfg
  | [] => (0, c)
  | e :: l => if (applyE c e).1 = 0 then applyAll (applyE c e).2 l else ((applyE c e).1, c)
def editE (c : Cfg) (l : List Ed) : Int :=
  if goodB c = false then 14 else if 32 < l.length then 3 else if (applyAll c l).1 ≠ 0 then (applyAll c l).1 else if goodB (applyAll c l).2 then 0 else 14
def editC (c : Cfg) (l : List Ed) : Cfg := (applyAll c l).2
end Go.Proofs.Ytbbadncdkiganaa
