/-
  NETS, PLAIN.
-/
import Derived.WalkKit
namespace NetM

structure Nd where
  op : Int
  w : Int
  a : Int
  b : Int
  c : Int
  n : Int
  lo : Int
structure Pn where
  s : ByteArray
  node : Int
structure Ce where
  s : ByteArray
  node : Int
  next : Int
  reset : Int
structure Pr where
  kind : Int
  s : ByteArray
  node : Int
structure Nt where
  nodes : List Nd
  ins : List Pn
  cells : List Ce
  props : List Pr
  names : List Pn

/-- the width of the node at a place, 0 if there is none -/
def widA (l : List Nd) (i : Int) : Int := if i < 0 then 0 else match l[i.toNat]? with
  | some x => x.w
  | none => 0
/-- the number at a place, 0 if there is none -/
def getA (l : List Int) (i : Int) : Int := if i < 0 then 0 else match l[i.toNat]? with
  | some x => x
  | none => 0
theorem widA_neg {l : List Nd} {i : Int} (h : i < 0) : widA l i = 0 := if_pos h
theorem widA_some {l : List Nd} {i : Nat} {x : Nd} (h : l[i]? = some x) : widA l (i : Int) = x.w := by
  unfold widA
  rw [if_neg (by omega), Int.toNat_natCast, h]
theorem widA_ge {l : List Nd} {i : Int} (h : (l.length : Int) ≤ i) : widA l i = 0 := by
  unfold widA
  rw [if_neg (by omega), List.getElem?_eq_none (by omega)]
theorem getA_neg {l : List Int} {i : Int} (h : i < 0) : getA l i = 0 := if_pos h
theorem getA_some {l : List Int} {i : Nat} {x : Int} (h : l[i]? = some x) : getA l (i : Int) = x := by
  unfold getA
  rw [if_neg (by omega), Int.toNat_natCast, h]
theorem getA_ge {l : List Int} {i : Int} (h : (l.length : Int) ≤ i) : getA l i = 0 := by
  unfold getA
  rw [if_neg (by omega), List.getElem?_eq_none (by omega)]

/-- an operand's place, and its width -/
def plc (x : Nd) : Nat → Int
  | 0 => x.a
  | 1 => x.b
  | _ => x.c
def opd (l : List Nd) (x : Nd) (j : Nat) : Int := widA l (plc x j)
/-- of an op: how many operands, whether N and Lo tell something, which check -/
def ruleOf (op : Int) : Option (Nat × Bool × Bool × Nat) :=
  if op = 1 then some (0, true, false, 56) else if op = 3 then some (1, false, false, 57) else if op = 4 ∨ op = 5 then some (1, false, true, 58)
  else if 6 ≤ op ∧ op ≤ 11 then some (2, false, false, 57) else if 12 ≤ op ∧ op ≤ 15 then some (2, false, true, 58) else if op = 16 then some (3, false, false, 59)
  else if op = 17 then some (2, false, false, 60) else if op = 18 then some (1, true, true, 61) else if op = 21 ∨ op = 22 then some (0, false, false, 62) else none
def NReach (l : List Nd) (x : Nd) (k : Nat) : Prop := ∀ j, j < 3 → (k ≤ j → plc x j = 0) ∧ (j < k → opd l x j ≠ 0)
def NBare (x : Nd) (n lo : Bool) : Prop := (n = true ∨ x.n = 0) ∧ (lo = true ∨ x.lo = 0)
def AllW (l : List Nd) (x : Nd) (k : Nat) (z : Int) : Prop := ∀ j, j < k → opd l x j = z
def NFits (l : List Nd) (x : Nd) (k f : Nat) : Prop :=
  (f = 56 → 0 ≤ x.n ∧ x.n ≤ ((2 ^ x.w.toNat - 1 : Nat) : Int)) ∧ (f = 57 → AllW l x k x.w) ∧ (f = 58 → x.w = 1 ∧ AllW l x k x.lo) ∧
  (f = 59 → opd l x 0 = 1 ∧ opd l x 1 = x.w ∧ opd l x 2 = x.w) ∧ (f = 60 → opd l x 0 + opd l x 1 = x.w) ∧ (f = 61 → x.n < opd l x 0 ∧ 0 ≤ x.lo ∧ x.lo ≤ x.n ∧ x.w = x.n - x.lo + 1)
def NdOk (l : List Nd) (x : Nd) : Prop := ∃ k n lo f, ruleOf x.op = some (k, n, lo, f) ∧ 1 ≤ x.w ∧ x.w ≤ 16 ∧ NReach l x k ∧ NBare x n lo ∧ NFits l x k f
def NdsOk (l : List Nd) : Prop := ∀ i x, l[i]? = some x → NdOk (l.take i) x
/-- where nodes of an op stand -/
def placesF (op : Int) : List Nd → Nat → List Int
  | [], _ => []
  | x :: r, i => if x.op = op then (i : Int) :: placesF op r (i + 1) else placesF op r (i + 1)
def places (l : List Nd) (op : Int) : List Int := placesF op l 0
def bitsOf (l : List Nd) (cs : List Ce) : Int := (cs.map fun c => widA l c.node).sum
def InsOk (n : Nt) : Prop := n.ins.length ≤ 64 ∧ n.ins.map Pn.node = places n.nodes 21
def CellOk (l : List Nd) (c : Ce) : Prop := widA l c.next = widA l c.node ∧ 0 ≤ c.reset ∧ c.reset ≤ ((2 ^ (widA l c.node).toNat - 1 : Nat) : Int)
def CellsOk (n : Nt) : Prop := n.cells.map Ce.node = places n.nodes 22 ∧ (∀ c ∈ n.cells, CellOk n.nodes c) ∧ bitsOf n.nodes n.cells ≤ 256
def PropOk (l : List Nd) (p : Pr) : Prop := 8 ≤ p.kind ∧ p.kind ≤ 10 ∧ widA l p.node = 1
def PropsOk (n : Nt) : Prop := (∀ p ∈ n.props, PropOk n.nodes p) ∧ n.props.length ≤ 16
def NamesOk (n : Nt) : Prop := ∀ p ∈ n.names, 0 ≤ p.node ∧ p.node < (n.nodes.length : Int)
def NRight (n : Nt) : Prop := NdsOk n.nodes ∧ InsOk n ∧ CellsOk n ∧ PropsOk n ∧ NamesOk n
/-- what the laws take -/
def Sz (n : Nt) : Prop := n.nodes.length ≤ 400 ∧ n.ins.length ≤ 400 ∧ n.cells.length ≤ 400 ∧ n.props.length ≤ 400 ∧ n.names.length ≤ 400
end NetM
