/-
  NETS IN MEMORY.
-/
import Derived.WalkKit
import Derived.Test.YtmnblcnhbafcpaaJ01
/-
  NETS, PLAIN.
-/
namespace NetM

structure Nd where
  op : Int
  w : Int
  a : Int
  b : Int
  c : Int
  n : Int
  lo : Int
structure Pn where
  s : ByteArray
  node : Int
structure Ce where
  s : ByteArray
  node : Int
  next : Int
  reset : Int
structure Pr where
  kind : Int
  s : ByteArray
  node : Int
structure Nt where
  nodes : List Nd
  ins : List Pn
  cells : List Ce
  props : List Pr
  names : List Pn

/-- the width of the node at a place, 0 if there is none -/
def widA (l : List Nd) (i : Int) : Int := if i < 0 then 0 else match l[i.toNat]? with
  | some x => x.w
  | none => 0
/-- the number at a place, 0 if there is none -/
def getA (l : List Int) (i : Int) : Int := if i < 0 then 0 else match l[i.toNat]? with
  | some x => x
  | none => 0
theorem widA_neg {l : List Nd} {i : Int} (h : i < 0) : widA l i = 0 := if_pos h
theorem widA_some {l : List Nd} {i : Nat} {x : Nd} (h : l[i]? = some x) : widA l (i : Int) = x.w := by
  unfold widA
  rw [if_neg (by omega), Int.toNat_natCast, h]
theorem widA_ge {l : List Nd} {i : Int} (h : (l.length : Int) ≤ i) : widA l i = 0 := by
  unfold widA
  rw [if_neg (by omega), List.getElem?_eq_none (by omega)]
theorem getA_neg {l : List Int} {i : Int} (h : i < 0) : getA l i = 0 := if_pos h
theorem getA_some {l : List Int} {i : Nat} {x : Int} (h : l[i]? = some x) : getA l (i : Int) = x := by
  unfold getA
  rw [if_neg (by omega), Int.toNat_natCast, h]
theorem getA_ge {l : List Int} {i : Int} (h : (l.length : Int) ≤ i) : getA l i = 0 := by
  unfold getA
  rw [if_neg (by omega), List.getElem?_eq_none (by omega)]

/-- an operand's place, and its width -/
def plc (x : Nd) : Nat → Int
  | 0 => x.a
  | 1 => x.b
  | _ => x.c
def opd (l : List Nd) (x : Nd) (j : Nat) : Int := widA l (plc x j)
/-- of an op: how many operands, whether N and Lo tell something, which check -/
def ruleOf (op : Int) : Option (Nat × Bool × Bool × Nat) :=
  if op = 1 then some (0, true, false, 56) else if op = 3 then some (1, false, false, 57) else if op = 4 ∨ op = 5 then some (1, false, true, 58)
  else if 6 ≤ op ∧ op ≤ 11 then some (2, false, false, 57) else if 12 ≤ op ∧ op ≤ 15 then some (2, false, true, 58) else if op = 16 then some (3, false, false, 59)
  else if op = 17 then some (2, false, false, 60) else if op = 18 then some (1, true, true, 61) else if op = 21 ∨ op = 22 then some (0, false, false, 62) else none
def NReach (l : List Nd) (x : Nd) (k : Nat) : Prop := ∀ j, j < 3 → (k ≤ j → plc x j = 0) ∧ (j < k → opd l x j ≠ 0)
def NBare (x : Nd) (n lo : Bool) : Prop := (n = true ∨ x.n = 0) ∧ (lo = true ∨ x.lo = 0)
def AllW (l : List Nd) (x : Nd) (k : Nat) (z : Int) : Prop := ∀ j, j < k → opd l x j = z
def NFits (l : List Nd) (x : Nd) (k f : Nat) : Prop :=
  (f = 56 → 0 ≤ x.n ∧ x.n ≤ ((2 ^ x.w.toNat - 1 : Nat) : Int)) ∧ (f = 57 → AllW l x k x.w) ∧ (f = 58 → x.w = 1 ∧ AllW l x k x.lo) ∧
  (f = 59 → opd l x 0 = 1 ∧ opd l x 1 = x.w ∧ opd l x 2 = x.w) ∧ (f = 60 → opd l x 0 + opd l x 1 = x.w) ∧ (f = 61 → x.n < opd l x 0 ∧ 0 ≤ x.lo ∧ x.lo ≤ x.n ∧ x.w = x.n - x.lo + 1)
def NdOk (l : List Nd) (x : Nd) : Prop := ∃ k n lo f, ruleOf x.op = some (k, n, lo, f) ∧ 1 ≤ x.w ∧ x.w ≤ 16 ∧ NReach l x k ∧ NBare x n lo ∧ NFits l x k f
def NdsOk (l : List Nd) : Prop := ∀ i x, l[i]? = some x → NdOk (l.take i) x
/-- where nodes of an op stand -/
def placesF (op : Int) : List Nd → Nat → List Int
  | [], _ => []
  | x :: r, i => if x.op = op then (i : Int) :: placesF op r (i + 1) else placesF op r (i + 1)
def places (l : List Nd) (op : Int) : List Int := placesF op l 0
def bitsOf (l : List Nd) (cs : List Ce) : Int := (cs.map fun c => widA l c.node).sum
def InsOk (n : Nt) : Prop := n.ins.length ≤ 64 ∧ n.ins.map Pn.node = places n.nodes 21
def CellOk (l : List Nd) (c : Ce) : Prop := widA l c.next = widA l c.node ∧ 0 ≤ c.reset ∧ c.reset ≤ ((2 ^ (widA l c.node).toNat - 1 : Nat) : Int)
def CellsOk (n : Nt) : Prop := n.cells.map Ce.node = places n.nodes 22 ∧ (∀ c ∈ n.cells, CellOk n.nodes c) ∧ bitsOf n.nodes n.cells ≤ 256
def PropOk (l : List Nd) (p : Pr) : Prop := 8 ≤ p.kind ∧ p.kind ≤ 10 ∧ widA l p.node = 1
def PropsOk (n : Nt) : Prop := (∀ p ∈ n.props, PropOk n.nodes p) ∧ n.props.length ≤ 16
def NamesOk (n : Nt) : Prop := ∀ p ∈ n.names, 0 ≤ p.node ∧ p.node < (n.nodes.length : Int)
def NRight (n : Nt) : Prop := NdsOk n.nodes ∧ InsOk n ∧ CellsOk n ∧ PropsOk n ∧ NamesOk n
/-- what the laws take -/
def Sz (n : Nt) : Prop := n.nodes.length ≤ 400 ∧ n.ins.length ≤ 400 ∧ n.cells.length ≤ 400 ∧ n.props.length ≤ 400 ∧ n.names.length ≤ 400
end NetM

namespace Go.Proofs.Ytmnblcnhbafcpaa
open Go.RowKit
open NetM

abbrev Gr (w w' : World) : Prop := Below w.heap.size w w'
theorem Gr.trans {a b c : World} (h : Gr a b) (k : Gr b c) : Gr a c := Below.trans h (k.mono h.size)
theorem Gr.drew (w : World) : Gr w w.drew := Below.drew (Below.refl _ _)
theorem Gr.refl (w : World) : Gr w w := Below.refl _ _
theorem hlt {w : World} {g : Nat} {o : Obj} (h : w.heap[g]? = some o) : g < w.heap.size := (Array.getElem?_eq_some_iff.1 h).1
/-- a row of numbers -/
def Ints (w : World) (B : Nat) (A : Option Addr) (ns : List Int) : Prop :=
  ∀ (i : Nat) (s : Int), ns[i]? = some s → ∃ b off, A = some ⟨b, off, none⟩ ∧ b < B ∧ w.cell? ⟨b, off + i, none⟩ = some (.int .i64 s)
theorem Ints.below {w w' : World} {B : Nat} {A : Option Addr} {ns : List Int} (h : Ints w B A ns) (hb : Below B w w') : Ints w' B A ns := by
  intro i s hi
  obtain ⟨b, off, e, hlt, hc⟩ := h i s hi
  exact ⟨b, off, e, hlt, by rw [hb.cell (p := ⟨b, off + i, none⟩) hlt]; exact hc⟩
theorem Ints.more {w : World} {B B' : Nat} {A : Option Addr} {ns : List Int} (h : Ints w B A ns) (hb : B ≤ B') : Ints w B' A ns := by
  intro i s hi
  obtain ⟨b, off, e, hlt, hc⟩ := h i s hi
  exact ⟨b, off, e, by omega, hc⟩
theorem Ints.gr {w w' : World} {A : Option Addr} {ns : List Int} (h : Ints w w.heap.size A ns) (hb : Gr w w') : Ints w' w'.heap.size A ns := (h.below hb).more hb.size
/-- a row of numbers of 16 bits -/
def U16s (w : World) (B : Nat) (A : Option Addr) (ns : List Nat) : Prop :=
  ∀ (i : Nat) (s : Nat), ns[i]? = some s → ∃ b off, A = some ⟨b, off, none⟩ ∧ b < B ∧ w.cell? ⟨b, off + i, none⟩ = some (.int .u16 (s : Nat))
theorem U16s.below {w w' : World} {B : Nat} {A : Option Addr} {ns : List Nat} (h : U16s w B A ns) (hb : Below B w w') : U16s w' B A ns := by
  intro i s hi
  obtain ⟨b, off, e, hlt, hc⟩ := h i s hi
  exact ⟨b, off, e, hlt, by rw [hb.cell (p := ⟨b, off + i, none⟩) hlt]; exact hc⟩
theorem U16s.more {w : World} {B B' : Nat} {A : Option Addr} {ns : List Nat} (h : U16s w B A ns) (hb : B ≤ B') : U16s w B' A ns := by
  intro i s hi
  obtain ⟨b, off, e, hlt, hc⟩ := h i s hi
  exact ⟨b, off, e, by omega, hc⟩
theorem U16s.gr {w w' : World} {A : Option Addr} {ns : List Nat} (h : U16s w w.heap.size A ns) (hb : Gr w w') : U16s w' w'.heap.size A ns := (h.below hb).more hb.size
def Nds (w : World) (B : Nat) (A : Option Addr) (l : List Nd) : Prop :=
  ∀ (i : Nat) (x : Nd), l[i]? = some x → ∃ b off, A = some ⟨b, off, none⟩ ∧ b < B ∧ w.cell? ⟨b, off + i * 7, none⟩ = some (.int .i64 x.op) ∧ w.cell? ⟨b, off + i * 7 + 1, none⟩ = some (.int .i64 x.w) ∧ w.cell? ⟨b, off + i * 7 + 2, none⟩ = some (.int .i64 x.a) ∧ w.cell? ⟨b, off + i * 7 + 3, none⟩ = some (.int .i64 x.b) ∧ w.cell? ⟨b, off + i * 7 + 4, none⟩ = some (.int .i64 x.c) ∧ w.cell? ⟨b, off + i * 7 + 5, none⟩ = some (.int .i64 x.n) ∧ w.cell? ⟨b, off + i * 7 + 6, none⟩ = some (.int .i64 x.lo)
theorem Nds.below {w w' : World} {B : Nat} {A : Option Addr} {l : List Nd} (h : Nds w B A l) (hb : Below B w w') : Nds w' B A l := by
  intro i x hi
  obtain ⟨b, off, e, hlt, h0, h1, h2, h3, h4, h5, h6⟩ := h i x hi
  exact ⟨b, off, e, hlt, by rw [hb.cell (p := ⟨b, _, none⟩) hlt]; exact h0, by rw [hb.cell (p := ⟨b, _, none⟩) hlt]; exact h1, by rw [hb.cell (p := ⟨b, _, none⟩) hlt]; exact h2, by rw [hb.cell (p := ⟨b, _, none⟩) hlt]; exact h3, by rw [hb.cell (p := ⟨b, _, none⟩) hlt]; exact h4, by rw [hb.cell (p := ⟨b, _, none⟩) hlt]; exact h5, by rw [hb.cell (p := ⟨b, _, none⟩) hlt]; exact h6⟩
theorem Nds.more {w : World} {B B' : Nat} {A : Option Addr} {l : List Nd} (h : Nds w B A l) (hb : B ≤ B') : Nds w B' A l := by
  intro i x hi
  obtain ⟨b, off, e, hlt, hc⟩ := h i x hi
  exact ⟨b, off, e, by omega, hc⟩
theorem Nds.gr {w w' : World} {A : Option Addr} {l : List Nd} (h : Nds w w.heap.size A l) (hb : Gr w w') : Nds w' w'.heap.size A l := (h.below hb).more hb.size
theorem Nds.take {w : World} {B : Nat} {A : Option Addr} {l : List Nd} (h : Nds w B A l) (k : Nat) : Nds w B A (l.take k) := fun i x hi => h i x (by
  rw [List.getElem?_take] at hi
  split at hi
  · exact hi
  · simp at hi)
def Pns (w : World) (B : Nat) (A : Option Addr) (l : List Pn) : Prop :=
  ∀ (i : Nat) (x : Pn), l[i]? = some x → ∃ b off, A = some ⟨b, off, none⟩ ∧ b < B ∧ w.cell? ⟨b, off + i * 2, none⟩ = some (.string x.s) ∧ w.cell? ⟨b, off + i * 2 + 1, none⟩ = some (.int .i64 x.node)
theorem Pns.below {w w' : World} {B : Nat} {A : Option Addr} {l : List Pn} (h : Pns w B A l) (hb : Below B w w') : Pns w' B A l := by
  intro i x hi
  obtain ⟨b, off, e, hlt, h0, h1⟩ := h i x hi
  exact ⟨b, off, e, hlt, by rw [hb.cell (p := ⟨b, _, none⟩) hlt]; exact h0, by rw [hb.cell (p := ⟨b, _, none⟩) hlt]; exact h1⟩
theorem Pns.more {w : World} {B B' : Nat} {A : Option Addr} {l : List Pn} (h : Pns w B A l) (hb : B ≤ B') : Pns w B' A l := by
  intro i x hi
  obtain ⟨b, off, e, hlt, hc⟩ := h i x hi
  exact ⟨b, off, e, by omega, hc⟩
theorem Pns.gr {w w' : World} {A : Option Addr} {l : List Pn} (h : Pns w w.heap.size A l) (hb : Gr w w') : Pns w' w'.heap.size A l := (h.below hb).more hb.size
theorem Pns.take {w : World} {B : Nat} {A : Option Addr} {l : List Pn} (h : Pns w B A l) (k : Nat) : Pns w B A (l.take k) := fun i x hi => h i x (by
  rw [List.getElem?_take] at hi
  split at hi
  · exact hi
  · simp at hi)
def Ces (w : World) (B : Nat) (A : Option Addr) (l : List Ce) : Prop :=
  ∀ (i : Nat) (x : Ce), l[i]? = some x → ∃ b off, A = some ⟨b, off, none⟩ ∧ b < B ∧ w.cell? ⟨b, off + i * 4, none⟩ = some (.string x.s) ∧ w.cell? ⟨b, off + i * 4 + 1, none⟩ = some (.int .i64 x.node) ∧ w.cell? ⟨b, off + i * 4 + 2, none⟩ = some (.int .i64 x.next) ∧ w.cell? ⟨b, off + i * 4 + 3, none⟩ = some (.int .i64 x.reset)
theorem Ces.below {w w' : World} {B : Nat} {A : Option Addr} {l : List Ce} (h : Ces w B A l) (hb : Below B w w') : Ces w' B A l := by
  intro i x hi
  obtain ⟨b, off, e, hlt, h0, h1, h2, h3⟩ := h i x hi
  exact ⟨b, off, e, hlt, by rw [hb.cell (p := ⟨b, _, none⟩) hlt]; exact h0, by rw [hb.cell (p := ⟨b, _, none⟩) hlt]; exact h1, by rw [hb.cell (p := ⟨b, _, none⟩) hlt]; exact h2, by rw [hb.cell (p := ⟨b, _, none⟩) hlt]; exact h3⟩
theorem Ces.more {w : World} {B B' : Nat} {A : Option Addr} {l : List Ce} (h : Ces w B A l) (hb : B ≤ B') : Ces w B' A l := by
  intro i x hi
  obtain ⟨b, off, e, hlt, hc⟩ := h i x hi
  exact ⟨b, off, e, by omega, hc⟩
theorem Ces.gr {w w' : World} {A : Option Addr} {l : List Ce} (h : Ces w w.heap.size A l) (hb : Gr w w') : Ces w' w'.heap.size A l := (h.below hb).more hb.size
theorem Ces.take {w : World} {B : Nat} {A : Option Addr} {l : List Ce} (h : Ces w B A l) (k : Nat) : Ces w B A (l.take k) := fun i x hi => h i x (by
  rw [List.getElem?_take] at hi
  split at hi
  · exact hi
  · simp at hi)
def Prs (w : World) (B : Nat) (A : Option Addr) (l : List Pr) : Prop :=
  ∀ (i : Nat) (x : Pr), l[i]? = some x → ∃ b off, A = some ⟨b, off, none⟩ ∧ b < B ∧ w.cell? ⟨b, off + i * 3, none⟩ = some (.int .i64 x.kind) ∧ w.cell? ⟨b, off + i * 3 + 1, none⟩ = some (.string x.s) ∧ w.cell? ⟨b, off + i * 3 + 2, none⟩ = some (.int .i64 x.node)
theorem Prs.below {w w' : World} {B : Nat} {A : Option Addr} {l : List Pr} (h : Prs w B A l) (hb : Below B w w') : Prs w' B A l := by
  intro i x hi
  obtain ⟨b, off, e, hlt, h0, h1, h2⟩ := h i x hi
  exact ⟨b, off, e, hlt, by rw [hb.cell (p := ⟨b, _, none⟩) hlt]; exact h0, by rw [hb.cell (p := ⟨b, _, none⟩) hlt]; exact h1, by rw [hb.cell (p := ⟨b, _, none⟩) hlt]; exact h2⟩
theorem Prs.more {w : World} {B B' : Nat} {A : Option Addr} {l : List Pr} (h : Prs w B A l) (hb : B ≤ B') : Prs w B' A l := by
  intro i x hi
  obtain ⟨b, off, e, hlt, hc⟩ := h i x hi
  exact ⟨b, off, e, by omega, hc⟩
theorem Prs.gr {w w' : World} {A : Option Addr} {l : List Pr} (h : Prs w w.heap.size A l) (hb : Gr w w') : Prs w' w'.heap.size A l := (h.below hb).more hb.size
theorem Prs.take {w : World} {B : Nat} {A : Option Addr} {l : List Pr} (h : Prs w B A l) (k : Nat) : Prs w B A (l.take k) := fun i x hi => h i x (by
  rw [List.getElem?_take] at hi
  split at hi
  · exact hi
  · simp at hi)
theorem Ints.take {w : World} {B : Nat} {A : Option Addr} {l : List Int} (h : Ints w B A l) (k : Nat) : Ints w B A (l.take k) := fun i x hi => h i x (by
  rw [List.getElem?_take] at hi
  split at hi
  · exact hi
  · simp at hi)
/-- a net's five rows -/
abbrev ntV (A1 A2 A3 A4 A5 : Option Addr) (k1 k2 k3 k4 k5 c1 c2 c3 c4 c5 : Nat) : Value := .agg #[.slice A1 k1 c1, .slice A2 k2 c2, .slice A3 k3 c3, .slice A4 k4 c4, .slice A5 k5 c5]
def NtAt (w : World) (n : Nt) (v : Value) : Prop := ∃ A1 A2 A3 A4 A5 c1 c2 c3 c4 c5, v = ntV A1 A2 A3 A4 A5 n.nodes.length n.ins.length n.cells.length n.props.length n.names.length c1 c2 c3 c4 c5 ∧
  n.nodes.length ≤ c1 ∧ Nds w w.heap.size A1 n.nodes ∧ Pns w w.heap.size A2 n.ins ∧ Ces w w.heap.size A3 n.cells ∧ Prs w w.heap.size A4 n.props ∧ Pns w w.heap.size A5 n.names
theorem NtAt.gr {w w' : World} {n : Nt} {v : Value} (h : NtAt w n v) (hb : Gr w w') : NtAt w' n v := by
  obtain ⟨A1, A2, A3, A4, A5, c1, c2, c3, c4, c5, e, h0, h1, h2, h3, h4, h5⟩ := h
  exact ⟨A1, A2, A3, A4, A5, c1, c2, c3, c4, c5, e, h0, h1.gr hb, h2.gr hb, h3.gr hb, h4.gr hb, h5.gr hb⟩
end Go.Proofs.Ytmnblcnhbafcpaa
