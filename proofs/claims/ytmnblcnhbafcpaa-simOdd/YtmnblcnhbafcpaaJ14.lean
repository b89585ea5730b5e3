/-
  WHAT NODES ARE, PLAIN.
-/
import Derived.Test.YtmnblcnhbafcpaaJ04
import Derived.Test.YtmnblcnhbafcpaaJ13
namespace Go.Proofs.Ytmnblcnhbafcpaa
open Go.RowKit
open NetM

def ofN (l : List Nat) : List Int := l.map fun x : Nat => (x : Int)
theorem ofN_len (l : List Nat) : (ofN l).length = l.length := List.length_map _
theorem ofN_snoc (l : List Nat) (x : Nat) : ofN (l ++ [x]) = ofN l ++ [(x : Int)] := by simp [ofN]
theorem ofN_at {l : List Nat} {i x : Nat} (h : l[i]? = some x) : (ofN l)[i]? = some (x : Int) := by simp [ofN, h]
theorem ofN_take (l : List Nat) (k : Nat) : (ofN l).take k = ofN (l.take k) := by simp [ofN, List.map_take]
/-- the number at a place, 0 if there is none -/
def getN (l : List Nat) (i : Int) : Nat := if i < 0 then 0 else l[i.toNat]?.getD 0
theorem getA_ofN (l : List Nat) (i : Int) : getA (ofN l) i = ((getN l i : Nat) : Int) := by
  unfold getA getN ofN
  by_cases h : i < 0
  · simp [h]
  · simp only [h, if_false, List.getElem?_map]
    cases l[i.toNat]? <;> simp
theorem getN_nat (l : List Nat) (i : Nat) : getN l (i : Int) = l[i]?.getD 0 := by
  unfold getN
  rw [if_neg (by omega), Int.toNat_natCast]
/-- how many nodes of an op -/
def cnt (op : Int) (l : List Nd) : Nat := (places l op).length
theorem cnt_step {l : List Nd} {op : Int} {j : Nat} {x : Nd} (h : l[j]? = some x) : cnt op (l.take (j + 1)) = cnt op (l.take j) + (if x.op = op then 1 else 0) := by
  unfold cnt
  rw [places_step h, List.length_append]
  split <;> rfl
theorem cnt_le (op : Int) (l : List Nd) : cnt op l ≤ l.length := places_len l op
/-- what a node is -/
def ev1 (nodes : List Nd) (st ins : List Nat) (k : Nat) (made : List Nat) (x : Nd) : Nat :=
  if x.op = 21 then getN ins (cnt 21 (nodes.take k) : Nat) else if x.op = 22 then getN st (cnt 22 (nodes.take k) : Nat)
  else doV x.op.toNat x.w.toNat x.n.toNat x.lo.toNat (getN made x.a) (getN made x.b) (getN made x.c) (widA nodes x.b).toNat
/-- what the first nodes are -/
def evL (nodes : List Nd) (st ins : List Nat) : Nat → List Nat
  | 0 => []
  | k + 1 => match nodes[k]? with
    | some x => evL nodes st ins k ++ [ev1 nodes st ins k (evL nodes st ins k) x]
    | none => evL nodes st ins k
theorem evL_len (nodes : List Nd) (st ins : List Nat) : ∀ k, k ≤ nodes.length → (evL nodes st ins k).length = k
  | 0, _ => rfl
  | k + 1, h => by
    simp only [evL, List.getElem?_eq_getElem (show k < nodes.length by omega), List.length_append, List.length_singleton, evL_len nodes st ins k (by omega)]
theorem evL_step {nodes : List Nd} {st ins : List Nat} {k : Nat} {x : Nd} (h : nodes[k]? = some x) : evL nodes st ins (k + 1) = evL nodes st ins k ++ [ev1 nodes st ins k (evL nodes st ins k) x] := by
  simp only [evL, h]
/-- what all nodes are -/
def evAll (n : Nt) (st ins : List Nat) : List Nat := evL n.nodes st ins n.nodes.length

/-! a right node's fields are numbers -/
theorem rule_ops {op : Int} {r : Nat × Bool × Bool × Nat} (h : ruleOf op = some r) : op = 1 ∨ (3 ≤ op ∧ op ≤ 18) ∨ op = 21 ∨ op = 22 := by
  unfold ruleOf at h
  repeat' split at h
  all_goals first | omega | simp at h
theorem opd_pos {l : List Nd} {i : Int} (h : widA l i ≠ 0) : ∃ (k : Nat) (y : Nd), i = (k : Int) ∧ l[k]? = some y ∧ k < l.length := by
  unfold widA at h
  by_cases h0 : i < 0
  · simp [h0] at h
  · rw [if_neg h0] at h
    cases e : l[i.toNat]? with
    | none => simp [e] at h
    | some y => exact ⟨i.toNat, y, by omega, e, (List.getElem?_eq_some_iff.1 e).1⟩
/-- what Do asks of a node -/
theorem node_nat {l : List Nd} {x : Nd} (hw : WOk l) (h : NdOk l x) (h21 : x.op ≠ 21) (h22 : x.op ≠ 22) : ∃ op W N Lo : Nat, x.op = (op : Int) ∧ x.w = (W : Int) ∧ x.n = (N : Int) ∧ x.lo = (Lo : Int) ∧ isOp op ∧ 1 ≤ W ∧ W ≤ 16 ∧ Lo ≤ 16 := by
  obtain ⟨k, bn, bl, f, hr, h1, h2, h3, h4, h5⟩ := h
  have ho := rule_ops hr
  obtain ⟨hk, hf, -⟩ := rule_cases hr
  have hn : 0 ≤ x.n ∧ 0 ≤ x.lo ∧ x.lo ≤ 16 := by
    obtain ⟨b1, b2⟩ := h4
    unfold ruleOf at hr
    repeat' split at hr
    all_goals
      simp only [Option.some.injEq, Prod.mk.injEq, reduceCtorEq] at hr
    all_goals
      obtain ⟨rfl, rfl, rfl, rfl⟩ := hr
      simp only [Bool.false_eq_true, false_or, true_or] at b1 b2
    all_goals first
      | (obtain ⟨g1, -⟩ := h5; have := g1 rfl; omega)
      | (refine ⟨by omega, ?_⟩; obtain ⟨-, -, g3, -⟩ := h5; have g := (g3 rfl).2 0 (by decide); have := widA_ok hw (plc x 0); unfold opd at g; omega)
      | (obtain ⟨-, -, -, -, -, g6⟩ := h5; have g := g6 rfl; have := widA_ok hw (plc x 0); unfold opd at g; omega)
      | omega
  refine ⟨x.op.toNat, x.w.toNat, x.n.toNat, x.lo.toNat, by omega, by omega, by omega, by omega, ?_, by omega, by omega, by omega⟩
  unfold isOp
  omega
theorem doV_lt {op W N Lo a b c wb : Nat} (hW1 : 1 ≤ W) : ∀ (_ : op = 1 → N < 2 ^ W) (_ : op = 4 ∨ op = 5 ∨ op = 12 ∨ op = 13 ∨ op = 14 ∨ op = 15 → W = 1) (_ : op = 16 → b < 2 ^ W ∧ c < 2 ^ W) (_ : op = 17 → a * 2 ^ wb + b < 2 ^ W), doV op W N Lo a b c wb < 2 ^ W := by
  intro h1 h2 h3 h4
  have h0 := Nat.two_pow_pos W
  have h2W : 2 ≤ 2 ^ W := Nat.le_trans (by decide) (Nat.pow_le_pow_right (n := 2) (i := 1) (j := W) (by decide) hW1)
  have hm : ∀ z, z % 2 ^ W < 2 ^ W := fun z => Nat.mod_lt _ h0
  have hb : ∀ (p : Prop) [Decidable p], (if p then 1 else 0) < 2 ^ W := fun p _ => by split <;> omega
  have hb' : ∀ (p : Prop) [Decidable p], (if p then 0 else 1) < 2 ^ W := fun p _ => by split <;> omega
  unfold doV
  split
  all_goals first
    | exact h1 rfl
    | exact hm _
    | exact hb _
    | exact hb' _
    | (obtain ⟨g1, g2⟩ := h3 rfl; split <;> assumption)
    | exact h4 rfl
    | exact h0
end Go.Proofs.Ytmnblcnhbafcpaa
