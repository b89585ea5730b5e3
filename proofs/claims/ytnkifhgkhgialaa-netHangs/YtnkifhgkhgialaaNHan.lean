/-
  A STATE, OR INPUTS, WITH ONE NUMBER CHANGED, PLAIN.
-/
import Derived.Test.YtnkifhgkhgialaaNHam
namespace Go.Proofs.Ytnkifhgkhgialaa
open Go.RowKit
open NetM

theorem getN_set_ne {l : List Nat} {q i v : Nat} (h : i ≠ q) : getN (l.set q v) (i : Nat) = getN l (i : Nat) := by
  rw [getN_nat, getN_nat, List.getElem?_set_ne (fun e => h e.symm)]
theorem getN_set_eq {l : List Nat} {q v : Nat} (h : q < l.length) : getN (l.set q v) (q : Nat) = v := by
  rw [getN_nat, List.getElem?_set_self h]
  rfl
theorem inOk_set {n : Nt} {ins : List Nat} {q v : Nat} {p : Pn} (h : InOk n ins) (hq : q < ins.length) (hp : n.ins[q]? = some p) (hv : v < 2 ^ (widA n.nodes p.node).toNat) : InOk n (ins.set q v) := fun i p' hp' => by
  by_cases e : i = q
  · subst e
    obtain rfl : p = p' := Option.some.inj (hp.symm.trans hp')
    rw [getN_set_eq hq]
    exact hv
  · rw [getN_set_ne e]
    exact h i p' hp'
theorem stOk_set {n : Nt} {st : List Nat} {q v : Nat} {c : Ce} (h : StOk n st) (hq : q < st.length) (hc : n.cells[q]? = some c) (hv : v < 2 ^ (widA n.nodes c.node).toNat) : StOk n (st.set q v) := fun i c' hc' => by
  by_cases e : i = q
  · subst e
    obtain rfl : c = c' := Option.some.inj (hc.symm.trans hc')
    rw [getN_set_eq hq]
    exact hv
  · rw [getN_set_ne e]
    exact h i c' hc'
/-- inputs that differ at one pin: nodes that do not reach it are as they were -/
theorem hang_in {n : Nt} (hR : NRight n) (st ins : List Nat) {q v : Nat} {p : Pn} (hp : n.ins[q]? = some p) : ∀ i : Nat, (rcL n.nodes p.node n.nodes.length)[i]? = some false → (evAll n st (ins.set q v))[i]? = (evAll n st ins)[i]? := fun i h =>
  hang hR (fun _ _ _ _ => rfl) (fun j p' hp' hne => getN_set_ne (fun e => by subst e; exact hne (by rw [Option.some.inj (hp.symm.trans hp')]))) _ (Nat.le_refl _) i h
theorem hang_st {n : Nt} (hR : NRight n) (st ins : List Nat) {q v : Nat} {c : Ce} (hc : n.cells[q]? = some c) : ∀ i : Nat, (rcL n.nodes c.node n.nodes.length)[i]? = some false → (evAll n (st.set q v) ins)[i]? = (evAll n st ins)[i]? := fun i h =>
  hang hR (fun j c' hc' hne => getN_set_ne (fun e => by subst e; exact hne (by rw [Option.some.inj (hc.symm.trans hc')]))) (fun _ _ _ _ => rfl) _ (Nat.le_refl _) i h
end Go.Proofs.Ytnkifhgkhgialaa
