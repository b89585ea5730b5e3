/-
  WHAT A NODE HANGS ON, PLAIN.
-/
import Derived.Test.YtnkifhgkhgialaaNAhm
namespace Go.Proofs.Ytnkifhgkhgialaa
open Go.RowKit
open NetM

/-- how many operands an op has -/
def opsN (op : Int) : Nat := if op = 1 ∨ op = 21 ∨ op = 22 then 0 else if op = 3 ∨ op = 4 ∨ op = 5 ∨ op = 18 then 1 else if op = 16 then 3 else 2
def getB (l : List Bool) (i : Int) : Bool := if i < 0 then false else l[i.toNat]?.getD false
/-- whether a node reaches a place, of what the nodes ahead of it do -/
def rc1 (pin : Int) (k : Nat) (made : List Bool) (x : Nd) : Bool :=
  decide ((k : Int) = pin) || (decide (0 < opsN x.op) && getB made x.a) || (decide (1 < opsN x.op) && getB made x.b) || (decide (2 < opsN x.op) && getB made x.c)
def rcL (nodes : List Nd) (pin : Int) : Nat → List Bool
  | 0 => []
  | k + 1 => match nodes[k]? with
    | some x => rcL nodes pin k ++ [rc1 pin k (rcL nodes pin k) x]
    | none => rcL nodes pin k
theorem rcL_len (nodes : List Nd) (pin : Int) : ∀ k, k ≤ nodes.length → (rcL nodes pin k).length = k
  | 0, _ => rfl
  | k + 1, h => by
    simp only [rcL, List.getElem?_eq_getElem (show k < nodes.length by omega), List.length_append, List.length_singleton, rcL_len nodes pin k (by omega)]
theorem rcL_step {nodes : List Nd} {pin : Int} {k : Nat} {x : Nd} (h : nodes[k]? = some x) : rcL nodes pin (k + 1) = rcL nodes pin k ++ [rc1 pin k (rcL nodes pin k) x] := by
  simp only [rcL, h]
theorem ops_rule {op : Int} {k f : Nat} {n lo : Bool} (h : ruleOf op = some (k, n, lo, f)) : opsN op = k := by
  unfold ruleOf at h
  unfold opsN
  repeat' split at h
  all_goals
    simp only [Option.some.injEq, Prod.mk.injEq, reduceCtorEq] at h
  all_goals
    obtain ⟨rfl, -⟩ := h
    repeat' split
  all_goals omega
/-- what an op makes hangs on its operands alone -/
theorem doV_ops {op W N Lo a b c a' b' c' wb : Nat} (h1 : op = 1 ∨ 3 ≤ op ∧ op ≤ 18) (ha : 0 < opsN (op : Int) → a' = a) (hb : 1 < opsN (op : Int) → b' = b) (hc : 2 < opsN (op : Int) → c' = c) : doV op W N Lo a' b' c' wb = doV op W N Lo a b c wb := by
  have hop : op = 1 ∨ op = 3 ∨ op = 4 ∨ op = 5 ∨ op = 6 ∨ op = 7 ∨ op = 8 ∨ op = 9 ∨ op = 10 ∨ op = 11 ∨ op = 12 ∨ op = 13 ∨ op = 14 ∨ op = 15 ∨ op = 16 ∨ op = 17 ∨ op = 18 := by omega
  rcases hop with rfl | rfl | rfl | rfl | rfl | rfl | rfl | rfl | rfl | rfl | rfl | rfl | rfl | rfl | rfl | rfl | rfl
  all_goals first
    | rfl
    | (obtain rfl := ha (by decide); rfl)
    | (obtain rfl := ha (by decide); obtain rfl := hb (by decide); rfl)
    | (obtain rfl := ha (by decide); obtain rfl := hb (by decide); obtain rfl := hc (by decide); rfl)
theorem getB_at {l : List Bool} {i : Int} (h0 : 0 ≤ i) (h1 : i < (l.length : Int)) : l[i.toNat]? = some (getB l i) := by
  unfold getB
  rw [if_neg (by omega), List.getElem?_eq_getElem (by omega)]
  rfl
theorem getN_eq {a b : List Nat} {i : Int} (h : a[i.toNat]? = b[i.toNat]?) : getN a i = getN b i := by
  unfold getN
  rw [h]
theorem hang {n : Nt} (hR : NRight n) {st ins st' ins' : List Nat} {pin : Int} (hs : ∀ (i : Nat) (c : Ce), n.cells[i]? = some c → c.node ≠ pin → getN st' (i : Nat) = getN st (i : Nat)) (hi : ∀ (i : Nat) (p : Pn), n.ins[i]? = some p → p.node ≠ pin → getN ins' (i : Nat) = getN ins (i : Nat)) :
    ∀ k : Nat, k ≤ n.nodes.length → ∀ i : Nat, (rcL n.nodes pin k)[i]? = some false → (evL n.nodes st' ins' k)[i]? = (evL n.nodes st ins k)[i]?
  | 0, _, i, h => by simp [rcL] at h
  | k + 1, hk, i, h => by
    have IH := hang hR hs hi k (by omega)
    have hx : n.nodes[k]? = some n.nodes[k] := List.getElem?_eq_getElem (by omega)
    generalize n.nodes[k] = x at hx
    have hl := rcL_len n.nodes pin k (by omega)
    have hl1 := evL_len n.nodes st ins k (by omega)
    have hl2 := evL_len n.nodes st' ins' k (by omega)
    rw [rcL_step hx] at h
    rw [evL_step hx, evL_step hx]
    by_cases hik : i < k
    · rw [List.getElem?_append_left (by omega)] at h
      rw [List.getElem?_append_left (by omega), List.getElem?_append_left (by omega)]
      exact IH i h
    · have hi2 := (List.getElem?_eq_some_iff.1 h).1
      rw [List.length_append, List.length_singleton] at hi2
      obtain rfl : i = k := by omega
      rw [List.getElem?_append_right (by omega), hl, Nat.sub_self, List.getElem?_cons_zero] at h
      rw [List.getElem?_append_right (by omega), List.getElem?_append_right (by omega), hl1, hl2, Nat.sub_self, List.getElem?_cons_zero, List.getElem?_cons_zero]
      have h := Option.some.inj h
      congr 1
      unfold rc1 at h
      simp only [Bool.or_eq_false_iff, Bool.and_eq_false_iff, decide_eq_false_iff_not] at h
      obtain ⟨⟨⟨h1, h2⟩, h3⟩, h4⟩ := h
      unfold ev1
      by_cases h21 : x.op = 21
      · rw [if_pos h21, if_pos h21]
        have hp := places_idx hx h21
        rw [← hR.2.1.2] at hp
        obtain ⟨p, hp1, hp2⟩ := map_idx hp
        exact hi _ p hp1 (by omega)
      rw [if_neg h21, if_neg h21]
      by_cases h22 : x.op = 22
      · rw [if_pos h22, if_pos h22]
        have hp := places_idx hx h22
        rw [← hR.2.2.1.1] at hp
        obtain ⟨c, hp1, hp2⟩ := map_idx hp
        exact hs _ c hp1 (by omega)
      rw [if_neg h22, if_neg h22]
      obtain ⟨q, bn, bl, f, hr, g1, g2, g3, -⟩ := hR.1 i x hx
      have ho := rule_ops hr
      have hq := ops_rule hr
      have hpl : ∀ j, j < 3 → j < q → 0 ≤ plc x j ∧ plc x j < (i : Int) := fun j hj hjq => by
        have h5 := (g3 j hj).2 hjq
        unfold opd at h5
        obtain ⟨p, y, e, _, hp⟩ := opd_pos h5
        rw [List.length_take] at hp
        omega
      have ev : ∀ z : Int, 0 ≤ z → z < (i : Int) → getB (rcL n.nodes pin i) z = false → getN (evL n.nodes st' ins' i) z = getN (evL n.nodes st ins i) z := fun z hz0 hz1 hb => by
        have h6 := getB_at (l := rcL n.nodes pin i) hz0 (by omega)
        rw [hb] at h6
        exact getN_eq (IH _ h6)
      have e1 : ((x.op.toNat : Nat) : Int) = x.op := by omega
      refine doV_ops (by omega) (fun h0 => ?_) (fun h0 => ?_) (fun h0 => ?_)
      all_goals rw [e1, hq] at h0
      · have h7 := hpl 0 (by decide) h0
        exact ev x.a h7.1 h7.2 (h2.resolve_left (by rw [hq]; omega))
      · have h7 := hpl 1 (by decide) h0
        exact ev x.b h7.1 h7.2 (h3.resolve_left (by rw [hq]; omega))
      · have h7 := hpl 2 (by decide) h0
        exact ev x.c h7.1 h7.2 (h4.resolve_left (by rw [hq]; omega))
end Go.Proofs.Ytnkifhgkhgialaa
