/-
  STATES, CYCLE BY CYCLE, PLAIN.
-/
import Derived.Test.YtmnblcnhbafcpaaJ27
namespace Go.Proofs.Ytmnblcnhbafcpaa
open Go.RowKit
open NetM

/-- the state behind one -/
def nextS (n : Nt) (s r : List Nat) : List Nat := n.cells.map fun c => getN (evAll n s r) c.next
def firstS (n : Nt) : List Nat := n.cells.map fun c => c.reset.toNat
/-- the state of a cycle -/
def stAt (n : Nt) (t : List (List Nat)) : Nat → List Nat
  | 0 => firstS n
  | k + 1 => nextS n (stAt n t k) (t[k]?.getD [])
/-- what all nodes are, at a cycle -/
def valAt (n : Nt) (t : List (List Nat)) (k : Nat) : List Nat := evAll n (stAt n t k) (t[k]?.getD [])
def prB (n : Nt) (v : List Nat) : List Bool := n.props.map fun p => decide (getN v p.node = 1)
def bitsAt (n : Nt) (t : List (List Nat)) (k : Nat) : List Bool := prB n (valAt n t k)
/-- rows of inputs -/
def TrOk (n : Nt) (t : List (List Nat)) : Prop := ∀ r ∈ t, r.length = n.ins.length ∧ InOk n r
theorem nextS_len (n : Nt) (s r : List Nat) : (nextS n s r).length = n.cells.length := List.length_map _
theorem firstS_len (n : Nt) : (firstS n).length = n.cells.length := List.length_map _
theorem stAt_len (n : Nt) (t : List (List Nat)) : ∀ k, (stAt n t k).length = n.cells.length
  | 0 => firstS_len n
  | _ + 1 => nextS_len _ _ _
theorem stAt_succ {n : Nt} {t : List (List Nat)} {k : Nat} {r : List Nat} (h : t[k]? = some r) : stAt n t (k + 1) = nextS n (stAt n t k) r := by
  rw [stAt, h]
  rfl
theorem ok_first {n : Nt} (hR : NRight n) : StOk n (firstS n) := fun i c hc => by
  obtain ⟨h1, h2, h3⟩ := hR.2.2.1.2.1 c (List.mem_of_getElem? hc)
  rw [getN_nat, firstS, List.getElem?_map, hc]
  simp only [Option.map_some, Option.getD_some]
  have := Nat.two_pow_pos (widA n.nodes c.node).toNat
  omega
theorem ok_next {n : Nt} (hR : NRight n) {s r : List Nat} (hs : StOk n s) (hr : InOk n r) : StOk n (nextS n s r) := fun i c hc => by
  have hw := wok_of hR.1
  obtain ⟨ck1, ck2, ck3⟩ := hR.2.2.1.2.1 c (List.mem_of_getElem? hc)
  obtain ⟨k, y, hk, hy, -⟩ := places_mem (op := 22) (l := n.nodes) (p := c.node) (by rw [← hR.2.2.1.1]; exact List.mem_map.2 ⟨c, List.mem_of_getElem? hc, rfl⟩)
  have hwn : widA n.nodes c.node = y.w := by rw [hk]; exact widA_some hy
  rw [hwn] at ck1 ck3 ⊢
  obtain ⟨hw1, hw2⟩ := hw y (List.mem_of_getElem? hy)
  obtain ⟨k2, y2, hk2, hy2, hkl2⟩ := opd_pos (show widA n.nodes c.next ≠ 0 by omega)
  have hwn2 : widA n.nodes c.next = y2.w := by rw [hk2]; exact widA_some hy2
  have hel : (evAll n s r).length = n.nodes.length := evL_len _ _ _ _ (Nat.le_refl _)
  have hsz : (evAll n s r)[k2]? = some (evAll n s r)[k2] := List.getElem?_eq_getElem (by omega)
  have hzx := evL_lt hR.1 hR.2.2.1.1 hR.2.1.2 hs hr n.nodes.length (Nat.le_refl _) k2 y2 _ hsz hy2
  rw [getN_nat, nextS, List.getElem?_map, hc]
  simp only [Option.map_some, Option.getD_some]
  rw [hk2, getN_nat, hsz]
  rw [show y2.w = y.w by omega] at hzx
  exact hzx
theorem ok_nil {n : Nt} (h : n.ins = []) : InOk n [] := fun i p hp => by rw [h] at hp; simp at hp
/-- each state is one -/
theorem ok_at {n : Nt} (hR : NRight n) {t : List (List Nat)} (ht : TrOk n t) : ∀ k, k ≤ t.length → StOk n (stAt n t k)
  | 0, _ => ok_first hR
  | k + 1, hk => by
    have h1 : t[k]? = some t[k] := List.getElem?_eq_getElem (by omega)
    rw [stAt_succ h1]
    exact ok_next hR (ok_at hR ht k (by omega)) (ht _ (List.mem_of_getElem? h1)).2
/-- what is so at a cycle hangs on the rows up to it alone -/
theorem stAt_pre {n : Nt} {t u : List (List Nat)} : ∀ {k : Nat}, (∀ j, j < k → t[j]? = u[j]?) → stAt n t k = stAt n u k
  | 0, _ => rfl
  | k + 1, h => by
    rw [stAt, stAt, stAt_pre (k := k) (fun j hj => h j (by omega)), h k (by omega)]
theorem valAt_pre {n : Nt} {t u : List (List Nat)} {k : Nat} (h : ∀ j, j ≤ k → t[j]? = u[j]?) : valAt n t k = valAt n u k := by
  unfold valAt
  rw [stAt_pre (fun j hj => h j (by omega)), h k (Nat.le_refl _)]
/-- as rows of ints -/
theorem ofN_next (n : Nt) (s r : List Nat) : (n.cells.map fun c => getA (ofN (evAll n s r)) c.next) = ofN (nextS n s r) := by
  unfold nextS ofN
  rw [List.map_map]
  refine List.map_congr_left fun c _ => ?_
  exact getA_ofN _ _
theorem ofN_first {n : Nt} (hR : NRight n) : n.cells.map Ce.reset = ofN (firstS n) := by
  unfold firstS ofN
  rw [List.map_map]
  refine List.map_congr_left fun c hc => ?_
  obtain ⟨h1, h2, h3⟩ := hR.2.2.1.2.1 c hc
  simp only [Function.comp]
  omega
/-- the first states, as rows of ints -/
def stsL (n : Nt) (t : List (List Nat)) (k : Nat) : List (List Int) := (List.range k).map fun q => ofN (stAt n t q)
theorem stsL_len (n : Nt) (t : List (List Nat)) (k : Nat) : (stsL n t k).length = k := by
  unfold stsL
  rw [List.length_map, List.length_range]
theorem stsL_succ (n : Nt) (t : List (List Nat)) (k : Nat) : stsL n t (k + 1) = stsL n t k ++ [ofN (stAt n t k)] := by
  unfold stsL
  rw [List.range_succ]
  simp
theorem stsL_at {n : Nt} {t : List (List Nat)} {k j : Nat} (h : j < k) : (stsL n t k)[j]? = some (ofN (stAt n t j)) := by
  unfold stsL
  rw [List.getElem?_map, List.getElem?_range h]
  rfl
end Go.Proofs.Ytmnblcnhbafcpaa
