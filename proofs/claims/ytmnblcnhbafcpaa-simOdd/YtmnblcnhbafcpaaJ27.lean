/-
  WHAT NODES ARE HAS ITS WIDTH.
-/
import Derived.Test.YtmnblcnhbafcpaaJ26
namespace Go.Proofs.Ytmnblcnhbafcpaa
open Go.RowKit
open NetM

def StOk (n : Nt) (st : List Nat) : Prop := ∀ i c, n.cells[i]? = some c → getN st (i : Nat) < 2 ^ (widA n.nodes c.node).toNat
def InOk (n : Nt) (ins : List Nat) : Prop := ∀ i p, n.ins[i]? = some p → getN ins (i : Nat) < 2 ^ (widA n.nodes p.node).toNat
theorem rowOf_at {l : List Nd} {ps : List Int} {a : List Nat} {i : Nat} {p : Int} (h : ps[i]? = some p) : getN (rowOf l ps a) (i : Nat) = (a[i]?.getD 0) % 2 ^ (widA l p).toNat := by
  have hi := (List.getElem?_eq_some_iff.1 h).1
  rw [getN_nat]
  unfold rowOf
  rw [List.getElem?_map, List.getElem?_range hi]
  simp only [Option.map_some, Option.getD_some]
  unfold rowG
  rw [h]
  rfl
theorem stOf_ok (n : Nt) (a : List Nat) : StOk n (stOf n a) := fun i c h => by
  unfold stOf
  rw [rowOf_at (p := c.node) (by rw [List.getElem?_map, h]; rfl)]
  exact Nat.mod_lt _ (Nat.two_pow_pos _)
theorem inOf_ok (n : Nt) (a : List Nat) : InOk n (inOf n a) := fun i c h => by
  unfold inOf
  rw [rowOf_at (p := c.node) (by rw [List.getElem?_map, h]; rfl)]
  exact Nat.mod_lt _ (Nat.two_pow_pos _)
theorem widA_take {l : List Nd} {k : Nat} {i : Int} (h : widA (l.take k) i ≠ 0) : widA l i = widA (l.take k) i := by
  obtain ⟨j, y, rfl, hj, hk⟩ := opd_pos h
  have hjk : j < k := by rw [List.length_take] at hk; omega
  rw [widA_some hj]
  rw [List.getElem?_take_of_lt hjk] at hj
  exact widA_some hj
set_option maxHeartbeats 2000000 in
theorem evL_lt {n : Nt} (hR : NdsOk n.nodes) (hC : n.cells.map Ce.node = places n.nodes 22) (hI : n.ins.map Pn.node = places n.nodes 21) {st ins : List Nat} (hst : StOk n st) (hin : InOk n ins) :
    ∀ k, k ≤ n.nodes.length → ∀ (i : Nat) (x : Nd) (z : Nat), (evL n.nodes st ins k)[i]? = some z → n.nodes[i]? = some x → z < 2 ^ x.w.toNat
  | 0, _, i, x, z, hz, _ => by simp [evL] at hz
  | k + 1, hk, i, x, z, hz, hx => by
    have IH := evL_lt hR hC hI hst hin k (by omega)
    have hkx : n.nodes[k]? = some n.nodes[k] := List.getElem?_eq_getElem (by omega)
    generalize n.nodes[k] = y at hkx
    rw [evL_step hkx] at hz
    have hlen := evL_len n.nodes st ins k (by omega)
    by_cases hik : i < k
    · rw [List.getElem?_append_left (by omega)] at hz
      exact IH i x z hz hx
    · have hik2 : i = k := by
        have := (List.getElem?_eq_some_iff.1 hz).1
        rw [List.length_append, hlen, List.length_singleton] at this
        omega
      subst hik2
      rw [hx] at hkx
      obtain rfl := Option.some.inj hkx
      rw [List.getElem?_append_right (by omega), hlen, Nat.sub_self] at hz
      have hz2 : ev1 n.nodes st ins i (evL n.nodes st ins i) x = z := by simpa using hz
      rw [← hz2]
      have hok := hR i x hx
      have hwt : WOk (n.nodes.take i) := fun y hy => wok_of hR y (List.mem_of_mem_take hy)
      have hval : ∀ j, opd (n.nodes.take i) x j ≠ 0 → getN (evL n.nodes st ins i) (plc x j) < 2 ^ (opd (n.nodes.take i) x j).toNat := fun j hj => by
        unfold opd at hj ⊢
        obtain ⟨q, y, e, hq, hql⟩ := opd_pos hj
        rw [e, widA_some hq, getN_nat]
        have hqi : q < i := by rw [List.length_take] at hql; omega
        rw [List.getElem?_take_of_lt hqi] at hq
        have hs : (evL n.nodes st ins i)[q]? = some (evL n.nodes st ins i)[q] := List.getElem?_eq_getElem (by omega)
        have := IH q y _ hs hq
        rw [hs]
        exact this
      unfold ev1
      by_cases h21 : x.op = 21
      · rw [if_pos h21]
        have h1 := places_idx hx h21
        rw [← hI] at h1
        obtain ⟨p, hp, e⟩ := map_idx h1
        have h2 := hin _ p hp
        rw [e, widA_some hx] at h2
        exact h2
      rw [if_neg h21]
      by_cases h22 : x.op = 22
      · rw [if_pos h22]
        have h1 := places_idx hx h22
        rw [← hC] at h1
        obtain ⟨p, hp, e⟩ := map_idx h1
        have h2 := hst _ p hp
        rw [e, widA_some hx] at h2
        exact h2
      rw [if_neg h22]
      obtain ⟨op, W, N, Lo, x1, x2, x3, x4, ho, hW1, hW, hLo⟩ := node_nat hwt hok h21 h22
      obtain ⟨hw1, hw2, k', bn, bl, f, hr, ha, hb, hc, hF⟩ := (node_iff hwt).1 hok
      unfold FOk at hF
      obtain ⟨g1, g2, g3, g4, g5, g6, g7, g8, g9⟩ := hF
      have o0 := hval 0
      have o1 := hval 1
      have o2 := hval 2
      rw [x1, x2, x3, x4]
      simp only [Int.toNat_natCast]
      rw [x2, Int.toNat_natCast] at g1
      refine doV_lt hW1 (fun h => ?_) (fun h => ?_) (fun h => ?_) (fun h => ?_)
      · have := (g1 (by omega)).2.1
        have h0 := Nat.two_pow_pos W
        omega
      · rcases h with h | h | h | h | h | h
        · have := (g4 (by omega)).2.1; omega
        · have := (g4 (by omega)).2.1; omega
        · have := (g6 (by omega)).2.1; omega
        · have := (g6 (by omega)).2.1; omega
        · have := (g6 (by omega)).2.1; omega
        · have := (g6 (by omega)).2.1; omega
      · obtain ⟨-, -, -, e1, e2⟩ := g7 (by omega)
        have p1 := o1 (by omega)
        have p2 := o2 (by omega)
        rw [e1, x2, Int.toNat_natCast] at p1
        rw [e2, x2, Int.toNat_natCast] at p2
        exact ⟨p1, p2⟩
      · obtain ⟨-, -, e1, e2, e3⟩ := g8 (by omega)
        have p0 := o0 (by omega)
        have p1 := o1 (by omega)
        have hob : opd (n.nodes.take i) x 1 ≠ 0 := by omega
        have hwb : widA n.nodes x.b = opd (n.nodes.take i) x 1 := widA_take hob
        rw [hwb]
        change getN (evL n.nodes st ins i) x.a < _ at p0
        change getN (evL n.nodes st ins i) x.b < _ at p1
        generalize getN (evL n.nodes st ins i) x.a = va at p0
        generalize getN (evL n.nodes st ins i) x.b = vb at p1
        have hsum : (opd (n.nodes.take i) x 0).toNat + (opd (n.nodes.take i) x 1).toNat = W := by omega
        generalize (opd (n.nodes.take i) x 0).toNat = w0 at p0 hsum
        generalize (opd (n.nodes.take i) x 1).toNat = w1 at p1 hsum
        rw [← hsum, Nat.pow_add]
        have h1 : (va + 1) * 2 ^ w1 ≤ 2 ^ w0 * 2 ^ w1 := Nat.mul_le_mul_right _ p0
        rw [Nat.add_mul, Nat.one_mul] at h1
        omega
theorem evL_lim {n : Nt} (hR : NRight n) {st ins : List Nat} (hst : StOk n st) (hin : InOk n ins) : ∀ k z, k ≤ n.nodes.length → z ∈ evL n.nodes st ins k → z < 65536 := fun k z hk hz => by
  obtain ⟨i, hi⟩ := List.mem_iff_getElem?.1 hz
  have hik : i < k := by have := (List.getElem?_eq_some_iff.1 hi).1; rw [evL_len _ _ _ _ hk] at this; exact this
  have hx : n.nodes[i]? = some n.nodes[i] := List.getElem?_eq_getElem (by omega)
  have h1 := evL_lt hR.1 hR.2.2.1.1 hR.2.1.2 hst hin k hk i _ z hi hx
  have h2 := (wok_of hR.1 _ (List.mem_of_getElem? hx)).2
  exact Nat.lt_of_lt_of_le h1 (Nat.pow_le_pow_right (n := 2) (i := (n.nodes[i]).w.toNat) (j := 16) (by decide) (by omega))
end Go.Proofs.Ytmnblcnhbafcpaa
