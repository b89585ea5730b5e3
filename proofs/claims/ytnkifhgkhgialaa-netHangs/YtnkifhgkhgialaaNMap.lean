/-
  A NET WITH ONE MORE NODE, PLAIN, WALKED.
-/
import Derived.Test.YtnkifhgkhgialaaNMth
import Derived.Test.YtnkifhgkhgialaaNHed
namespace Go.Proofs.Ytnkifhgkhgialaa
open Go.RowKit
open NetM

theorem widA_app {l r : List Nd} {i : Int} (h0 : 0 ≤ i) (h : i < (l.length : Int)) : widA (l ++ r) i = widA l i := by
  obtain ⟨k, rfl⟩ : ∃ k : Nat, i = k := ⟨i.toNat, by omega⟩
  have hs : l[k]? = some l[k] := List.getElem?_eq_getElem (by omega)
  rw [widA_some hs, widA_some (by rw [List.getElem?_append_left (by omega)]; exact hs)]
theorem places_app {l : List Nd} {y : Nd} {op : Int} (h : y.op ≠ op) : places (l ++ [y]) op = places l op := by
  unfold places
  rw [placesF_append]
  simp [placesF, h]
theorem nds_app {l : List Nd} {y : Nd} (h : NdsOk l) (hy : NdOk l y) : NdsOk (l ++ [y]) := fun i x hx => by
  by_cases hi : i < l.length
  · rw [List.getElem?_append_left hi] at hx
    rw [List.take_append_of_le_length (by omega)]
    exact h i x hx
  · rw [List.getElem?_append_right (by omega)] at hx
    have hi2 : i - l.length = 0 := by
      have := (List.getElem?_eq_some_iff.1 hx).1
      simp at this
      omega
    rw [hi2] at hx
    obtain rfl : y = x := by simpa using hx
    have e : i = l.length := by omega
    rw [e, List.take_left']
    · exact hy
    · rfl
theorem node_plc {l : List Nd} {x : Nd} {k : Nat} (h : NdOk (l.take k) x) (hk : 0 < k) (hkl : k ≤ l.length) : ∀ j, j < 3 → 0 ≤ plc x j ∧ plc x j < (k : Int) := by
  intro j hj
  obtain ⟨q, bn, bl, f, hr, h1, h2, h3, -⟩ := h
  by_cases hq : q ≤ j
  · rw [(h3 j hj).1 hq]
    omega
  · have h4 := (h3 j hj).2 (by omega)
    unfold opd at h4
    obtain ⟨p, y, e, _, hp⟩ := opd_pos h4
    rw [List.length_take] at hp
    omega
theorem evL_app {l : List Nd} {y : Nd} (hR : NdsOk l) (st ins : List Nat) : ∀ k, k ≤ l.length → evL (l ++ [y]) st ins k = evL l st ins k
  | 0, _ => rfl
  | k + 1, hk => by
    have hx : l[k]? = some l[k] := List.getElem?_eq_getElem (by omega)
    generalize l[k] = x at hx
    have hx' : (l ++ [y])[k]? = some x := by rw [List.getElem?_append_left (by omega)]; exact hx
    rw [evL_step hx, evL_step hx', evL_app hR st ins k (by omega)]
    have e : ev1 (l ++ [y]) st ins k (evL l st ins k) x = ev1 l st ins k (evL l st ins k) x := by
      have hb : widA (l ++ [y]) x.b = widA l x.b := by
        by_cases hk0 : k = 0
        · subst hk0
          have hh := hR 0 x hx
          obtain ⟨q, bn, bl, f, hr, h1, h2, h3, -⟩ := hh
          have : x.b = 0 := by
            by_cases hq : q ≤ 1
            · exact (h3 1 (by decide)).1 hq
            · have h4 := (h3 1 (by decide)).2 (by omega)
              unfold opd at h4
              obtain ⟨p, z, _, _, hp⟩ := opd_pos h4
              simp at hp
          rw [this]
          exact widA_app (by omega) (by omega)
        · have := node_plc (hR k x hx) (by omega) (by omega) 1 (by decide)
          have h2 : plc x 1 = x.b := rfl
          exact widA_app (by omega) (by omega)
      unfold ev1
      rw [hb, List.take_append_of_le_length (by omega)]
    rw [e]
theorem evAll_app {n : Nt} {y : Nd} (hR : NdsOk n.nodes) (st ins : List Nat) (cs : List Ce) (ps : List Pr) (ns : List Pn) :
    evAll ⟨n.nodes ++ [y], n.ins, cs, ps, ns⟩ st ins = evAll n st ins ++ [ev1 (n.nodes ++ [y]) st ins n.nodes.length (evAll n st ins) y] := by
  unfold evAll
  show evL (n.nodes ++ [y]) st ins (n.nodes ++ [y]).length = _
  rw [List.length_append, List.length_singleton, evL_step (x := y) (by simp), evL_app hR st ins _ (Nat.le_refl _)]
theorem bits_map (l : List Nd) (cs : List Ce) : bitsOf l cs = ((cs.map Ce.node).map (widA l)).sum := by
  unfold bitsOf
  rw [List.map_map]
  rfl
theorem cell_in {n : Nt} (hR : NRight n) : ∀ c ∈ n.cells, (0 ≤ c.node ∧ c.node < (n.nodes.length : Int)) ∧ 0 ≤ c.next ∧ c.next < (n.nodes.length : Int) := fun c hc => by
  have hw := wok_of hR.1
  have h1 := cell_there hw hR.2.2.1.1 c hc
  refine ⟨(there_pos hw _).1 h1, (there_pos hw _).1 ?_⟩
  rw [(hR.2.2.1.2.1 c hc).1]
  exact h1
theorem right_app {n : Nt} {y : Nd} (hR : NRight n) (hy : NdOk n.nodes y) (h21 : y.op ≠ 21) (h22 : y.op ≠ 22) (cs : List Ce) (ps : List Pr) (ns : List Pn) (hm : cs.map Ce.node = n.cells.map Ce.node) (hok : ∀ c ∈ cs, CellOk (n.nodes ++ [y]) c)
    (hp : ∀ p ∈ ps, p ∈ n.props) (hpl : ps.length ≤ 16) (hn : ∀ p ∈ ns, p ∈ n.names) : NRight ⟨n.nodes ++ [y], n.ins, cs, ps, ns⟩ := by
  refine ⟨nds_app hR.1 hy, ⟨hR.2.1.1, ?_⟩, ⟨?_, hok, ?_⟩, ⟨fun p hpp => ?_, hpl⟩, fun p hpp => ?_⟩
  · show _ = places (n.nodes ++ [y]) 21
    rw [places_app h21]
    exact hR.2.1.2
  · show cs.map Ce.node = places (n.nodes ++ [y]) 22
    rw [places_app h22, hm]
    exact hR.2.2.1.1
  · show bitsOf (n.nodes ++ [y]) cs ≤ 256
    have e : bitsOf (n.nodes ++ [y]) cs = bitsOf n.nodes n.cells := by
      rw [bits_map, bits_map, hm]
      congr 1
      apply List.map_congr_left
      intro p hp
      obtain ⟨c, hc, rfl⟩ := List.mem_map.1 hp
      have := (cell_in hR c hc).1
      exact widA_app this.1 this.2
    rw [e]
    exact hR.2.2.1.2.2
  · obtain ⟨k1, k2, k3⟩ := hR.2.2.2.1.1 p (hp p hpp)
    have := (there_pos (wok_of hR.1) p.node).1 (by omega)
    exact ⟨k1, k2, by show widA (n.nodes ++ [y]) p.node = 1; rw [widA_app this.1 this.2]; exact k3⟩
  · have := hR.2.2.2.2 p (hn p hpp)
    show 0 ≤ p.node ∧ p.node < ((n.nodes ++ [y]).length : Int)
    rw [List.length_append]
    simp
    omega
theorem stOk_app {n : Nt} {y : Nd} (hR : NRight n) {st : List Nat} (h : StOk n st) (cs : List Ce) (ps : List Pr) (ns : List Pn) (hm : cs.map Ce.node = n.cells.map Ce.node) : StOk ⟨n.nodes ++ [y], n.ins, cs, ps, ns⟩ st := fun i c hc => by
  have h1 : (n.cells.map Ce.node)[i]? = some c.node := by rw [← hm, List.getElem?_map, show cs[i]? = some c from hc]; rfl
  obtain ⟨c', hc', e⟩ := map_idx h1
  have h2 := h i c' hc'
  have h3 := (cell_in hR c' (List.mem_of_getElem? hc')).1
  rw [e] at h2 h3
  show _ < 2 ^ (widA (n.nodes ++ [y]) c.node).toNat
  rw [widA_app h3.1 h3.2]
  exact h2
theorem inOk_app {n : Nt} {y : Nd} (hR : NRight n) {ins : List Nat} (h : InOk n ins) (cs : List Ce) (ps : List Pr) (ns : List Pn) : InOk ⟨n.nodes ++ [y], n.ins, cs, ps, ns⟩ ins := fun i p hp => by
  have hp' : n.ins[i]? = some p := hp
  have h2 := h i p hp'
  obtain ⟨k, z, e, hz, -⟩ := places_mem (op := 21) (l := n.nodes) (p := p.node) (by rw [← hR.2.1.2]; exact List.mem_map.2 ⟨p, List.mem_of_getElem? hp', rfl⟩)
  have := (List.getElem?_eq_some_iff.1 hz).1
  show _ < 2 ^ (widA (n.nodes ++ [y]) p.node).toNat
  rw [widA_app (by omega) (by omega)]
  exact h2
theorem getA_app {a : List Int} {b : List Int} {i : Int} (h0 : 0 ≤ i) (h : i < (a.length : Int)) : getA (a ++ b) i = getA a i := by
  obtain ⟨k, rfl⟩ : ∃ k : Nat, i = k := ⟨i.toNat, by omega⟩
  have hs : a[k]? = some a[k] := List.getElem?_eq_getElem (by omega)
  rw [getA_some hs, getA_some (by rw [List.getElem?_append_left (by omega)]; exact hs)]
/-- a number of 16 bits as a node -/
def litN (x : Nat) : Nd := ⟨1, 16, 0, 0, 0, (x : Int), 0⟩
theorem lit_ok (l : List Nd) {x : Nat} (hx : x < 65536) : NdOk l (litN x) := by
  refine ⟨0, true, false, 56, rfl, (by show (1 : Int) ≤ 16; decide), (by show (16 : Int) ≤ 16; decide), fun j hj => ⟨fun _ => ?_, fun h => by omega⟩, ⟨Or.inl rfl, Or.inr rfl⟩, ?_⟩
  · match j, hj with
    | 0, _ => rfl
    | 1, _ => rfl
    | 2, _ => rfl
  · refine ⟨fun _ => ⟨by show (0 : Int) ≤ (x : Int); omega, ?_⟩, fun h => by omega, fun h => by omega, fun h => by omega, fun h => by omega, fun h => by omega⟩
    show (x : Int) ≤ ((2 ^ 16 - 1 : Nat) : Int)
    omega
theorem ev_lit (l : List Nd) (st ins : List Nat) (k : Nat) (made : List Nat) (x : Nat) : ev1 l st ins k made (litN x) = x := by
  unfold ev1
  rw [if_neg (show ¬ (litN x).op = 21 from by show ¬ (1 : Int) = 21; decide), if_neg (show ¬ (litN x).op = 22 from by show ¬ (1 : Int) = 22; decide)]
  show doV 1 _ ((x : Int)).toNat _ _ _ _ _ = x
  rw [Int.toNat_natCast]
  rfl
end Go.Proofs.Ytnkifhgkhgialaa
