/-
  ROWS THAT ARE A TRACE, PLAIN.
-/
import Derived.Test.YtmnblcnhbafcpaaJ45
namespace Go.Proofs.Ytmnblcnhbafcpaa
open NetM

theorem row_nat {n : Nt} {r : List Int} (h : RowOk n r) : ∃ q : List Nat, r = ofN q ∧ q.length = n.ins.length ∧ InOk n q := by
  obtain ⟨h1, h2⟩ := h
  have hpos : ∀ x ∈ r, 0 ≤ x := fun x hx => by
    obtain ⟨k, hk⟩ := List.mem_iff_getElem?.1 hx
    have hkl := (List.getElem?_eq_some_iff.1 hk).1
    exact (h2 k x _ hk (List.getElem?_eq_getElem (by omega))).1
  refine ⟨r.map Int.toNat, ?_, by rw [List.length_map, h1], fun k p hp => ?_⟩
  · unfold ofN
    rw [List.map_map]
    refine (List.map_id r).symm.trans (List.map_congr_left fun x hx => ?_)
    have := hpos x hx
    simp only [Function.comp, id]
    omega
  · have hkl := (List.getElem?_eq_some_iff.1 hp).1
    have hk : r[k]? = some r[k] := List.getElem?_eq_getElem (by omega)
    obtain ⟨g1, g2⟩ := h2 k _ p hk hp
    rw [getN_nat, List.getElem?_map, hk]
    simp only [Option.map_some, Option.getD_some]
    omega
theorem row_ok {n : Nt} {q : List Nat} (h1 : q.length = n.ins.length) (h2 : InOk n q) : RowOk n (ofN q) := by
  refine ⟨by rw [ofN_len, h1], fun k x p hk hp => ?_⟩
  unfold ofN at hk
  rw [List.getElem?_map] at hk
  obtain ⟨y, hy, rfl⟩ := Option.map_eq_some_iff.1 hk
  have h3 := h2 k p hp
  rw [getN_nat, hy, Option.getD_some] at h3
  exact ⟨by omega, by omega⟩
theorem tr_ok {n : Nt} {t : List (List Nat)} (h1 : t.length ≤ 64) (h2 : TrOk n t) : TrRight n (t.map ofN) := by
  refine ⟨by rw [List.length_map]; exact h1, fun j r hj => ?_⟩
  rw [List.getElem?_map] at hj
  obtain ⟨q, hq, rfl⟩ := Option.map_eq_some_iff.1 hj
  obtain ⟨g1, g2⟩ := h2 q (List.mem_of_getElem? hq)
  exact row_ok g1 g2
theorem tr_nat {n : Nt} : ∀ {rows : List (List Int)}, (∀ r ∈ rows, RowOk n r) → ∃ t : List (List Nat), rows = t.map ofN ∧ TrOk n t
  | [], _ => ⟨[], rfl, fun r hr => by cases hr⟩
  | r :: rows, h => by
    obtain ⟨q, rfl, h1, h2⟩ := row_nat (h r (List.mem_cons_self ..))
    obtain ⟨t, rfl, h3⟩ := tr_nat (rows := rows) (fun r' hr' => h r' (List.mem_cons_of_mem _ hr'))
    refine ⟨q :: t, rfl, fun r' hr' => ?_⟩
    rcases List.mem_cons.1 hr' with rfl | hr'
    · exact ⟨h1, h2⟩
    · exact h3 r' hr'
theorem trRight_nat {n : Nt} {rows : List (List Int)} (h : TrRight n rows) : ∃ t : List (List Nat), rows = t.map ofN ∧ TrOk n t ∧ t.length ≤ 64 := by
  obtain ⟨t, e, h1⟩ := tr_nat (n := n) (rows := rows) (fun r hr => by
    obtain ⟨j, hj⟩ := List.mem_iff_getElem?.1 hr
    exact h.2 j r hj)
  refine ⟨t, e, h1, ?_⟩
  have := h.1
  rw [e, List.length_map] at this
  exact this
end Go.Proofs.Ytmnblcnhbafcpaa
