/-
  BEGINNINGS OF ROWS, AND WHERE A PROPERTY OF THE NET IS HIT.
-/
import Derived.Test.YtmnblcnhbafcpaaJ57
import Derived.Test.YtmnblcnhbafcpaaJ47
namespace Go.Proofs.Ytmnblcnhbafcpaa
open Go.RowKit
open NetM
open VecM

theorem cell_lt {w : World} {b o : Nat} {v : Value} (h : w.cell? ⟨b, o, none⟩ = some v) : b < w.heap.size := by
  apply Classical.byContradiction
  intro hb
  have e : w.heap[b]? = none := Array.getElem?_eq_none (by omega)
  simp [World.cell?, e] at h
theorem rws_take {w : World} {A : Option Addr} {L c k : Nat} {ll : List (List Int)} (h : RwsR w (.slice A L c) ll) (hk : k ≤ ll.length) : RwsR w (.slice A k c) (ll.take k) := by
  obtain ⟨A', c', e, hc, hi⟩ := h
  simp only [Value.slice.injEq] at e
  obtain ⟨rfl, -, rfl⟩ := e
  have hl : (ll.take k).length = k := by rw [List.length_take]; omega
  refine ⟨A, c, by rw [hl], by rw [hl]; omega, fun i l h1 => hi i l ?_⟩
  have hik : i < k := by
    have := (List.getElem?_eq_some_iff.1 h1).1
    omega
  rwa [List.getElem?_take_of_lt hik] at h1
theorem bws_take {w : World} {A : Option Addr} {L c k : Nat} {ll : List (List Bool)} (h : BwsR w (.slice A L c) ll) (hk : k ≤ ll.length) : BwsR w (.slice A k c) (ll.take k) := by
  obtain ⟨A', c', e, hc, hi⟩ := h
  simp only [Value.slice.injEq] at e
  obtain ⟨rfl, -, rfl⟩ := e
  have hl : (ll.take k).length = k := by rw [List.length_take]; omega
  refine ⟨A, c, by rw [hl], by rw [hl]; omega, fun i l h1 => hi i l ?_⟩
  have hik : i < k := by
    have := (List.getElem?_eq_some_iff.1 h1).1
    omega
  rwa [List.getElem?_take_of_lt hik] at h1
theorem trOk_take {n : Nt} {t : List (List Nat)} (h : TrOk n t) (k : Nat) : TrOk n (t.take k) := fun r hr => h r (List.mem_of_mem_take hr)
theorem hitOf_at {n : Nt} {t : List (List Nat)} {q : Nat} {p : Pr} (hp : n.props[q]? = some p) : hitOf n t (q : Nat) = hitF n t p q 0 t.length := by
  unfold hitOf
  rw [if_neg (by omega)]
  simp [hp]
end Go.Proofs.Ytmnblcnhbafcpaa
