/-
  THE CHECKS OF A NET, WALKED.
-/
import Derived.Test.YtmnblcnhbafcpaaJ10
import Derived.Test.YtmnblcnhbafcpaaJ11
namespace Go.Proofs.Ytmnblcnhbafcpaa
open Go.RowKit
open NetM

abbrev bxC (n : Nt) (A1 A2 A3 A4 A5 : Option Addr) (c1 c2 c3 c4 c5 : Nat) : Array Value := #[.slice A1 n.nodes.length c1, .slice A2 n.ins.length c2, .slice A3 n.cells.length c3, .slice A4 n.props.length c4, .slice A5 n.names.length c5]
/-- a net's box -/
abbrev BxAt (u : World) (g : Nat) (n : Nt) (A1 A2 A3 A4 A5 : Option Addr) (c1 c2 c3 c4 c5 : Nat) : Prop :=
  u.cell? ⟨g, 0, none⟩ = some (.slice A1 n.nodes.length c1) ∧ u.cell? ⟨g, 1, none⟩ = some (.slice A2 n.ins.length c2) ∧ u.cell? ⟨g, 2, none⟩ = some (.slice A3 n.cells.length c3) ∧ u.cell? ⟨g, 3, none⟩ = some (.slice A4 n.props.length c4) ∧ u.cell? ⟨g, 4, none⟩ = some (.slice A5 n.names.length c5)
theorem bx_new (w : World) (n : Nt) (A1 A2 A3 A4 A5 : Option Addr) (c1 c2 c3 c4 c5 : Nat) : BxAt (w.alloc (.cells (bxC n A1 A2 A3 A4 A5 c1 c2 c3 c4 c5) 27)) w.heap.size n A1 A2 A3 A4 A5 c1 c2 c3 c4 c5 := by
  refine ⟨?_, ?_, ?_, ?_, ?_⟩
  all_goals exact new_cells _ _ _ _ _ rfl
theorem bx_gr {w u : World} {g : Nat} {n : Nt} {A1 A2 A3 A4 A5 : Option Addr} {c1 c2 c3 c4 c5 : Nat} (h : BxAt w g n A1 A2 A3 A4 A5 c1 c2 c3 c4 c5) (hg : g < w.heap.size) (hb : Gr w u) : BxAt u g n A1 A2 A3 A4 A5 c1 c2 c3 c4 c5 := by
  obtain ⟨h0, h1, h2, h3, h4⟩ := h
  refine ⟨?_, ?_, ?_, ?_, ?_⟩
  all_goals
    rw [hb.cell (by simpa using hg)]
    assumption
theorem map_step {α : Type} {l : List α} {f : α → Int} {j : Nat} {x : α} (h : l[j]? = some x) : (l.take (j + 1)).map f = (l.take j).map f ++ [f x] := by
  rw [List.take_add_one, h]
  simp

theorem all_take {α : Type} {l : List α} {P : α → Prop} (h : ∀ i x, i < l.length → l[i]? = some x → P x) : ∀ x ∈ l, P x := fun x hx => by
  obtain ⟨i, hi⟩ := List.mem_iff_getElem?.1 hx
  exact h i x (List.getElem?_eq_some_iff.1 hi).1 hi
end Go.Proofs.Ytmnblcnhbafcpaa
