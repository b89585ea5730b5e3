/-
  ROWS THAT CAME IN NIL.
-/
import Derived.Test.YtnkifhgkhgialaaNCop
namespace Go.Proofs.Ytnkifhgkhgialaa
open Go.RowKit Go.Deep
open NetM

section
variable {H : Type} {enc : TypeId × Value → H} {w : World} {base : Nat} {held : Bool}
theorem slice_nil {fuel : Nat} {t e : TypeId} {A : Option Addr} {len cap : Nat} {x : DataW H × List MemPlace} (hu : Try.prog.underlying t = some (.slice e)) (h : DataW.trod enc Try.prog w base (fun _ => true) held fuel t [.slice A len cap] = some x) : A = none → len = 0 ∧ cap = 0 := by
  intro hA
  rcases open_slice hu h with ⟨hcs, _⟩ | ⟨a, len', cap', _, _, _, _, hcs, _⟩
  · have e : A = none ∧ len = 0 ∧ cap = 0 := by simpa using hcs
    exact e.2
  · have e : A = some a ∧ len = len' ∧ cap = cap' := by simpa using hcs
    rw [hA] at e
    simp at e
theorem net_nil {fuel : Nat} {A1 A2 A3 A4 A5 : Option Addr} {k1 k2 k3 k4 k5 c1 c2 c3 c4 c5 : Nat} {x : DataW H × List MemPlace}
    (h : DataW.trod enc Try.prog w base (fun _ => true) held fuel 27 [.slice A1 k1 c1, .slice A2 k2 c2, .slice A3 k3 c3, .slice A4 k4 c4, .slice A5 k5 c5] = some x) : NilOk (ntV A1 A2 A3 A4 A5 k1 k2 k3 k4 k5 c1 c2 c3 c4 c5) := by
  obtain ⟨xs, m, _, hx, hcl, hxl, hf⟩ := DataW.trod_struct Try.underlying27 h
  match xs, hxl with
  | [y0, y1, y2, y3, y4], _ =>
    have f0 : DataW.trod enc Try.prog w base (fun _ => true) held m 22 (([.slice A1 k1 c1, .slice A2 k2 c2, .slice A3 k3 c3, .slice A4 k4 c4, .slice A5 k5 c5].drop 0).take (Try.prog.cellsOf 22)) = some y0 := hf 0 _ rfl
    have f2 : DataW.trod enc Try.prog w base (fun _ => true) held m 24 (([.slice A1 k1 c1, .slice A2 k2 c2, .slice A3 k3 c3, .slice A4 k4 c4, .slice A5 k5 c5].drop 2).take (Try.prog.cellsOf 24)) = some y2 := hf 2 _ rfl
    rw [cellsS22] at f0
    rw [cellsS24] at f2
    intro B1 B2 B3 B4 B5 l1 l2 l3 l4 l5 d1 d2 d3 d4 d5 e
    simp only [ntV, Value.agg.injEq, Array.mk.injEq, List.cons.injEq, Value.slice.injEq, and_true] at e
    obtain ⟨⟨rfl, rfl, rfl⟩, ⟨rfl, rfl, rfl⟩, ⟨rfl, rfl, rfl⟩, ⟨rfl, rfl, rfl⟩, ⟨rfl, rfl, rfl⟩⟩ := e
    exact ⟨slice_nil Try.underlying22 f0, slice_nil Try.underlying24 f2⟩
end
end Go.Proofs.Ytnkifhgkhgialaa
