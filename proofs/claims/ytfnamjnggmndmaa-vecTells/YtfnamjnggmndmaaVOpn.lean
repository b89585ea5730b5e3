/-
  A ROW OF BITS THAT CAME IN.
-/
import Derived.Test.YtfnamjnggmndmaaVNum
import Derived.Test.YtfnamjnggmndmaaVWf
import Derived.Deep.Grids
namespace Go.Proofs.Ytfnamjnggmndmaa
open Go.RowKit Go.Deep

theorem cells4 : Try.prog.cellsOf 4 = 1 := by kernel_rfl
theorem laidOut : laidOutB Try.prog = true := by kernel_rfl
theorem block_lt' {w : World} {b o : Nat} {v : Value} (h : w.cell? ⟨b, o, none⟩ = some v) : b < w.heap.size := by
  rcases Nat.lt_or_ge b w.heap.size with hlt | hge
  · exact hlt
  · simp [World.cell?, Array.getElem?_eq_none hge] at h
section
variable {H : Type} {enc : TypeId × Value → H} {w : World} {base : Nat} {held : Bool}
theorem bls_open {fuel len cap : Nat} {A : Option Addr} {x : DataW H × List MemPlace} (h : DataW.trod enc Try.prog w base (fun _ => true) held fuel 25 [.slice A len cap] = some x) :
    ∃ l : List Bool, l.length = len ∧ len ≤ maxLen ∧ Bls w w.heap.size A l := by
  rcases open_bools Try.underlying25 Try.underlying4 cells4 h with ⟨e, _⟩ | ⟨a, ln, cp, B, e, _, hl, hm, _, hc⟩
  · simp at e
    obtain ⟨rfl, rfl, rfl⟩ := e
    exact ⟨[], rfl, by decide, fun i b hi => by simp at hi⟩
  · simp at e
    obtain ⟨rfl, rfl, rfl⟩ := e
    refine ⟨(List.range len).map B, by simp, Nat.le_trans hl hm, fun i b hi => ?_⟩
    have hi' : i < len := by have := (List.getElem?_eq_some_iff.1 hi).1; simpa using this
    simp [hi'] at hi
    subst hi
    have hci := hc i (by omega)
    have hspot : a.spot = none := by
      have h0 := hc 0 (by omega)
      simpa [Addr.add] using World.cell?_spot h0
    obtain ⟨g, off, sp⟩ := a
    simp only at hspot
    subst hspot
    have hadd : (⟨g, off, none⟩ : Addr).add i = ⟨g, off + i, none⟩ := by
      by_cases hq : i = 0
      · subst hq; rfl
      · simp [Addr.add, hq]
    rw [hadd] at hci
    exact ⟨g, off, rfl, block_lt' hci, hci⟩
end
end Go.Proofs.Ytfnamjnggmndmaa
