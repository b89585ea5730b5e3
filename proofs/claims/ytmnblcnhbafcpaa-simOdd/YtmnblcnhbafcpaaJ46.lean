/-
  ROWS OF ROWS THAT CAME IN.
-/
import Derived.Test.YtmnblcnhbafcpaaJ37
import Derived.Test.YtmnblcnhbafcpaaJ29
namespace Go.Proofs.Ytmnblcnhbafcpaa
open Go.RowKit Go.Deep
open NetM

theorem cellsR63 : Try.prog.cellsOf 63 = 1 := by kernel_rfl
theorem cellsR42 : Try.prog.cellsOf 42 = 1 := by kernel_rfl
section
variable {H : Type} {enc : TypeId × Value → H} {w : World} {base : Nat} {held : Bool}
/-- rows of numbers of 16 bits that came in -/
theorem raw_open {fuel : Nat} {cs : List Value} {x : DataW H × List MemPlace} (h : DataW.trod enc Try.prog w base (fun _ => true) held fuel 29 cs = some x) :
    ∃ (l : List (List Nat)) (A : Option Addr) (cap : Nat), cs = [.slice A l.length cap] ∧ l.length ≤ maxLen ∧ RawP w A l := by
  obtain ⟨A, len, cap, rfl⟩ := slice_form Try.underlying29 h
  obtain ⟨ds, h1, h2, h3, h4⟩ := rows_read (⟨([], none, 0), fun i s hi => by simp at hi, Nat.zero_le _, fun x hx => by simp at hx⟩ : {d : List Nat × Option Addr × Nat // U16s w w.heap.size d.2.1 d.1 ∧ d.1.length ≤ maxLen ∧ ∀ x ∈ d.1, x < 65536}) (fun d => [.slice d.1.2.1 d.1.1.length d.1.2.2]) (k := 1) (by decide) (fun _ => rfl) Try.underlying29 cellsR63 (fun {fuel cs x} hh => by
    obtain ⟨A', len', cap', rfl⟩ := slice_form Try.underlying63 hh
    obtain ⟨l, e1, e2, e3, e4⟩ := u16s_open hh
    exact ⟨⟨(l, A', cap'), e4, by rw [e1]; exact e2, e3⟩, by simp [e1]⟩) h
  refine ⟨ds.map (·.1.1), A, cap, by rw [List.length_map, h1], by rw [List.length_map, h1]; exact h2, fun i r hi => ?_⟩
  rw [List.getElem?_map] at hi
  obtain ⟨d, hd, rfl⟩ := Option.map_eq_some_iff.1 hi
  obtain ⟨b, off, e, hb, hc⟩ := h4 i d hd
  have := hc 0 _ rfl
  rw [Nat.mul_one, Nat.add_zero] at this
  exact ⟨b, off, _, _, e, hb, this, d.2.1, d.2.2.1, d.2.2.2⟩
/-- a row of numbers that came in -/
theorem intr_open {fuel : Nat} {cs : List Value} {x : DataW H × List MemPlace} (h : DataW.trod enc Try.prog w base (fun _ => true) held fuel 42 cs = some x) :
    ∃ (l : List Int) (u : Value), cs = [u] ∧ IntR w u l ∧ l.length ≤ maxLen := by
  obtain ⟨A, len, cap, rfl⟩ := slice_form Try.underlying42 h
  obtain ⟨ds, h1, h2, h3, h4⟩ := rows_read (0 : Int) (fun d => [.int .i64 d]) (k := 1) (by decide) (fun _ => rfl) Try.underlying42 cells3 (fun {fuel cs x} hh => by
    obtain ⟨a0, e0, _, _⟩ := DataW.trod_int Try.underlying3 hh
    exact ⟨a0, e0⟩) h
  refine ⟨ds, _, rfl, ⟨A, cap, by rw [h1], by rw [h1]; exact h3, fun i s hi => ?_⟩, by rw [h1]; exact h2⟩
  obtain ⟨b, off, e, hb, hc⟩ := h4 i s hi
  have := hc 0 _ rfl
  rw [Nat.mul_one, Nat.add_zero] at this
  exact ⟨b, off, e, hb, this⟩
/-- rows of numbers that came in -/
theorem rws_open {fuel : Nat} {cs : List Value} {x : DataW H × List MemPlace} (h : DataW.trod enc Try.prog w base (fun _ => true) held fuel 28 cs = some x) :
    ∃ (l : List (List Int)) (v : Value), cs = [v] ∧ l.length ≤ maxLen ∧ (∀ r ∈ l, r.length ≤ maxLen) ∧ RwsR w v l := by
  obtain ⟨A, len, cap, rfl⟩ := slice_form Try.underlying28 h
  obtain ⟨ds, h1, h2, h3, h4⟩ := rows_read (⟨([], .slice none 0 0), ⟨none, 0, rfl, Nat.zero_le _, fun i s hi => by simp at hi⟩, Nat.zero_le _⟩ : {d : List Int × Value // IntR w d.2 d.1 ∧ d.1.length ≤ maxLen}) (fun d => [d.1.2]) (k := 1) (by decide) (fun _ => rfl) Try.underlying28 cellsR42 (fun {fuel cs x} hh => by
    obtain ⟨l, u, rfl, e1, e2⟩ := intr_open hh
    exact ⟨⟨(l, u), e1, e2⟩, rfl⟩) h
  refine ⟨ds.map (·.1.1), _, rfl, by rw [List.length_map, h1]; exact h2, fun r hr => ?_, ⟨A, cap, by rw [List.length_map, h1], by rw [List.length_map, h1]; exact h3, fun i r hi => ?_⟩⟩
  · obtain ⟨d, _, rfl⟩ := List.mem_map.1 hr
    exact d.2.2
  · rw [List.getElem?_map] at hi
    obtain ⟨d, hd, rfl⟩ := Option.map_eq_some_iff.1 hi
    obtain ⟨b, off, e, hb, hc⟩ := h4 i d hd
    have := hc 0 _ rfl
    rw [Nat.mul_one, Nat.add_zero] at this
    exact ⟨b, off, _, e, hb, this, d.2.1⟩
end
end Go.Proofs.Ytmnblcnhbafcpaa
