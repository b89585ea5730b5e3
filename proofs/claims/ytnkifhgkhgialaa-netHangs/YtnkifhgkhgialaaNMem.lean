/-
  NETS IN MEMORY.
-/
import Derived.Test.YtnkifhgkhgialaaVSmall
import Derived.Test.YtnkifhgkhgialaaNMath
namespace Go.Proofs.Ytnkifhgkhgialaa
open Go.RowKit
open NetM

abbrev Gr (w w' : World) : Prop := Below w.heap.size w w'
theorem Gr.trans {a b c : World} (h : Gr a b) (k : Gr b c) : Gr a c := Below.trans h (k.mono h.size)
theorem Gr.drew (w : World) : Gr w w.drew := Below.drew (Below.refl _ _)
theorem Gr.refl (w : World) : Gr w w := Below.refl _ _
theorem hlt {w : World} {g : Nat} {o : Obj} (h : w.heap[g]? = some o) : g < w.heap.size := (Array.getElem?_eq_some_iff.1 h).1
/-- a row of numbers -/
def Ints (w : World) (B : Nat) (A : Option Addr) (ns : List Int) : Prop :=
  ∀ (i : Nat) (s : Int), ns[i]? = some s → ∃ b off, A = some ⟨b, off, none⟩ ∧ b < B ∧ w.cell? ⟨b, off + i, none⟩ = some (.int .i64 s)
theorem Ints.below {w w' : World} {B : Nat} {A : Option Addr} {ns : List Int} (h : Ints w B A ns) (hb : Below B w w') : Ints w' B A ns := by
  intro i s hi
  obtain ⟨b, off, e, hlt, hc⟩ := h i s hi
  exact ⟨b, off, e, hlt, by rw [hb.cell (p := ⟨b, off + i, none⟩) hlt]; exact hc⟩
theorem Ints.more {w : World} {B B' : Nat} {A : Option Addr} {ns : List Int} (h : Ints w B A ns) (hb : B ≤ B') : Ints w B' A ns := by
  intro i s hi
  obtain ⟨b, off, e, hlt, hc⟩ := h i s hi
  exact ⟨b, off, e, by omega, hc⟩
theorem Ints.gr {w w' : World} {A : Option Addr} {ns : List Int} (h : Ints w w.heap.size A ns) (hb : Gr w w') : Ints w' w'.heap.size A ns := (h.below hb).more hb.size
/-- a row of numbers of 16 bits -/
def U16s (w : World) (B : Nat) (A : Option Addr) (ns : List Nat) : Prop :=
  ∀ (i : Nat) (s : Nat), ns[i]? = some s → ∃ b off, A = some ⟨b, off, none⟩ ∧ b < B ∧ w.cell? ⟨b, off + i, none⟩ = some (.int .u16 (s : Nat))
theorem U16s.below {w w' : World} {B : Nat} {A : Option Addr} {ns : List Nat} (h : U16s w B A ns) (hb : Below B w w') : U16s w' B A ns := by
  intro i s hi
  obtain ⟨b, off, e, hlt, hc⟩ := h i s hi
  exact ⟨b, off, e, hlt, by rw [hb.cell (p := ⟨b, off + i, none⟩) hlt]; exact hc⟩
theorem U16s.more {w : World} {B B' : Nat} {A : Option Addr} {ns : List Nat} (h : U16s w B A ns) (hb : B ≤ B') : U16s w B' A ns := by
  intro i s hi
  obtain ⟨b, off, e, hlt, hc⟩ := h i s hi
  exact ⟨b, off, e, by omega, hc⟩
theorem U16s.gr {w w' : World} {A : Option Addr} {ns : List Nat} (h : U16s w w.heap.size A ns) (hb : Gr w w') : U16s w' w'.heap.size A ns := (h.below hb).more hb.size
def Nds (w : World) (B : Nat) (A : Option Addr) (l : List Nd) : Prop :=
  ∀ (i : Nat) (x : Nd), l[i]? = some x → ∃ b off, A = some ⟨b, off, none⟩ ∧ b < B ∧ w.cell? ⟨b, off + i * 7, none⟩ = some (.int .i64 x.op) ∧ w.cell? ⟨b, off + i * 7 + 1, none⟩ = some (.int .i64 x.w) ∧ w.cell? ⟨b, off + i * 7 + 2, none⟩ = some (.int .i64 x.a) ∧ w.cell? ⟨b, off + i * 7 + 3, none⟩ = some (.int .i64 x.b) ∧ w.cell? ⟨b, off + i * 7 + 4, none⟩ = some (.int .i64 x.c) ∧ w.cell? ⟨b, off + i * 7 + 5, none⟩ = some (.int .i64 x.n) ∧ w.cell? ⟨b, off + i * 7 + 6, none⟩ = some (.int .i64 x.lo)
theorem Nds.below {w w' : World} {B : Nat} {A : Option Addr} {l : List Nd} (h : Nds w B A l) (hb : Below B w w') : Nds w' B A l := by
  intro i x hi
  obtain ⟨b, off, e, hlt, h0, h1, h2, h3, h4, h5, h6⟩ := h i x hi
  exact ⟨b, off, e, hlt, by rw [hb.cell (p := ⟨b, _, none⟩) hlt]; exact h0, by rw [hb.cell (p := ⟨b, _, none⟩) hlt]; exact h1, by rw [hb.cell (p := ⟨b, _, none⟩) hlt]; exact h2, by rw [hb.cell (p := ⟨b, _, none⟩) hlt]; exact h3, by rw [hb.cell (p := ⟨b, _, none⟩) hlt]; exact h4, by rw [hb.cell (p := ⟨b, _, none⟩) hlt]; exact h5, by rw [hb.cell (p := ⟨b, _, none⟩) hlt]; exact h6⟩
theorem Nds.more {w : World} {B B' : Nat} {A : Option Addr} {l : List Nd} (h : Nds w B A l) (hb : B ≤ B') : Nds w B' A l := by
  intro i x hi
  obtain ⟨b, off, e, hlt, hc⟩ := h i x hi
  exact ⟨b, off, e, by omega, hc⟩
theorem Nds.gr {w w' : World} {A : Option Addr} {l : List Nd} (h : Nds w w.heap.size A l) (hb : Gr w w') : Nds w' w'.heap.size A l := (h.below hb).more hb.size
theorem Nds.take {w : World} {B : Nat} {A : Option Addr} {l : List Nd} (h : Nds w B A l) (k : Nat) : Nds w B A (l.take k) := fun i x hi => h i x (by
  rw [List.getElem?_take] at hi
  split at hi
  · exact hi
  · simp at hi)
def Pns (w : World) (B : Nat) (A : Option Addr) (l : List Pn) : Prop :=
  ∀ (i : Nat) (x : Pn), l[i]? = some x → ∃ b off, A = some ⟨b, off, none⟩ ∧ b < B ∧ w.cell? ⟨b, off + i * 2, none⟩ = some (.string x.s) ∧ w.cell? ⟨b, off + i * 2 + 1, none⟩ = some (.int .i64 x.node)
theorem Pns.below {w w' : World} {B : Nat} {A : Option Addr} {l : List Pn} (h : Pns w B A l) (hb : Below B w w') : Pns w' B A l := by
  intro i x hi
  obtain ⟨b, off, e, hlt, h0, h1⟩ := h i x hi
  exact ⟨b, off, e, hlt, by rw [hb.cell (p := ⟨b, _, none⟩) hlt]; exact h0, by rw [hb.cell (p := ⟨b, _, none⟩) hlt]; exact h1⟩
theorem Pns.more {w : World} {B B' : Nat} {A : Option Addr} {l : List Pn} (h : Pns w B A l) (hb : B ≤ B') : Pns w B' A l := by
  intro i x hi
  obtain ⟨b, off, e, hlt, hc⟩ := h i x hi
  exact ⟨b, off, e, by omega, hc⟩
theorem Pns.gr {w w' : World} {A : Option Addr} {l : List Pn} (h : Pns w w.heap.size A l) (hb : Gr w w') : Pns w' w'.heap.size A l := (h.below hb).more hb.size
theorem Pns.take {w : World} {B : Nat} {A : Option Addr} {l : List Pn} (h : Pns w B A l) (k : Nat) : Pns w B A (l.take k) := fun i x hi => h i x (by
  rw [List.getElem?_take] at hi
  split at hi
  · exact hi
  · simp at hi)
def Ces (w : World) (B : Nat) (A : Option Addr) (l : List Ce) : Prop :=
  ∀ (i : Nat) (x : Ce), l[i]? = some x → ∃ b off, A = some ⟨b, off, none⟩ ∧ b < B ∧ w.cell? ⟨b, off + i * 4, none⟩ = some (.string x.s) ∧ w.cell? ⟨b, off + i * 4 + 1, none⟩ = some (.int .i64 x.node) ∧ w.cell? ⟨b, off + i * 4 + 2, none⟩ = some (.int .i64 x.next) ∧ w.cell? ⟨b, off + i * 4 + 3, none⟩ = some (.int .i64 x.reset)
theorem Ces.below {w w' : World} {B : Nat} {A : Option Addr} {l : List Ce} (h : Ces w B A l) (hb : Below B w w') : Ces w' B A l := by
  intro i x hi
  obtain ⟨b, off, e, hlt, h0, h1, h2, h3⟩ := h i x hi
  exact ⟨b, off, e, hlt, by rw [hb.cell (p := ⟨b, _, none⟩) hlt]; exact h0, by rw [hb.cell (p := ⟨b, _, none⟩) hlt]; exact h1, by rw [hb.cell (p := ⟨b, _, none⟩) hlt]; exact h2, by rw [hb.cell (p := ⟨b, _, none⟩) hlt]; exact h3⟩
theorem Ces.more {w : World} {B B' : Nat} {A : Option Addr} {l : List Ce} (h : Ces w B A l) (hb : B ≤ B') : Ces w B' A l := by
  intro i x hi
  obtain ⟨b, off, e, hlt, hc⟩ := h i x hi
  exact ⟨b, off, e, by omega, hc⟩
theorem Ces.gr {w w' : World} {A : Option Addr} {l : List Ce} (h : Ces w w.heap.size A l) (hb : Gr w w') : Ces w' w'.heap.size A l := (h.below hb).more hb.size
theorem Ces.take {w : World} {B : Nat} {A : Option Addr} {l : List Ce} (h : Ces w B A l) (k : Nat) : Ces w B A (l.take k) := fun i x hi => h i x (by
  rw [List.getElem?_take] at hi
  split at hi
  · exact hi
  · simp at hi)
def Prs (w : World) (B : Nat) (A : Option Addr) (l : List Pr) : Prop :=
  ∀ (i : Nat) (x : Pr), l[i]? = some x → ∃ b off, A = some ⟨b, off, none⟩ ∧ b < B ∧ w.cell? ⟨b, off + i * 3, none⟩ = some (.int .i64 x.kind) ∧ w.cell? ⟨b, off + i * 3 + 1, none⟩ = some (.string x.s) ∧ w.cell? ⟨b, off + i * 3 + 2, none⟩ = some (.int .i64 x.node)
theorem Prs.below {w w' : World} {B : Nat} {A : Option Addr} {l : List Pr} (h : Prs w B A l) (hb : Below B w w') : Prs w' B A l := by
  intro i x hi
  obtain ⟨b, off, e, hlt, h0, h1, h2⟩ := h i x hi
  exact ⟨b, off, e, hlt, by rw [hb.cell (p := ⟨b, _, none⟩) hlt]; exact h0, by rw [hb.cell (p := ⟨b, _, none⟩) hlt]; exact h1, by rw [hb.cell (p := ⟨b, _, none⟩) hlt]; exact h2⟩
theorem Prs.more {w : World} {B B' : Nat} {A : Option Addr} {l : List Pr} (h : Prs w B A l) (hb : B ≤ B') : Prs w B' A l := by
  intro i x hi
  obtain ⟨b, off, e, hlt, hc⟩ := h i x hi
  exact ⟨b, off, e, by omega, hc⟩
theorem Prs.gr {w w' : World} {A : Option Addr} {l : List Pr} (h : Prs w w.heap.size A l) (hb : Gr w w') : Prs w' w'.heap.size A l := (h.below hb).more hb.size
theorem Prs.take {w : World} {B : Nat} {A : Option Addr} {l : List Pr} (h : Prs w B A l) (k : Nat) : Prs w B A (l.take k) := fun i x hi => h i x (by
  rw [List.getElem?_take] at hi
  split at hi
  · exact hi
  · simp at hi)
theorem Ints.take {w : World} {B : Nat} {A : Option Addr} {l : List Int} (h : Ints w B A l) (k : Nat) : Ints w B A (l.take k) := fun i x hi => h i x (by
  rw [List.getElem?_take] at hi
  split at hi
  · exact hi
  · simp at hi)
/-- a net's five rows -/
abbrev ntV (A1 A2 A3 A4 A5 : Option Addr) (k1 k2 k3 k4 k5 c1 c2 c3 c4 c5 : Nat) : Value := .agg #[.slice A1 k1 c1, .slice A2 k2 c2, .slice A3 k3 c3, .slice A4 k4 c4, .slice A5 k5 c5]
def NtAt (w : World) (n : Nt) (v : Value) : Prop := ∃ A1 A2 A3 A4 A5 c1 c2 c3 c4 c5, v = ntV A1 A2 A3 A4 A5 n.nodes.length n.ins.length n.cells.length n.props.length n.names.length c1 c2 c3 c4 c5 ∧
  n.nodes.length ≤ c1 ∧ Nds w w.heap.size A1 n.nodes ∧ Pns w w.heap.size A2 n.ins ∧ Ces w w.heap.size A3 n.cells ∧ Prs w w.heap.size A4 n.props ∧ Pns w w.heap.size A5 n.names
theorem NtAt.gr {w w' : World} {n : Nt} {v : Value} (h : NtAt w n v) (hb : Gr w w') : NtAt w' n v := by
  obtain ⟨A1, A2, A3, A4, A5, c1, c2, c3, c4, c5, e, h0, h1, h2, h3, h4, h5⟩ := h
  exact ⟨A1, A2, A3, A4, A5, c1, c2, c3, c4, c5, e, h0, h1.gr hb, h2.gr hb, h3.gr hb, h4.gr hb, h5.gr hb⟩
end Go.Proofs.Ytnkifhgkhgialaa
