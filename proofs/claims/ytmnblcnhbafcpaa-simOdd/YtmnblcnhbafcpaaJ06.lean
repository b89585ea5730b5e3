/-
  width, at, widths, all, AND WHAT A NODE'S CHECKS ASK, WALKED.
-/
import Derived.Test.YtmnblcnhbafcpaaJ05
namespace Go.Proofs.Ytmnblcnhbafcpaa
open Go.RowKit
open NetM

theorem width_any (A : Option Addr) (c B : Nat) (l : List Nd) (i : Int) (w : World) (_hl : l.length ≤ 4000) (h : Hid (Nds w B A l)) :
    Calls Try.prog 45 #[.slice A l.length c, .int .i64 i] w fun e w' => e = .returned (.int .i64 (widA l i)) ∧ w = w' := by
  by_cases h0 : i < 0
  · rw [widA_neg h0]
    go_enter Try.func45, Try.ntmps45
    go_wp2
    go_ret
    exact ⟨rfl, rfl⟩
  by_cases h1 : (l.length : Int) ≤ i
  · rw [widA_ge h1]
    go_enter Try.func45, Try.ntmps45
    go_wp2
    go_ret
    exact ⟨rfl, rfl⟩
  obtain ⟨k, rfl⟩ : ∃ k : Nat, i = k := ⟨i.toNat, by omega⟩
  have hk : k < l.length := by omega
  have hs : l[k]? = some l[k] := List.getElem?_eq_getElem hk
  generalize l[k] = x at hs
  rw [widA_some hs]
  obtain ⟨b, off, rfl, hb, d0, d1, d2, d3, d4, d5, d6⟩ := h.out k x hs
  have h2 : (k : Int) < (l.length : Int) := by omega
  have h3 : (0 : Int) ≤ (k : Int) := by omega
  clear hs h1 h0
  go_enter Try.func45, Try.ntmps45
  go_wp2
  go_ret
  exact ⟨rfl, rfl⟩

theorem at_any (A : Option Addr) (c B : Nat) (l : List Int) (i : Int) (w : World) (_hl : l.length ≤ 4000) (h : Hid (Ints w B A l)) :
    Calls Try.prog 43 #[.slice A l.length c, .int .i64 i] w fun e w' => e = .returned (.int .i64 (getA l i)) ∧ w = w' := by
  by_cases h0 : i < 0
  · rw [getA_neg h0]
    go_enter Try.func43, Try.ntmps43
    go_wp2
    go_ret
    exact ⟨rfl, rfl⟩
  by_cases h1 : (l.length : Int) ≤ i
  · rw [getA_ge h1]
    go_enter Try.func43, Try.ntmps43
    go_wp2
    go_ret
    exact ⟨rfl, rfl⟩
  obtain ⟨k, rfl⟩ : ∃ k : Nat, i = k := ⟨i.toNat, by omega⟩
  have hk : k < l.length := by omega
  have hs : l[k]? = some l[k] := List.getElem?_eq_getElem hk
  generalize l[k] = x at hs
  rw [getA_some hs]
  obtain ⟨b, off, rfl, hb, d0⟩ := h.out k x hs
  have h2 : (k : Int) < (l.length : Int) := by omega
  have h3 : (0 : Int) ≤ (k : Int) := by omega
  clear hs h1 h0
  go_enter Try.func43, Try.ntmps43
  go_wp2
  go_ret
  exact ⟨rfl, rfl⟩

/-- a node, what stands ahead of it, and its op's rule -/
abbrev rnV (x : Nd) (A : Option Addr) (n c k : Nat) (bn bl : Bool) (f : Nat) : Value :=
  .agg #[.int .i64 x.op, .int .i64 x.w, .int .i64 x.a, .int .i64 x.b, .int .i64 x.c, .int .i64 x.n, .int .i64 x.lo, .slice A n c, .int .i64 (k : Nat), .bool bn, .bool bl, .func (.func f) #[] #[]]
abbrev rnC (x : Nd) (A : Option Addr) (n c k : Nat) (bn bl : Bool) (f : Nat) : Array Value :=
  #[.int .i64 x.op, .int .i64 x.w, .int .i64 x.a, .int .i64 x.b, .int .i64 x.c, .int .i64 x.n, .int .i64 x.lo, .slice A n c, .int .i64 (k : Nat), .bool bn, .bool bl, .func (.func f) #[] #[]]

theorem new_cells (w : World) (cs : Array Value) (t : TypeId) (j : Nat) (v : Value) (h : cs[j]? = some v) : (w.alloc (.cells cs t)).cell? ⟨w.heap.size, j, none⟩ = some v := by
  have e : (w.alloc (.cells cs t)).heap[w.heap.size]? = some (.cells cs t) := by
    show (w.heap.push _)[w.heap.size]? = _
    simp
  simp only [World.cell?, e]
  simpa using h
/-- what a check reads of its node -/
abbrev RnAt (u : World) (g : Nat) (x : Nd) (A : Option Addr) (n c k : Nat) (bn bl : Bool) (f : Nat) : Prop :=
  u.cell? ⟨g, 0, none⟩ = some (.int .i64 x.op) ∧ u.cell? ⟨g, 1, none⟩ = some (.int .i64 x.w) ∧ u.cell? ⟨g, 2, none⟩ = some (.int .i64 x.a) ∧ u.cell? ⟨g, 3, none⟩ = some (.int .i64 x.b) ∧ u.cell? ⟨g, 4, none⟩ = some (.int .i64 x.c) ∧
  u.cell? ⟨g, 5, none⟩ = some (.int .i64 x.n) ∧ u.cell? ⟨g, 6, none⟩ = some (.int .i64 x.lo) ∧ u.cell? ⟨g, 7, none⟩ = some (.slice A n c) ∧ u.cell? ⟨g, 8, none⟩ = some (.int .i64 (k : Nat)) ∧ u.cell? ⟨g, 9, none⟩ = some (.bool bn) ∧ u.cell? ⟨g, 10, none⟩ = some (.bool bl) ∧ u.cell? ⟨g, 11, none⟩ = some (.func (.func f) #[] #[])
theorem rn_gr {w u : World} {g : Nat} {x : Nd} {A : Option Addr} {n c k : Nat} {bn bl : Bool} {f : Nat} (h : RnAt w g x A n c k bn bl f) (hg : g < w.heap.size) (hb : Gr w u) : RnAt u g x A n c k bn bl f := by
  obtain ⟨h0, h1, h2, h3, h4, h5, h6, h7, h8, h9, h10, h11⟩ := h
  refine ⟨?_, ?_, ?_, ?_, ?_, ?_, ?_, ?_, ?_, ?_, ?_, ?_⟩
  all_goals
    rw [hb.cell (by simpa using hg)]
    assumption
/-- the operands' widths -/
def opds (l : List Nd) (x : Nd) : List Int := [opd l x 0, opd l x 1, opd l x 2]
/-- a row of numbers: all alike -/
def AllI (l : List Int) (z : Int) : Prop := ∀ (j : Nat) (y : Int), l[j]? = some y → y = z
theorem allW_iff {l : List Nd} {x : Nd} {k : Nat} {z : Int} (hk : k ≤ 3) : AllI ((opds l x).take k) z ↔ AllW l x k z := by
  have e : ∀ j, j < 3 → (opds l x)[j]? = some (opd l x j) := fun j hj => by
    match j, hj with
    | 0, _ => rfl
    | 1, _ => rfl
    | 2, _ => rfl
  constructor
  · intro h j hj
    exact h j _ (by rw [List.getElem?_take_of_lt hj]; exact e j (by omega))
  · intro h j y hy
    have hj : j < k := by
      rw [List.getElem?_take] at hy
      split at hy
      · assumption
      · simp at hy
    rw [List.getElem?_take_of_lt hj, e j (by omega)] at hy
    rw [← Option.some.inj hy]
    exact h j hj
end Go.Proofs.Ytmnblcnhbafcpaa
