/-
  slices.Equal, WALKED.
-/
import Derived.Test.YtmnblcnhbafcpaaJ10
namespace Go.Proofs.Ytmnblcnhbafcpaa
open Go.RowKit
open NetM

theorem toList_data (s : ByteArray) : s.toList = s.data.toList := ByteArray.toList_eq s
theorem toList_ne {s t : ByteArray} (h : s ≠ t) : (s.toList == t.toList) = false := by
  rw [toList_data, toList_data]
  rw [beq_eq_false_iff_ne]
  intro e
  apply h
  apply ByteArray.ext
  exact Array.toList_inj.1 e
theorem bool_no {b : Bool} {p : Prop} (h : b = true ↔ p) (hp : ¬ p) : b = false := by
  cases b
  · rfl
  · exact absurd (h.1 rfl) hp
theorem list_ext_len {α : Type} {xs ys : List α} (hl : xs.length = ys.length) (h : ∀ (i : Nat) (x y : α), xs[i]? = some x → ys[i]? = some y → x = y) : xs = ys := by
  apply List.ext_getElem hl
  intro i h1 h2
  exact h i _ _ (List.getElem?_eq_getElem h1) (List.getElem?_eq_getElem h2)
theorem neqInt (x y : Int) (b : Bool) (hb : b = true ↔ x = y) : (x != y) = !b := by
  by_cases h : x = y
  · rw [hb.2 h]; simp [h]
  · rw [bool_no hb h]; simp [h]
set_option maxHeartbeats 1000000 in
theorem neqNd (w : World) (b : Bool) : ∀ (x y : Nd), (b = true ↔ x = y) → (binOp .neq 53 (.agg #[.int .i64 x.op, .int .i64 x.w, .int .i64 x.a, .int .i64 x.b, .int .i64 x.c, .int .i64 x.n, .int .i64 x.lo]) (.agg #[.int .i64 y.op, .int .i64 y.w, .int .i64 y.a, .int .i64 y.b, .int .i64 y.c, .int .i64 y.n, .int .i64 y.lo])).run Try.prog w = .ok (.bool (!b)) w := by
  rintro ⟨x0, x1, x2, x3, x4, x5, x6⟩ ⟨y0, y1, y2, y3, y4, y5, y6⟩ hb
  have hS : Try.prog.underlying 53 = some (.struct (Try.prog.fieldsOf 53)) := by kernel_rfl
  have hp : Try.prog.stoodInHeld 53 = false := by kernel_rfl
  have u3 := Try.underlying3
  have u9 := Try.underlying9
  simp only
  rw [run_neq_struct, show (10000 : Nat) = 9999 + 1 from rfl, run_equalIn_agg w 9999 53 _ _ hS hp]
  simp only [Program.fieldsOf, Try.underlying53]
  by_cases h0 : x0 ≠ y0
  · have hn : b = false := bool_no hb (by intro e; injection e; contradiction)
    have q : (x0 == y0) = false := by simpa using h0
    subst hn
    go_simp
  replace h0 := Classical.not_not.1 h0
  subst h0
  by_cases h1 : x1 ≠ y1
  · have hn : b = false := bool_no hb (by intro e; injection e; contradiction)
    have q : (x1 == y1) = false := by simpa using h1
    subst hn
    go_simp
  replace h1 := Classical.not_not.1 h1
  subst h1
  by_cases h2 : x2 ≠ y2
  · have hn : b = false := bool_no hb (by intro e; injection e; contradiction)
    have q : (x2 == y2) = false := by simpa using h2
    subst hn
    go_simp
  replace h2 := Classical.not_not.1 h2
  subst h2
  by_cases h3 : x3 ≠ y3
  · have hn : b = false := bool_no hb (by intro e; injection e; contradiction)
    have q : (x3 == y3) = false := by simpa using h3
    subst hn
    go_simp
  replace h3 := Classical.not_not.1 h3
  subst h3
  by_cases h4 : x4 ≠ y4
  · have hn : b = false := bool_no hb (by intro e; injection e; contradiction)
    have q : (x4 == y4) = false := by simpa using h4
    subst hn
    go_simp
  replace h4 := Classical.not_not.1 h4
  subst h4
  by_cases h5 : x5 ≠ y5
  · have hn : b = false := bool_no hb (by intro e; injection e; contradiction)
    have q : (x5 == y5) = false := by simpa using h5
    subst hn
    go_simp
  replace h5 := Classical.not_not.1 h5
  subst h5
  by_cases h6 : x6 ≠ y6
  · have hn : b = false := bool_no hb (by intro e; injection e; contradiction)
    have q : (x6 == y6) = false := by simpa using h6
    subst hn
    go_simp
  replace h6 := Classical.not_not.1 h6
  subst h6
  have hn : b = true := hb.2 rfl
  subst hn
  go_simp
set_option maxHeartbeats 1000000 in
theorem neqPn (w : World) (b : Bool) : ∀ (x y : Pn), (b = true ↔ x = y) → (binOp .neq 55 (.agg #[.string x.s, .int .i64 x.node]) (.agg #[.string y.s, .int .i64 y.node])).run Try.prog w = .ok (.bool (!b)) w := by
  rintro ⟨x0, x1⟩ ⟨y0, y1⟩ hb
  have hS : Try.prog.underlying 55 = some (.struct (Try.prog.fieldsOf 55)) := by kernel_rfl
  have hp : Try.prog.stoodInHeld 55 = false := by kernel_rfl
  have u3 := Try.underlying3
  have u9 := Try.underlying9
  simp only
  rw [run_neq_struct, show (10000 : Nat) = 9999 + 1 from rfl, run_equalIn_agg w 9999 55 _ _ hS hp]
  simp only [Program.fieldsOf, Try.underlying55]
  by_cases h0 : x0 ≠ y0
  · have hn : b = false := bool_no hb (by intro e; injection e; contradiction)
    have q : (x0.toList == y0.toList) = false := toList_ne h0
    subst hn
    go_simp
  replace h0 := Classical.not_not.1 h0
  subst h0
  by_cases h1 : x1 ≠ y1
  · have hn : b = false := bool_no hb (by intro e; injection e; contradiction)
    have q : (x1 == y1) = false := by simpa using h1
    subst hn
    go_simp
  replace h1 := Classical.not_not.1 h1
  subst h1
  have hn : b = true := hb.2 rfl
  subst hn
  go_simp
set_option maxHeartbeats 1000000 in
theorem neqCe (w : World) (b : Bool) : ∀ (x y : Ce), (b = true ↔ x = y) → (binOp .neq 60 (.agg #[.string x.s, .int .i64 x.node, .int .i64 x.next, .int .i64 x.reset]) (.agg #[.string y.s, .int .i64 y.node, .int .i64 y.next, .int .i64 y.reset])).run Try.prog w = .ok (.bool (!b)) w := by
  rintro ⟨x0, x1, x2, x3⟩ ⟨y0, y1, y2, y3⟩ hb
  have hS : Try.prog.underlying 60 = some (.struct (Try.prog.fieldsOf 60)) := by kernel_rfl
  have hp : Try.prog.stoodInHeld 60 = false := by kernel_rfl
  have u3 := Try.underlying3
  have u9 := Try.underlying9
  simp only
  rw [run_neq_struct, show (10000 : Nat) = 9999 + 1 from rfl, run_equalIn_agg w 9999 60 _ _ hS hp]
  simp only [Program.fieldsOf, Try.underlying60]
  by_cases h0 : x0 ≠ y0
  · have hn : b = false := bool_no hb (by intro e; injection e; contradiction)
    have q : (x0.toList == y0.toList) = false := toList_ne h0
    subst hn
    go_simp
  replace h0 := Classical.not_not.1 h0
  subst h0
  by_cases h1 : x1 ≠ y1
  · have hn : b = false := bool_no hb (by intro e; injection e; contradiction)
    have q : (x1 == y1) = false := by simpa using h1
    subst hn
    go_simp
  replace h1 := Classical.not_not.1 h1
  subst h1
  by_cases h2 : x2 ≠ y2
  · have hn : b = false := bool_no hb (by intro e; injection e; contradiction)
    have q : (x2 == y2) = false := by simpa using h2
    subst hn
    go_simp
  replace h2 := Classical.not_not.1 h2
  subst h2
  by_cases h3 : x3 ≠ y3
  · have hn : b = false := bool_no hb (by intro e; injection e; contradiction)
    have q : (x3 == y3) = false := by simpa using h3
    subst hn
    go_simp
  replace h3 := Classical.not_not.1 h3
  subst h3
  have hn : b = true := hb.2 rfl
  subst hn
  go_simp
set_option maxHeartbeats 1000000 in
theorem neqPr (w : World) (b : Bool) : ∀ (x y : Pr), (b = true ↔ x = y) → (binOp .neq 47 (.agg #[.int .i64 x.kind, .string x.s, .int .i64 x.node]) (.agg #[.int .i64 y.kind, .string y.s, .int .i64 y.node])).run Try.prog w = .ok (.bool (!b)) w := by
  rintro ⟨x0, x1, x2⟩ ⟨y0, y1, y2⟩ hb
  have hS : Try.prog.underlying 47 = some (.struct (Try.prog.fieldsOf 47)) := by kernel_rfl
  have hp : Try.prog.stoodInHeld 47 = false := by kernel_rfl
  have u3 := Try.underlying3
  have u9 := Try.underlying9
  simp only
  rw [run_neq_struct, show (10000 : Nat) = 9999 + 1 from rfl, run_equalIn_agg w 9999 47 _ _ hS hp]
  simp only [Program.fieldsOf, Try.underlying47]
  by_cases h0 : x0 ≠ y0
  · have hn : b = false := bool_no hb (by intro e; injection e; contradiction)
    have q : (x0 == y0) = false := by simpa using h0
    subst hn
    go_simp
  replace h0 := Classical.not_not.1 h0
  subst h0
  by_cases h1 : x1 ≠ y1
  · have hn : b = false := bool_no hb (by intro e; injection e; contradiction)
    have q : (x1.toList == y1.toList) = false := toList_ne h1
    subst hn
    go_simp
  replace h1 := Classical.not_not.1 h1
  subst h1
  by_cases h2 : x2 ≠ y2
  · have hn : b = false := bool_no hb (by intro e; injection e; contradiction)
    have q : (x2 == y2) = false := by simpa using h2
    subst hn
    go_simp
  replace h2 := Classical.not_not.1 h2
  subst h2
  have hn : b = true := hb.2 rfl
  subst hn
  go_simp
end Go.Proofs.Ytmnblcnhbafcpaa
