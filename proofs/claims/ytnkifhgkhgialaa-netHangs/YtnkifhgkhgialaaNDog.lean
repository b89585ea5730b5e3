/-
  THE DOCUMENT'S node, WALKED: it asks what the rules ask.
-/
import Derived.Test.YtnkifhgkhgialaaNDob
import Derived.Test.YtnkifhgkhgialaaNDoc
import Derived.Test.YtnkifhgkhgialaaNDod
import Derived.Test.YtnkifhgkhgialaaNDoe
namespace Go.Proofs.Ytnkifhgkhgialaa
open Go.RowKit
open NetM

/-- the document's words for a node -/
def DOk (l : List Nd) (x : Nd) : Prop := 1 ≤ x.w ∧ x.w ≤ 16 ∧ ∃ k bn bl f, ruleOf x.op = some (k, bn, bl, f) ∧ (k < 1 → x.a = 0) ∧ (k < 2 → x.b = 0) ∧ (k < 3 → x.c = 0) ∧ FOk (opd l x 0) (opd l x 1) (opd l x 2) x
set_option maxHeartbeats 8000000 in
theorem node_iff {l : List Nd} {x : Nd} (hw : WOk l) : NdOk l x ↔ DOk l x := by
  have o0 := widA_ok hw (plc x 0)
  have o1 := widA_ok hw (plc x 1)
  have o2 := widA_ok hw (plc x 2)
  change 0 ≤ opd l x 0 ∧ opd l x 0 ≤ 16 at o0
  change 0 ≤ opd l x 1 ∧ opd l x 1 ≤ 16 at o1
  change 0 ≤ opd l x 2 ∧ opd l x 2 ≤ 16 at o2
  constructor
  · rintro ⟨k, bn, bl, f, hr, h1, h2, h3, ⟨h4, h4'⟩, h5⟩
    refine ⟨h1, h2, k, bn, bl, f, hr, fun hk => (h3 0 (by decide)).1 (by omega), fun hk => (h3 1 (by decide)).1 (by omega), fun hk => (h3 2 (by decide)).1 (by omega), ?_⟩
    have n0 := (h3 0 (by decide)).2
    have n1 := (h3 1 (by decide)).2
    have n2 := (h3 2 (by decide)).2
    obtain ⟨f56, f57, f58, f59, f60, f61⟩ := h5
    clear h3
    unfold ruleOf at hr
    unfold AllW at f57 f58
    unfold FOk
    repeat' split at hr
    all_goals
      simp only [Option.some.injEq, Prod.mk.injEq, reduceCtorEq] at hr
    all_goals
      obtain ⟨rfl, rfl, rfl, rfl⟩ := hr
      simp only [Bool.false_eq_true, false_or, true_or, Nat.reduceLT, Nat.reduceEqDiff, false_implies, forall_const, Nat.lt_irrefl] at h4 h4' n0 n1 n2 f56 f57 f58 f59 f60 f61
    all_goals
      refine ⟨fun h => ?_, fun h => ?_, fun h => ?_, fun h => ?_, fun h => ?_, fun h => ?_, fun h => ?_, fun h => ?_, fun h => ?_⟩
    all_goals first
      | (exfalso; omega)
      | omega
      | (have g0 := f57 0 (by decide); omega)
      | (have g0 := f57 0 (by decide); have g1 := f57 1 (by decide); omega)
      | (have g0 := f58.2 0 (by decide); have := f58.1; omega)
      | (have g0 := f58.2 0 (by decide); have g1 := f58.2 1 (by decide); have := f58.1; omega)
  · rintro ⟨h1, h2, k, bn, bl, f, hr, ha, hb, hc, h5⟩
    obtain ⟨g1, g2, g3, g4, g5, g6, g7, g8, g9⟩ := h5
    refine ⟨k, bn, bl, f, hr, h1, h2, ?_, ?_, ?_⟩
    all_goals
      unfold ruleOf at hr
      repeat' split at hr
    all_goals
      simp only [Option.some.injEq, Prod.mk.injEq, reduceCtorEq] at hr
    all_goals
      obtain ⟨rfl, rfl, rfl, rfl⟩ := hr
    all_goals first
      | (intro j hj
         match j, hj with
         | 0, _ => exact ⟨fun h => by first | exact ha (by omega) | omega, fun h => by omega⟩
         | 1, _ => exact ⟨fun h => by first | exact hb (by omega) | omega, fun h => by omega⟩
         | 2, _ => exact ⟨fun h => by first | exact hc (by omega) | omega, fun h => by omega⟩)
      | (refine ⟨?_, ?_⟩
         all_goals first
           | exact Or.inl rfl
           | (right; omega))
      | (refine ⟨fun h => ?_, fun h => ?_, fun h => ?_, fun h => ?_, fun h => ?_, fun h => ?_⟩
         all_goals first
           | (exfalso; omega)
           | omega
           | (intro j hj
              match j, hj with
              | 0, _ => omega
              | 1, hj => omega)
           | (refine ⟨by omega, ?_⟩
              intro j hj
              match j, hj with
              | 0, _ => omega
              | 1, hj => omega))
end Go.Proofs.Ytnkifhgkhgialaa
