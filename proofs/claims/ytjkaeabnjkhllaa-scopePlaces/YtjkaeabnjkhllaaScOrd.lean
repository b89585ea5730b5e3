/-
  Where faults stand, in whatever memory. Plain mathematics.
-/
import Derived.Test.YtjkaeabnjkhllaaScChm
namespace Go.Proofs.Ytjkaeabnjkhllaa
open Go.RowKit

def FtLt (a b : Ft) : Prop := a.2.1 < b.2.1 ∨ (a.2.1 = b.2.1 ∧ a.2.2 < b.2.2)
def FtIn (ms : List Mo) (f : Ft) : Prop := f.1 ≠ 0 ∧ ∃ m, ms[f.2.1]? = some m ∧ -1 ≤ f.2.2 ∧ f.2.2 < (m.items.length : Int)
theorem iout_ord {ms : List Mo} {i : Nat} {m : Mo} {k : Nat} {out : List Ft} (h : IOut ms i m k out) : k ≤ m.items.length ∧ (∀ f ∈ out, f.1 ≠ 0 ∧ f.2.1 = i ∧ 0 ≤ f.2.2 ∧ f.2.2 < (k : Int)) ∧ out.Pairwise FtLt := by
  induction h with
  | nil => exact ⟨Nat.zero_le _, by simp, .nil⟩
  | step k r x out h hx hr ih =>
    obtain ⟨i1, i2, i3⟩ := ih
    have hl := (List.getElem?_eq_some_iff.1 hx).1
    refine ⟨hl, fun f hf => ?_, ?_⟩
    · rcases List.mem_append.1 hf with hf | hf
      · obtain ⟨a, b, c, d⟩ := i2 f hf
        exact ⟨a, b, c, by omega⟩
      · by_cases hz : r ≠ 0
        · rw [if_pos hz] at hf
          simp only [List.mem_singleton] at hf
          subst hf
          exact ⟨hz, rfl, by simp, by simp; omega⟩
        · rw [if_neg hz] at hf
          cases hf
    · rw [List.pairwise_append]
      refine ⟨i3, by split <;> simp, fun a ha b hb => ?_⟩
      by_cases hz : r ≠ 0
      · rw [if_pos hz] at hb
        simp only [List.mem_singleton] at hb
        subst hb
        obtain ⟨_, e, _, d⟩ := i2 a ha
        exact .inr ⟨e, d⟩
      · rw [if_neg hz] at hb
        cases hb
theorem mout_ord {ms : List Mo} {i : Nat} {out : List Ft} (h : MOut ms i out) : (∀ f ∈ out, FtIn ms f ∧ f.2.1 < i) ∧ out.Pairwise FtLt := by
  induction h with
  | nil => exact ⟨by simp, .nil⟩
  | step i m out o2 h hm h2 ih =>
    obtain ⟨i2, i3⟩ := ih
    obtain ⟨j1, j2, j3⟩ := iout_ord h2
    have head : ∀ f ∈ (if modErr ms i m ≠ 0 then [(modErr ms i m, i, (-1 : Int))] else []), f.1 ≠ 0 ∧ f.2.1 = i ∧ f.2.2 = -1 := fun f hf => by
      by_cases hz : modErr ms i m ≠ 0
      · rw [if_pos hz] at hf
        simp only [List.mem_singleton] at hf
        subst hf
        exact ⟨hz, rfl, rfl⟩
      · rw [if_neg hz] at hf
        cases hf
    refine ⟨fun f hf => ?_, ?_⟩
    · rcases List.mem_append.1 hf with hf | hf
      · exact ⟨(i2 f hf).1, by have := (i2 f hf).2; omega⟩
      · rcases List.mem_append.1 hf with hf | hf
        · obtain ⟨a, b, c⟩ := head f hf
          exact ⟨⟨a, m, by rw [b]; exact hm, by omega, by omega⟩, by omega⟩
        · obtain ⟨a, b, c, d⟩ := j2 f hf
          exact ⟨⟨a, m, by rw [b]; exact hm, by omega, by omega⟩, by omega⟩
    · rw [List.pairwise_append, List.pairwise_append]
      refine ⟨i3, ⟨by split <;> simp, j3, fun a ha b hb => ?_⟩, fun a ha b hb => ?_⟩
      · obtain ⟨_, e, c⟩ := head a ha
        obtain ⟨_, e', c', _⟩ := j2 b hb
        exact .inr ⟨by rw [e, e'], by omega⟩
      · have h1 := (i2 a ha).2
        rcases List.mem_append.1 hb with hb | hb
        · exact .inl (by rw [(head b hb).2.1]; exact h1)
        · exact .inl (by rw [(j2 b hb).2.1]; exact h1)
end Go.Proofs.Ytjkaeabnjkhllaa
