/-
  A NODE'S CHECKS, WALKED.
-/
import Derived.Test.YtmnblcnhbafcpaaJ06
namespace Go.Proofs.Ytmnblcnhbafcpaa
open Go.RowKit
open NetM

/-- the operands' places -/
def plcs (x : Nd) : List Int := [x.a, x.b, x.c]
theorem plcs_at {x : Nd} {j : Nat} {p : Int} (h : (plcs x)[j]? = some p) : j < 3 ∧ p = plc x j := by
  match j, h with
  | 0, h => simp [plcs] at h; exact ⟨by omega, h.symm⟩
  | 1, h => simp [plcs] at h; exact ⟨by omega, h.symm⟩
  | 2, h => simp [plcs] at h; exact ⟨by omega, h.symm⟩
  | j + 3, h => simp [plcs] at h
def ROk (l : List Nd) (x : Nd) (k j : Nat) : Prop := (k ≤ j → plc x j = 0) ∧ (j < k → opd l x j ≠ 0)

/-! the checks -/
theorem no_of {b : Bool} {p : Prop} (h : b = true ↔ p) (hp : ¬ p) : b = false := by
  cases b
  · rfl
  · exact absurd (h.1 rfl) hp
end Go.Proofs.Ytmnblcnhbafcpaa
