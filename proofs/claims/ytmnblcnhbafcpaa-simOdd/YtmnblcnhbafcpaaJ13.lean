/-
  rightCells, Right, WALKED.
-/
import Derived.Test.YtmnblcnhbafcpaaJ12
namespace Go.Proofs.Ytmnblcnhbafcpaa
open Go.RowKit
open NetM

theorem placesF_mem (op : Int) : ∀ (l : List Nd) (i : Nat) (p : Int), p ∈ placesF op l i → ∃ k x, p = ((i + k : Nat) : Int) ∧ l[k]? = some x ∧ x.op = op
  | [], _, _, h => by simp [placesF] at h
  | y :: r, i, p, h => by
    simp only [placesF] at h
    have rest : p ∈ placesF op r (i + 1) → ∃ k x, p = ((i + k : Nat) : Int) ∧ (y :: r)[k]? = some x ∧ x.op = op := fun h => by
      obtain ⟨k, x, e, hx, ho⟩ := placesF_mem op r (i + 1) p h
      exact ⟨k + 1, x, by rw [e]; omega, by simpa using hx, ho⟩
    split at h
    · rcases List.mem_cons.1 h with rfl | h
      · exact ⟨0, y, rfl, rfl, by assumption⟩
      · exact rest h
    · exact rest h
theorem places_mem {l : List Nd} {op p : Int} (h : p ∈ places l op) : ∃ (k : Nat) (x : Nd), p = (k : Int) ∧ l[k]? = some x ∧ x.op = op := by
  obtain ⟨k, x, e, hx, ho⟩ := placesF_mem op l 0 p h
  exact ⟨k, x, by rw [e, Nat.zero_add], hx, ho⟩
theorem bits_step {l : List Nd} {cs : List Ce} {j : Nat} {x : Ce} (h : cs[j]? = some x) : bitsOf l (cs.take (j + 1)) = bitsOf l (cs.take j) + widA l x.node := by
  unfold bitsOf
  rw [List.take_add_one, h]
  simp
theorem bits_le {l : List Nd} (hw : WOk l) : ∀ cs : List Ce, 0 ≤ bitsOf l cs ∧ bitsOf l cs ≤ 16 * (cs.length : Int)
  | [] => by simp [bitsOf]
  | c :: r => by
    have h := bits_le hw r
    have h2 := widA_ok hw c.node
    unfold bitsOf at h ⊢
    simp only [List.map_cons, List.sum_cons, List.length_cons]
    omega
end Go.Proofs.Ytmnblcnhbafcpaa
