/-
  THE DOCUMENT'S fits, WALKED: what it asks.
-/
import Derived.Test.YtnkifhgkhgialaaNDoa
namespace Go.Proofs.Ytnkifhgkhgialaa
open Go.RowKit
open NetM

/-- what the document asks of a node's widths and fields -/
def FOk (a b c : Int) (x : Nd) : Prop :=
  (x.op = 1 → 0 ≤ x.n ∧ x.n ≤ ((2 ^ x.w.toNat - 1 : Nat) : Int) ∧ x.lo = 0) ∧ (x.op = 21 ∨ x.op = 22 → x.n = 0 ∧ x.lo = 0) ∧ (x.op = 3 → x.n = 0 ∧ x.lo = 0 ∧ a = x.w) ∧
  (x.op = 4 ∨ x.op = 5 → x.n = 0 ∧ x.w = 1 ∧ a = x.lo ∧ 0 < a) ∧ (6 ≤ x.op ∧ x.op ≤ 11 → x.n = 0 ∧ x.lo = 0 ∧ a = x.w ∧ b = x.w) ∧
  (12 ≤ x.op ∧ x.op ≤ 15 → x.n = 0 ∧ x.w = 1 ∧ a = x.lo ∧ b = x.lo ∧ 0 < a) ∧ (x.op = 16 → x.n = 0 ∧ x.lo = 0 ∧ a = 1 ∧ b = x.w ∧ c = x.w) ∧
  (x.op = 17 → x.n = 0 ∧ x.lo = 0 ∧ 0 < a ∧ 0 < b ∧ a + b = x.w) ∧ (x.op = 18 → 0 ≤ x.lo ∧ x.lo ≤ x.n ∧ x.n < a ∧ x.w = x.n - x.lo + 1)
end Go.Proofs.Ytnkifhgkhgialaa
