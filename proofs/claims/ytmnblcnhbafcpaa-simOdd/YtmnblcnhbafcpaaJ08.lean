/-
  cuts, WALKED.
-/
import Derived.Test.YtmnblcnhbafcpaaJ07
namespace Go.Proofs.Ytmnblcnhbafcpaa
open Go.RowKit
open NetM

theorem wrap_int {y : Int} (h0 : -65536 ≤ y) (h1 : y ≤ 65536) : IntKind.i64.wrap y = y := by
  rw [IntKind.wrap_i64]
  omega
theorem wpAnyH_mono {P : Program} {md : Region.Mode} {ops : Array Oper} {Q : Exit → Act → World → Prop} {S S' : World → Prop} (h : ∀ w, S' w → S w) : ∀ (fuel : Nat) (listed : Array Bool) (a : Act) (w : World),
    wpAnyH P md ops Q S' fuel listed a w → wpAnyH P md ops Q S fuel listed a w
  | 0, _, _, _, H => H
  | fuel + 1, _, _, _, H => ⟨H.1, fun i hi => wpOp_mono (fun a' w' h' => ⟨h w' h'.1, wpAnyH_mono h fuel _ a' w' h'.2⟩) (H.2 i hi)⟩

end Go.Proofs.Ytmnblcnhbafcpaa
