/-
  VecFits IS PROVED: whatever op, width, operands and places, what a node makes is a number of its width. No condition.
-/
import Derived.Test.YtfnamjnggmndmaaVFit
import Derived.Test.YtfnamjnggmndmaaVOpc
namespace Go.Proofs.Ytfnamjnggmndmaa.vecFits
open Go.ChangeShapes Go.WideShapes Go.ChangeAt Go.RowKit

set_option maxRecDepth 100000 in
theorem lifted (os : Os) (started : os.Started) (H : Type) (enc : TypeId × Value → H) :
    ReturnsInHanded {} Try.checked os 4 .any (Rows.vecFitsSpec.pre6 enc Try.prog Try.f4 Rows.vecFitsRow.domain false) (Rows.vecFitsSpec.post enc Try.prog Try.f4 false true false false) := by
  refine returnsInHanded_of_change (C := Try.checked) own started (by kernel_rfl) Try.func4
    (ChangeSpec.witness6 (enc := enc) (C := Try.checked) false ⟨#[], #[.agg #[.int .u8 0, .int .u8 0, .int .u32 0, .int .u32 0, .int .u32 0, .int .u8 0]], []⟩ 8 (by kernel_rfl) (by kernel_rfl) (by kernel_rfl) (by kernel_rfl)) ?_
  intro W base args ds gs before hval0 hW hcnd _
  have hval : ∀ (j : Nat) t v, Try.f4.params[j]? = some t → args[j]? = some v → Value.okWide Try.prog W .any base t v := hval0
  have hW' := hW
  obtain ⟨p, q, hA0, hV, rfl, hfz, hnd⟩ := hW
  have hA : DataW.TrodAll enc Try.prog W 0 (fun _ => true) true Try.f4.params.toList args.toList ds p := hA0
  rw [Try.params4] at hA hval
  obtain ⟨v0, vs0, d0, ds0, p0, q0, hargs, rfl, rfl, h0, r0⟩ := trodAll_cons hA
  obtain ⟨rfl, rfl, rfl⟩ := trodAll_nil r0
  obtain rfl : args = #[v0] := by cases args; simp_all
  obtain ⟨rfl, rfl⟩ := trodVars_none hV
  clear hA0 hval0
  have k0 := h0
  have lt0 : ∀ x ∈ p0, x.block < W.heap.size := by obtain ⟨m, hm⟩ := k0; exact DataW.trod_lt m _ _ _ hm
  obtain ⟨cs0, rfl, _⟩ := okWide_struct Try.underlying24 (hval 0 24 v0 rfl rfl)
  obtain ⟨O0, Wd0, Aa0, Bb0, Cc0, V0, ec0, x10, x20, x30, x40, x50, x60⟩ : ∃ O Wd A B C V : Nat, cs0.toList = [.int .u8 (O : Nat), .int .u8 (Wd : Nat), .int .u32 (A : Nat), .int .u32 (B : Nat), .int .u32 (C : Nat), .int .u8 (V : Nat)] ∧ O < 256 ∧ Wd < 256 ∧ A < 4294967296 ∧ B < 4294967296 ∧ C < 4294967296 ∧ V < 256 := by
    obtain ⟨fuel, hf⟩ := h0
    exact case_read (by simpa [Value.cells] using hf)
  obtain rfl : cs0 = #[.int .u8 (O0 : Nat), .int .u8 (Wd0 : Nat), .int .u32 (Aa0 : Nat), .int .u32 (Bb0 : Nat), .int .u32 (Cc0 : Nat), .int .u8 (V0 : Nat)] := Array.toList_inj.1 ec0
  refine (fits_walk O0 Wd0 Aa0 Bb0 Cc0 V0 x10 x20 x30 x40 x50 x60 W).mono fun e W' ⟨he, hg⟩ => ?_
  subst he
  exact ⟨_, rfl, _, _, _, [], _, [], hW', trodAll_mk1 (shut_bool Try.underlying4 _), (trodAll_cons_mk (Below.trod laidOut (by kernel_rfl) (of_decide_eq_true (by kernel_rfl)) k0 hg lt0) trodAll_mk0), rfl, hg.frame _, fun h => by cases h⟩

theorem over : Rows.vecFitsRow.holds Try.pinned (OpenSpec.ofChange Rows.vecFitsSpec) :=
  OpenClaim.holds_of_wide 4 Try.f4 rfl rfl rfl rfl rfl rfl rfl ⟨rfl, rfl, rfl, rfl, rfl⟩ rfl rfl rfl rfl rfl (by kernel_rfl) Try.func4 (by kernel_rfl)
    (of_decide_eq_true (by kernel_rfl)) (by unfold Func.isWrapper; first | (rw [if_pos (by decide +kernel)]; kernel_rfl) | (rw [if_neg (by decide +kernel)]; exact ⟨rfl, rfl⟩))
    (fun os started H enc _ => lifted os started H enc)

theorem proved : Rows.VecFitsSaid :=
  over
end Go.Proofs.Ytfnamjnggmndmaa.vecFits
namespace Go.Proofs.Ytfnamjnggmndmaa
theorem vecFits_holds : Rows.VecFitsSaid := vecFits.proved
end Go.Proofs.Ytfnamjnggmndmaa
