/-
  VecTells IS PROVED: whatever op, width, operands, places and row of bits, what a node makes, masks, bits and numbers of bits are the ones that the document tells. No condition.
-/
import Derived.Test.YtfnamjnggmndmaaVTel
import Derived.Test.YtfnamjnggmndmaaVOpc
namespace Go.Proofs.Ytfnamjnggmndmaa.vecTells
open Go.ChangeShapes Go.WideShapes Go.ChangeAt Go.RowKit

set_option maxRecDepth 100000 in
theorem lifted (os : Os) (started : os.Started) (H : Type) (enc : TypeId × Value → H) :
    ReturnsInHanded {} Try.checked os 3 .any (Rows.vecTellsSpec.pre6 enc Try.prog Try.f3 Rows.vecTellsRow.domain false) (Rows.vecTellsSpec.post enc Try.prog Try.f3 false true false false) := by
  refine returnsInHanded_of_change (C := Try.checked) own started (by kernel_rfl) Try.func3
    (ChangeSpec.witness6 (enc := enc) (C := Try.checked) false ⟨#[], #[.agg #[.int .u8 0, .int .u8 0, .int .u32 0, .int .u32 0, .int .u32 0, .int .u8 0], .slice none 0 0], []⟩ 8 (by kernel_rfl) (by kernel_rfl) (by kernel_rfl) (by kernel_rfl)) ?_
  intro W base args ds gs before hval0 hW hcnd _
  have hval : ∀ (j : Nat) t v, Try.f3.params[j]? = some t → args[j]? = some v → Value.okWide Try.prog W .any base t v := hval0
  have hW' := hW
  obtain ⟨p, q, hA0, hV, rfl, hfz, hnd⟩ := hW
  have hA : DataW.TrodAll enc Try.prog W 0 (fun _ => true) true Try.f3.params.toList args.toList ds p := hA0
  rw [Try.params3] at hA hval
  obtain ⟨v0, vs0, d0, ds0, p0, q0, hargs, rfl, rfl, h0, r0⟩ := trodAll_cons hA
  obtain ⟨v1, vs1, d1, ds1, p1, q1, rfl, rfl, rfl, h1, r1⟩ := trodAll_cons r0
  obtain ⟨rfl, rfl, rfl⟩ := trodAll_nil r1
  obtain rfl : args = #[v0, v1] := by cases args; simp_all
  obtain ⟨rfl, rfl⟩ := trodVars_none hV
  clear hA0 hval0
  have k0 := h0
  have lt0 : ∀ x ∈ p0, x.block < W.heap.size := by obtain ⟨m, hm⟩ := k0; exact DataW.trod_lt m _ _ _ hm
  obtain ⟨cs0, rfl, _⟩ := okWide_struct Try.underlying24 (hval 0 24 v0 rfl rfl)
  obtain ⟨O0, Wd0, Aa0, Bb0, Cc0, V0, ec0, x10, x20, x30, x40, x50, x60⟩ : ∃ O Wd A B C V : Nat, cs0.toList = [.int .u8 (O : Nat), .int .u8 (Wd : Nat), .int .u32 (A : Nat), .int .u32 (B : Nat), .int .u32 (C : Nat), .int .u8 (V : Nat)] ∧ O < 256 ∧ Wd < 256 ∧ A < 4294967296 ∧ B < 4294967296 ∧ C < 4294967296 ∧ V < 256 := by
    obtain ⟨fuel, hf⟩ := h0
    exact case_read (by simpa [Value.cells] using hf)
  obtain rfl : cs0 = #[.int .u8 (O0 : Nat), .int .u8 (Wd0 : Nat), .int .u32 (Aa0 : Nat), .int .u32 (Bb0 : Nat), .int .u32 (Cc0 : Nat), .int .u8 (V0 : Nat)] := Array.toList_inj.1 ec0
  have k1 := h1
  have lt1 : ∀ x ∈ p1, x.block < W.heap.size := by obtain ⟨m, hm⟩ := k1; exact DataW.trod_lt m _ _ _ hm
  obtain ⟨A1, len1, cap1, rfl⟩ := okWide_slice Try.underlying25 (hval 1 25 v1 rfl rfl)
  obtain ⟨l1, rfl, m1, t1⟩ : ∃ l : List Bool, l.length = len1 ∧ len1 ≤ maxLen ∧ Bls W W.heap.size A1 l := by
    obtain ⟨fuel, hf⟩ := h1
    exact bls_open (by simpa [Value.cells] using hf)
  refine (tells_walk O0 Wd0 Aa0 Bb0 Cc0 V0 A1 cap1 l1 x10 x20 x30 x40 x50 x60 m1 W (Lib.hid t1)).mono fun e W' ⟨he, hg⟩ => ?_
  subst he
  exact ⟨_, rfl, _, _, _, [], _, [], hW', trodAll_mk1 (shut_bool Try.underlying4 _), (trodAll_cons_mk (Below.trod laidOut (by kernel_rfl) (of_decide_eq_true (by kernel_rfl)) k0 hg lt0) (trodAll_cons_mk (Below.trod laidOut (by kernel_rfl) (of_decide_eq_true (by kernel_rfl)) k1 hg lt1) trodAll_mk0)), rfl, hg.frame _, fun h => by cases h⟩

theorem over : Rows.vecTellsRow.holds Try.pinned (OpenSpec.ofChange Rows.vecTellsSpec) :=
  OpenClaim.holds_of_wide 3 Try.f3 rfl rfl rfl rfl rfl rfl rfl ⟨rfl, rfl, rfl, rfl, rfl⟩ rfl rfl rfl rfl rfl (by kernel_rfl) Try.func3 (by kernel_rfl)
    (of_decide_eq_true (by kernel_rfl)) (by unfold Func.isWrapper; first | (rw [if_pos (by decide +kernel)]; kernel_rfl) | (rw [if_neg (by decide +kernel)]; exact ⟨rfl, rfl⟩))
    (fun os started H enc _ => lifted os started H enc)

theorem proved : Rows.VecTellsSaid :=
  over
end Go.Proofs.Ytfnamjnggmndmaa.vecTells
namespace Go.Proofs.Ytfnamjnggmndmaa
theorem vecTells_holds : Rows.VecTellsSaid := vecTells.proved
end Go.Proofs.Ytfnamjnggmndmaa
