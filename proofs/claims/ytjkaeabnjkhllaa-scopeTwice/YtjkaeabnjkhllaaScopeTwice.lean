/-
  ScopeTwice IS PROVED: the law ScopeTwice over a design and three numbers returns true. No condition.
-/
import Derived.Test.YtjkaeabnjkhllaaScTwl
import Derived.Test.YtjkaeabnjkhllaaScOpa
import Derived.HandedShaped
import Derived.Shelf.Vars
namespace Go.Proofs.Ytjkaeabnjkhllaa.scopeTwice
open Go.ChangeShapes Go.WideShapes Go.ChangeAt Go.RowKit
open Go.ChangeMaps (open_string shut_string)

set_option maxRecDepth 100000 in
theorem lifted (os : Os) (started : os.Started) (H : Type) (enc : TypeId × Value → H) :
    ReturnsInHanded {} Try.checked os 10 .any (Rows.scopeTwiceSpec.pre6 enc Try.prog Try.f10 Rows.scopeTwiceRow.domain false) (Rows.scopeTwiceSpec.post enc Try.prog Try.f10 false true false false) := by
  refine returnsInHanded_of_change_shaped (C := Try.checked) own started (by kernel_rfl) Try.func10
    (ChangeSpec.witness6 (enc := enc) (C := Try.checked) false ⟨#[], #[.agg #[.slice none 0 0], .agg #[.int .u8 0, .int .u8 0], .int .u8 0], []⟩ 8 (by kernel_rfl) (by kernel_rfl) (by kernel_rfl) (by kernel_rfl)) ?_
  intro W base args ds gs before hval0 hW hcnd hwt hsh _
  have hml : ∃ m : Int, W.cell? ⟨0, 0, none⟩ = some (.int .i64 m) := cell_of_shapedOpen_int (P := Try.prog) (g := 0) (t := 3) (zero := #[.int .i64 0]) hsh (of_decide_eq_true (by kernel_rfl)) (by kernel_rfl) rfl (by kernel_rfl) (by kernel_rfl) Try.underlying3
  have hval : ∀ (j : Nat) t v, Try.f10.params[j]? = some t → args[j]? = some v → Value.okWide Try.prog W .any base t v := hval0
  have hW' := hW
  obtain ⟨p, q, hA0, hV, rfl, hfz, hnd⟩ := hW
  have hA : DataW.TrodAll enc Try.prog W 0 (fun _ => true) true Try.f10.params.toList args.toList ds p := hA0
  rw [Try.params10] at hA hval
  obtain ⟨v0, vs0, d0, ds0, p0, q0, hargs, rfl, rfl, h0, r0⟩ := trodAll_cons hA
  obtain ⟨v1, vs1, d1, ds1, p1, q1, rfl, rfl, rfl, h1, r1⟩ := trodAll_cons r0
  obtain ⟨v2, vs2, d2, ds2, p2, q2, rfl, rfl, rfl, h2, r2⟩ := trodAll_cons r1
  obtain ⟨rfl, rfl, rfl⟩ := trodAll_nil r2
  obtain rfl : args = #[v0, v1, v2] := by cases args; simp_all
  obtain ⟨rfl, rfl⟩ := trodVars_none hV
  clear hA0 hval0
  have k0 := h0
  have lt0 : ∀ x ∈ p0, x.block < W.heap.size := by obtain ⟨m, hm⟩ := k0; exact DataW.trod_lt m _ _ _ hm
  have ok0 : OkD W 24 (d0, p0) := ⟨fun b o hb => hfz b o (by simp [hb]), fun q hq => by
    have h9 := List.all_eq_true.1 hwt q (by rw [Try.params10]; exact weights_each _ _ 0 24 d0 rfl rfl q hq)
    simpa using h9⟩
  obtain ⟨cs0, rfl, _⟩ := okWide_struct Try.underlying24 (hval 0 24 v0 rfl rfl)
  obtain ⟨mods0, mA0, mC0, ec0, ma0, ms0⟩ : ∃ (ms : List Mo) (A : Option Addr) (c : Nat), cs0.toList = [.slice A ms.length c] ∧ ModsAt W ms (.slice A ms.length c) ∧ ∀ m ∈ ms, MoStr m := by
    obtain ⟨fuel, hf⟩ := h0
    exact des_read (by simpa [Value.cells] using hf) ok0
  obtain rfl : cs0 = #[.slice mA0 mods0.length mC0] := Array.toList_inj.1 ec0
  have k1 := h1
  have lt1 : ∀ x ∈ p1, x.block < W.heap.size := by obtain ⟨m, hm⟩ := k1; exact DataW.trod_lt m _ _ _ hm
  obtain ⟨cs1, rfl⟩ := arr_wide (hval 1 57 v1 rfl rfl)
  obtain ⟨x1, z1, ec1, bx1, bz1⟩ : ∃ a b : Nat, cs1.toList = [.int .u8 (a : Nat), .int .u8 (b : Nat)] ∧ a < 256 ∧ b < 256 := by
    obtain ⟨fuel, hf⟩ := h1
    exact a2_read (by simpa [Value.cells] using hf)
  obtain rfl : cs1 = #[.int .u8 (x1 : Nat), .int .u8 (z1 : Nat)] := Array.toList_inj.1 ec1
  have k2 := h2
  have lt2 : ∀ x ∈ p2, x.block < W.heap.size := by obtain ⟨m, hm⟩ := k2; exact DataW.trod_lt m _ _ _ hm
  obtain ⟨s2, rfl, _, _, w2⟩ := open_int Try.underlying5 (hval 2 5 v2 rfl rfl) h2
  obtain ⟨n2, rfl, b2⟩ := u8_nat w2
  refine (twice_law mods0 mA0 mC0 x1 z1 n2 W bx1 bz1 b2 (Lib.hid ms0) (Lib.hid ma0) (Lib.hid hml)).mono fun e W' ⟨he, hg0⟩ => ?_
  have hg := bel_of hg0
  subst he
  exact ⟨_, rfl, _, _, _, [], _, [], hW', trodAll_mk1 (shut_bool Try.underlying4 _), (trodAll_cons_mk (Below.trod laidOut (by kernel_rfl) (of_decide_eq_true (by kernel_rfl)) k0 hg lt0) (trodAll_cons_mk (Below.trod laidOut (by kernel_rfl) (of_decide_eq_true (by kernel_rfl)) k1 hg lt1) (trodAll_cons_mk (Below.trod laidOut (by kernel_rfl) (of_decide_eq_true (by kernel_rfl)) k2 hg lt2) trodAll_mk0))), rfl, hg.frame _, fun h => by cases h⟩

theorem over : Rows.scopeTwiceRow.holds Try.pinned (OpenSpec.ofChange Rows.scopeTwiceSpec) :=
  OpenClaim.holds_of_wide 10 Try.f10 rfl rfl rfl rfl rfl rfl rfl ⟨rfl, rfl, rfl, rfl, rfl⟩ rfl rfl rfl rfl rfl (by kernel_rfl) Try.func10 (by kernel_rfl)
    (of_decide_eq_true (by kernel_rfl)) (by unfold Func.isWrapper; first | (rw [if_pos (by decide +kernel)]; kernel_rfl) | (rw [if_neg (by decide +kernel)]; exact ⟨rfl, rfl⟩))
    (fun os started H enc _ => lifted os started H enc)

theorem proved : Rows.ScopeTwiceSaid :=
  over
end Go.Proofs.Ytjkaeabnjkhllaa.scopeTwice
namespace Go.Proofs.Ytjkaeabnjkhllaa
theorem scopeTwice_holds : Rows.ScopeTwiceSaid := scopeTwice.proved
end Go.Proofs.Ytjkaeabnjkhllaa
