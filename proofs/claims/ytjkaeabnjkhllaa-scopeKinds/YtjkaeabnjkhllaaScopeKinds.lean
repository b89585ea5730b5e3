/-
  ScopeKinds IS PROVED: the law ScopeKinds over a module and a name returns true. No condition.
-/
import Derived.Test.YtjkaeabnjkhllaaScKin
import Derived.Test.YtjkaeabnjkhllaaScOpn
import Derived.HandedShaped
import Derived.Shelf.Vars
namespace Go.Proofs.Ytjkaeabnjkhllaa.scopeKinds
open Go.ChangeShapes Go.WideShapes Go.ChangeAt Go.RowKit
open Go.ChangeMaps (open_string shut_string)

set_option maxRecDepth 100000 in
theorem lifted (os : Os) (started : os.Started) (H : Type) (enc : TypeId × Value → H) :
    ReturnsInHanded {} Try.checked os 4 .any (Rows.scopeKindsSpec.pre6 enc Try.prog Try.f4 Rows.scopeKindsRow.domain false) (Rows.scopeKindsSpec.post enc Try.prog Try.f4 false true false false) := by
  refine returnsInHanded_of_change_shaped (C := Try.checked) own started (by kernel_rfl) Try.func4
    (ChangeSpec.witness6 (enc := enc) (C := Try.checked) false ⟨#[], #[.agg #[.string ByteArray.empty, .slice none 0 0, .slice none 0 0, .slice none 0 0], .string ByteArray.empty], []⟩ 8 (by kernel_rfl) (by kernel_rfl) (by kernel_rfl) (by kernel_rfl)) ?_
  intro W base args ds gs before hval0 hW hcnd hwt hsh _
  have hml : ∃ m : Int, W.cell? ⟨0, 0, none⟩ = some (.int .i64 m) := cell_of_shapedOpen_int (P := Try.prog) (g := 0) (t := 3) (zero := #[.int .i64 0]) hsh (of_decide_eq_true (by kernel_rfl)) (by kernel_rfl) rfl (by kernel_rfl) (by kernel_rfl) Try.underlying3
  have hval : ∀ (j : Nat) t v, Try.f4.params[j]? = some t → args[j]? = some v → Value.okWide Try.prog W .any base t v := hval0
  have hW' := hW
  obtain ⟨p, q, hA0, hV, rfl, hfz, hnd⟩ := hW
  have hA : DataW.TrodAll enc Try.prog W 0 (fun _ => true) true Try.f4.params.toList args.toList ds p := hA0
  rw [Try.params4] at hA hval
  obtain ⟨v0, vs0, d0, ds0, p0, q0, hargs, rfl, rfl, h0, r0⟩ := trodAll_cons hA
  obtain ⟨v1, vs1, d1, ds1, p1, q1, rfl, rfl, rfl, h1, r1⟩ := trodAll_cons r0
  obtain ⟨rfl, rfl, rfl⟩ := trodAll_nil r1
  obtain rfl : args = #[v0, v1] := by cases args; simp_all
  obtain ⟨rfl, rfl⟩ := trodVars_none hV
  clear hA0 hval0
  have k0 := h0
  have lt0 : ∀ x ∈ p0, x.block < W.heap.size := by obtain ⟨m, hm⟩ := k0; exact DataW.trod_lt m _ _ _ hm
  have ok0 : OkD W 34 (d0, p0) := ⟨fun b o hb => hfz b o (by simp only [List.append_nil, List.mem_append] at *; simp [hb]), fun q hq => by
    have h9 := List.all_eq_true.1 hwt q (by rw [Try.params4]; exact weights_each _ _ 0 34 d0 rfl rfl q hq)
    simpa using h9⟩
  obtain ⟨cs0, rfl, _⟩ := okWide_struct Try.underlying34 (hval 0 34 v0 rfl rfl)
  obtain ⟨mo0, pA0, pC0, qA0, qC0, iA0, iC0, ec0, ma0, ms0⟩ : ∃ (m : Mo) (pA : Option Addr) (pC : Nat) (qA : Option Addr) (qC : Nat) (iA : Option Addr) (iC : Nat), cs0.toList = [.string m.name, .slice pA m.params.length pC, .slice qA m.ports.length qC, .slice iA m.items.length iC] ∧ MoAt W m [.string m.name, .slice pA m.params.length pC, .slice qA m.ports.length qC, .slice iA m.items.length iC] ∧ MoStr m := by
    obtain ⟨fuel, hf⟩ := h0
    obtain ⟨m, h1, h2⟩ := mod_read (by simpa [Value.cells] using hf) ok0
    obtain ⟨pA, pC, qA, qC, iA, iC, e, h3⟩ := mo_form h1
    exact ⟨m, pA, pC, qA, qC, iA, iC, e, h3, h2⟩
  obtain rfl : cs0 = #[.string mo0.name, .slice pA0 mo0.params.length pC0, .slice qA0 mo0.ports.length qC0, .slice iA0 mo0.items.length iC0] := Array.toList_inj.1 ec0
  have k1 := h1
  have lt1 : ∀ x ∈ p1, x.block < W.heap.size := by obtain ⟨m, hm⟩ := k1; exact DataW.trod_lt m _ _ _ hm
  obtain ⟨s1, rfl, _, _, hs1⟩ := open_string Try.underlying9 (hval 1 9 v1 rfl rfl) h1
  refine (kinds_law mo0 pA0 qA0 iA0 pC0 qC0 iC0 s1 W hs1 (Lib.hid ms0) (Lib.hid ma0) (Lib.hid hml)).mono fun e W' ⟨he, hg0⟩ => ?_
  have hg := bel_of hg0
  subst he
  exact ⟨_, rfl, _, _, _, [], _, [], hW', trodAll_mk1 (shut_bool Try.underlying4 _), (trodAll_cons_mk (Below.trod laidOut (by kernel_rfl) (of_decide_eq_true (by kernel_rfl)) k0 hg lt0) (trodAll_cons_mk (Below.trod laidOut (by kernel_rfl) (of_decide_eq_true (by kernel_rfl)) k1 hg lt1) trodAll_mk0)), rfl, hg.frame _, fun h => by cases h⟩

theorem over : Rows.scopeKindsRow.holds Try.pinned (OpenSpec.ofChange Rows.scopeKindsSpec) :=
  OpenClaim.holds_of_wide 4 Try.f4 rfl rfl rfl rfl rfl rfl rfl ⟨rfl, rfl, rfl, rfl, rfl⟩ rfl rfl rfl rfl rfl (by kernel_rfl) Try.func4 (by kernel_rfl)
    (of_decide_eq_true (by kernel_rfl)) (by unfold Func.isWrapper; first | (rw [if_pos (by decide +kernel)]; kernel_rfl) | (rw [if_neg (by decide +kernel)]; exact ⟨rfl, rfl⟩))
    (fun os started H enc _ => lifted os started H enc)

theorem proved : Rows.ScopeKindsSaid :=
  over
end Go.Proofs.Ytjkaeabnjkhllaa.scopeKinds
namespace Go.Proofs.Ytjkaeabnjkhllaa
theorem scopeKinds_holds : Rows.ScopeKindsSaid := scopeKinds.proved
end Go.Proofs.Ytjkaeabnjkhllaa
