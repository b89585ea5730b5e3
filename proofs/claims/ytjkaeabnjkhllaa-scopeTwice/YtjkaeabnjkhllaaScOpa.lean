/-
  TWO NUMBERS OF EIGHT BITS THAT CAME IN.
-/
import Derived.Test.YtjkaeabnjkhllaaScOpn
namespace Go.Proofs.Ytjkaeabnjkhllaa
open Go.RowKit Go.Deep

theorem u8_nat {a : Int} (h : (Lit.int .u8 a).wf = true) : ∃ n : Nat, a = (n : Nat) ∧ n < 256 := by
  simp [Lit.wf, IntKind.min, IntKind.max, IntKind.signed, IntKind.bits] at h
  exact ⟨a.toNat, by omega, by omega⟩
theorem cells57 : Try.prog.cellsOf 57 = 2 := by kernel_rfl
theorem cells5 : Try.prog.cellsOf 5 = 1 := by kernel_rfl
theorem wide_arr {P : Program} {w : World} {r : Reach} {b0 t n : Nat} {e : TypeId} {v : Value} (ht : P.underlying t = some (.array n e)) (h : Value.okWide P w r b0 t v) : ∃ cs, v = .agg cs := by
  simp only [Value.okWide, ht] at h
  obtain ⟨cs, q, _⟩ := h
  exact ⟨cs, q⟩
set_option maxRecDepth 100000 in
theorem arr_wide {w : World} {b0 : Nat} {v : Value} (h : Value.okWide Try.prog w .any b0 57 v) : ∃ cs, v = .agg cs := wide_arr Try.underlying57 h
section
variable {H : Type} {enc : TypeId × Value → H} {w : World} {held : Bool}
set_option maxRecDepth 100000 in
theorem a2_read {fuel : Nat} {cs : List Value} {x : DataW H × List MemPlace} (h : DataW.trod enc Try.prog w 0 (fun _ => true) held fuel 57 cs = some x) : ∃ a b : Nat, cs = [.int .u8 (a : Nat), .int .u8 (b : Nat)] ∧ a < 256 ∧ b < 256 := by
  obtain ⟨xs, m, _, _, hcl, hxl, hf⟩ := DataW.trod_array Try.underlying57 h
  rw [cells57] at hcl
  match cs, hcl, xs, hxl with
  | [c0, c1], _, [y0, y1], _ =>
    have f0 : DataW.trod enc Try.prog w 0 (fun _ => true) held m 5 (([c0, c1].drop (0 * Try.prog.cellsOf 5)).take (Try.prog.cellsOf 5)) = some y0 := hf 0 (by decide)
    have f1 : DataW.trod enc Try.prog w 0 (fun _ => true) held m 5 (([c0, c1].drop (1 * Try.prog.cellsOf 5)).take (Try.prog.cellsOf 5)) = some y1 := hf 1 (by decide)
    rw [cells5] at f0 f1
    obtain ⟨a0, e0, _, w0⟩ := DataW.trod_int Try.underlying5 f0
    obtain ⟨a1, e1, _, w1⟩ := DataW.trod_int Try.underlying5 f1
    obtain ⟨n0, rfl, b0⟩ := u8_nat w0
    obtain ⟨n1, rfl, b1⟩ := u8_nat w1
    simp at e0 e1
    subst e0 e1
    exact ⟨n0, n1, rfl, b0, b1⟩
end
end Go.Proofs.Ytjkaeabnjkhllaa
