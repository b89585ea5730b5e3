/-
  A CASE THAT CAME IN.
-/
import Derived.Test.YtfnamjnggmndmaaVOpn
namespace Go.Proofs.Ytfnamjnggmndmaa
open Go.RowKit Go.Deep

theorem cells24 : Try.prog.cellsOf 24 = 6 := by kernel_rfl
theorem cells5 : Try.prog.cellsOf 5 = 1 := by kernel_rfl
theorem cells22 : Try.prog.cellsOf 22 = 1 := by kernel_rfl
section
variable {H : Type} {enc : TypeId × Value → H} {w : World} {base : Nat} {spare : Nat → Bool} {held : Bool}
theorem case_read {fuel : Nat} {cs : List Value} {x : DataW H × List MemPlace} (h : DataW.trod enc Try.prog w base spare held fuel 24 cs = some x) :
    ∃ O Wd A B C V : Nat, cs = [.int .u8 (O : Nat), .int .u8 (Wd : Nat), .int .u32 (A : Nat), .int .u32 (B : Nat), .int .u32 (C : Nat), .int .u8 (V : Nat)] ∧ O < 256 ∧ Wd < 256 ∧ A < 4294967296 ∧ B < 4294967296 ∧ C < 4294967296 ∧ V < 256 := by
  obtain ⟨xs, n, _, hx, hcl, hxl, hf⟩ := DataW.trod_struct Try.underlying24 h
  rw [cells24] at hcl
  match cs, hcl with
  | [c0, c1, c2, c3, c4, c5], _ =>
    match xs, hxl with
    | [y0, y1, y2, y3, y4, y5], _ =>
      have f0 : DataW.trod enc Try.prog w base spare held n 5 (([c0, c1, c2, c3, c4, c5].drop 0).take (Try.prog.cellsOf 5)) = some y0 := hf 0 _ rfl
      have f1 : DataW.trod enc Try.prog w base spare held n 5 (([c0, c1, c2, c3, c4, c5].drop 1).take (Try.prog.cellsOf 5)) = some y1 := hf 1 _ rfl
      have f2 : DataW.trod enc Try.prog w base spare held n 22 (([c0, c1, c2, c3, c4, c5].drop 2).take (Try.prog.cellsOf 22)) = some y2 := hf 2 _ rfl
      have f3 : DataW.trod enc Try.prog w base spare held n 22 (([c0, c1, c2, c3, c4, c5].drop 3).take (Try.prog.cellsOf 22)) = some y3 := hf 3 _ rfl
      have f4 : DataW.trod enc Try.prog w base spare held n 22 (([c0, c1, c2, c3, c4, c5].drop 4).take (Try.prog.cellsOf 22)) = some y4 := hf 4 _ rfl
      have f5 : DataW.trod enc Try.prog w base spare held n 5 (([c0, c1, c2, c3, c4, c5].drop 5).take (Try.prog.cellsOf 5)) = some y5 := hf 5 _ rfl
      rw [cells5] at f0 f1 f5
      rw [cells22] at f2 f3 f4
      obtain ⟨a0, e0, _, w0⟩ := DataW.trod_int Try.underlying5 f0
      obtain ⟨a1, e1, _, w1⟩ := DataW.trod_int Try.underlying5 f1
      obtain ⟨a2, e2, _, w2⟩ := DataW.trod_int Try.underlying22 f2
      obtain ⟨a3, e3, _, w3⟩ := DataW.trod_int Try.underlying22 f3
      obtain ⟨a4, e4, _, w4⟩ := DataW.trod_int Try.underlying22 f4
      obtain ⟨a5, e5, _, w5⟩ := DataW.trod_int Try.underlying5 f5
      obtain ⟨n0, rfl, b0⟩ := u8_nat w0
      obtain ⟨n1, rfl, b1⟩ := u8_nat w1
      obtain ⟨n2, rfl, b2⟩ := u32_nat w2
      obtain ⟨n3, rfl, b3⟩ := u32_nat w3
      obtain ⟨n4, rfl, b4⟩ := u32_nat w4
      obtain ⟨n5, rfl, b5⟩ := u8_nat w5
      refine ⟨n0, n1, n2, n3, n4, n5, ?_, b0, b1, b2, b3, b4, b5⟩
      simp at e0 e1 e2 e3 e4 e5
      subst e0 e1 e2 e3 e4 e5
      rfl
end
end Go.Proofs.Ytfnamjnggmndmaa
