/-
  The builtin max of two ints, as a law of its own.
-/
import Derived.Test.YtjkaeabnjkhllaaScMem
namespace Go.Proofs.Ytjkaeabnjkhllaa
open Go.RowKit
theorem run_max {op : Oper} {a : Act} (x y : Operand) (ats : Array TypeId) (ho : op.op = .call { callee := .builtin .max, args := #[x, y], argTypes := ats }) (m n : Int) (hx : a.eval x = .int .i64 m) (hy : a.eval y = .int .i64 n) :
    execOp a.eval op = pure (.value (.int .i64 (if n > m then n else m))) := by
  obtain ⟨dst, o, ty, pos, after, gd⟩ := op
  simp only at ho
  subst ho
  have e0 : execOp a.eval { dst := dst, op := .call { callee := .builtin .max, args := #[x, y], argTypes := ats }, type := ty, pos := pos, after := after, guard := gd } = (do pure (.value (← Builtin.max_ ats ty (#[x, y].map a.eval)))) := rfl
  rw [e0]
  have e : (#[x, y].map a.eval) = #[.int .i64 m, .int .i64 n] := by simp [hx, hy]
  rw [e]
  rfl
theorem wpList_max {P : Program} {ops : Array Oper} {rest : List Oper} {op : Oper} {a : Act} {w : World} {Q : Exit → Act → World → Prop} (hgd : op.guard = none) (x y : Operand) (ats : Array TypeId) (ho : op.op = .call { callee := .builtin .max, args := #[x, y], argTypes := ats }) (m n : Int) (hx : a.eval x = .int .i64 m) (hy : a.eval y = .int .i64 n) (k : Int) (hk : k = if n > m then n else m)
    (h : wpList P ops Q rest (a.put op.dst (.int .i64 k)) w) : wpList P ops Q (op :: rest) a w := by
  subst hk
  refine wpList_plain hgd fun _ hK => ?_
  unfold Oper.wp
  rw [run_max x y ats ho m n hx hy]
  exact hK _ _ h
theorem yieldsIf_max {P : Program} {ops : Array Oper} {S : World → Prop} {op : Oper} {a : Act} (hw : Region.wanted op (yielded ops a.tmps) = true) (x y : Operand) (ats : Array TypeId) (ho : op.op = .call { callee := .builtin .max, args := #[x, y], argTypes := ats }) (m n : Int) (hx : a.eval x = .int .i64 m) (hy : a.eval y = .int .i64 n) (k : Int) (hk : k = if n > m then n else m) : YieldsIf P ops S op (.int .i64 k) a :=
  .inl ⟨hw, fun w _ => by rw [run_max x y ats ho m n hx hy, hk]; rfl⟩
end Go.Proofs.Ytjkaeabnjkhllaa
