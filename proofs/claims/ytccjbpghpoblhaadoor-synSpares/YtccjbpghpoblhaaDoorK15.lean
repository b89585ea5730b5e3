/-
  caught, WALKED: a fault that gives up is recovered.
-/
import Derived.Test.YtccjbpghpoblhaaDoorK05
import Derived.Defers
import Derived.Recover
import Derived.Laws.Pointers
namespace Go.Proofs.YtccjbpghpoblhaaDoor
open Go.RowKit

theorem assert_fault (x : Value) (w : World) : (Instr.typeAssert (.iface 89 x) 20 89 true).run Tryd.prog w = .ok (.tuple #[x, .bool true]) w := by
  simp [Instr.typeAssert, run_underlying Tryd.underlying89, go_sem, Result.andThen]

set_option maxRecDepth 100000 in
set_option maxHeartbeats 1000000 in
theorem catch_panicking (gf gg : Nat) (a b : Value) (g : Value) (er k : Nat) (w : World) (hf : w.heap[gf]? = some (.cells #[a, b] 89 (0, 0))) (hg : w.heap[gg]? = some (.cells #[g] 4 (0, 0))) :
    CallsD Tryd.prog 51 #[.pointer (some ⟨gf, 0, none⟩), .pointer (some ⟨gg, 0, none⟩)] (.panicking [{ v := faultV er k, recovered := false }]) w fun e u' w' =>
      e = .returned (.tuple #[]) ∧ u' = .panicking [{ v := faultV er k, recovered := true }] ∧
      w' = (((w.setCell ⟨gf, 0, none⟩ (.int .i64 (er : Nat))).setCell ⟨gf, 1, none⟩ (.int .i64 (k : Nat))).setCell ⟨gg, 0, none⟩ (.bool true)).alloc (.cells #[.int .i64 (er : Nat), .int .i64 (k : Nat)] 89) := by
  refine callsD_of_wpS Tryd.func51 rfl fun c₀ cs hu => ?_
  have c0 := cell_at (o := 0) hf
  have c1 := cell_at (o := 1) hf
  have c2 := cell_at (o := 0) hg
  have z0 := frozen_at (o := 0) hf
  have z1 := frozen_at (o := 1) hf
  have z2 := frozen_at (o := 0) hg
  have n0 : ¬ gf = gg := by
    intro e; subst e; rw [hf] at hg; injection hg with hg; injection hg with _ hg; cases hg
  have n1 : ¬ gg = gf := fun e => n0 e.symm
  have l0 := heap_lt hf
  have l1 := heap_lt hg
  clear hf hg
  have hta : ∀ w, (Instr.typeAssert (faultV er k) 20 89 true).run Tryd.prog w = .ok (.tuple #[.agg #[.int .i64 (er : Nat), .int .i64 (k : Nat)], .bool true]) w := fun w => assert_fault _ w
  apply wpS_seq
  apply wpS_region
  simp [wpOpsS, go_sem, recoverD, hu, Tryd.ntmps51, Exit.thenS]
  refine wpS_of_wp ?_
  go_wp2
  exact ⟨rfl, _, rfl, _, results_none rfl _ _ _, rfl, rfl, rfl⟩

set_option maxRecDepth 100000 in
set_option maxHeartbeats 1000000 in
theorem catch_idle (gf gg : Nat) (w : World) :
    CallsD Tryd.prog 51 #[.pointer (some ⟨gf, 0, none⟩), .pointer (some ⟨gg, 0, none⟩)] .returning w fun e u' w' => e = .returned (.tuple #[]) ∧ u' = .returning ∧ w' = w := by
  refine callsD_of_wpS Tryd.func51 rfl fun c₀ cs hu => ?_
  apply wpS_seq
  apply wpS_region
  simp [wpOpsS, go_sem, recoverD, hu, Tryd.ntmps51, Exit.thenS]
  refine wpS_of_wp ?_
  go_wp2
  cases c₀
  simp only at hu
  subst hu
  exact ⟨rfl, _, rfl, _, results_none rfl _ _ _, rfl, rfl, rfl⟩

/-- what a function value leaves that may give up: A behind a return, B behind a fault; the blocks gf and gg stay -/
def Tries (w : World) (A : World → Prop) (B : Nat → Nat → World → Prop) (e : Ending) (w' : World) : Prop :=
  w'.heap[w.heap.size]? = some (.cells #[.int .i64 0, .int .i64 0] 89 (0, 0)) ∧ w'.heap[w.heap.size + 1]? = some (.cells #[.bool false] 4 (0, 0)) ∧
  ((e = .returned (.tuple #[]) ∧ A w') ∨ ∃ er k, e = panicV er k ∧ B er k w')
def Caught (w : World) (A : World → Prop) (B : Nat → Nat → World → Prop) (e : Ending) (w' : World) : Prop :=
  (e = .returned (.tuple #[.agg #[.int .i64 0, .int .i64 0], .bool false]) ∧ A w') ∨
  ∃ er k w2, e = .returned (.tuple #[.agg #[.int .i64 (er : Nat), .int .i64 (k : Nat)], .bool true]) ∧ B er k w2 ∧
    w' = (((w2.setCell ⟨w.heap.size, 0, none⟩ (.int .i64 (er : Nat))).setCell ⟨w.heap.size, 1, none⟩ (.int .i64 (k : Nat))).setCell ⟨w.heap.size + 1, 0, none⟩ (.bool true)).alloc (.cells #[.int .i64 (er : Nat), .int .i64 (k : Nat)] 89)

set_option maxRecDepth 100000 in
set_option maxHeartbeats 1000000 in
theorem caught_any (K : FuncId) (x y : Value) (A : World → Prop) (B : Nat → Nat → World → Prop) (w : World) (hcf : ∀ w, (callFunc K #[x, y]).run Tryd.prog w = .ok (.enter K #[x, y]) w)
    (hr : Hid (Calls Tryd.prog K #[x, y] ((w.alloc (.cells #[.int .i64 0, .int .i64 0] 89)).alloc (.cells #[.bool false] 4)) (Tries w A B))) :
    Calls Tryd.prog 36 #[.func (.func K) #[] #[x, y]] w (Caught w A B) := by
  have hmf : ∀ (fn : Fn) (first cap : Array Value) (w : World), (Instr.makeFunc fn first cap).run Tryd.prog w = .ok (.func fn first cap) w := fun _ _ _ _ => rfl
  go_enter_defers Tryd.func36, Tryd.ntmps36
  go_wp2_with fail
  refine hr.out.mono ?_
  rintro e w1 ⟨h1, h2, h | h⟩
  · obtain ⟨rfl, hA⟩ := h
    have HA := Lib.hid hA
    have c0 := cell_at (o := 0) h1
    have c1 := cell_at (o := 1) h1
    have c2 := cell_at (o := 0) h2
    clear hA h1 h2
    go_wp2_with fail
    refine leaves_cons (f := 51) (args := #[.pointer (some ⟨w.heap.size, 0, none⟩), .pointer (some ⟨w.heap.size + 1, 0, none⟩)]) (by simp) (by simp [go_sem]) ?_
    refine (catch_idle w.heap.size (w.heap.size + 1) w1).mono ?_
    rintro e u' w2 ⟨rfl, rfl, rfl⟩
    simp [Leaves, settle, results, Tryd.results36, go_sem, c0, c1, c2]
    exact .inl ⟨rfl, HA.out⟩
  · obtain ⟨er, k, rfl, hB⟩ := h
    have HB := Lib.hid hB
    have H1 := Lib.hid h1
    have H2 := Lib.hid h2
    have c0 := cell_at (o := 0) h1
    have c1 := cell_at (o := 1) h1
    have c2 := cell_at (o := 0) h2
    have l0 := heap_lt h1
    have l1 := heap_lt h2
    clear hB h1 h2
    go_wp2_with fail
    refine leaves_cons (f := 51) (args := #[.pointer (some ⟨w.heap.size, 0, none⟩), .pointer (some ⟨w.heap.size + 1, 0, none⟩)]) (by simp) (by simp [go_sem]) ?_
    refine (catch_panicking w.heap.size (w.heap.size + 1) _ _ _ er k w1 H1.out H2.out).mono ?_
    rintro e u' w2 ⟨rfl, rfl, rfl⟩
    simp [Leaves, settle, results, Tryd.results36, go_sem, c0, c1, c2, l0, l1]
    exact .inr ⟨er, k, w1, rfl, HB.out, rfl⟩

end Go.Proofs.YtccjbpghpoblhaaDoor

