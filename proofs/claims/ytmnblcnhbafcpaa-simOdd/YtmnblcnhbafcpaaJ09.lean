/-
  THE TABLE OF RULES: made, and asked.
-/
import Derived.Test.YtmnblcnhbafcpaaJ08
import Derived.Test.YtmnblcnhbafcpaaJ02
import Derived.Test.YtmnblcnhbafcpaaJ05
/-
  A NODE: right, WALKED.
-/
namespace Go.Proofs.Ytmnblcnhbafcpaa
open Go.RowKit
open NetM

end Go.Proofs.Ytmnblcnhbafcpaa

namespace Go.Proofs.Ytmnblcnhbafcpaa
open Go.RowKit
open NetM

/-- a rule -/
abbrev ruV (k : Nat) (n lo : Bool) (f : Nat) : Value := .agg #[.int .i64 (k : Nat), .bool n, .bool lo, .func (.func f) #[] #[]]
abbrev ruE (op : Int) (k : Nat) (n lo : Bool) (f c : Nat) : MapEntry := ⟨.int .i64 op, ruV k n lo f, c⟩
def esR : Array MapEntry := #[ruE 1 0 true false 56 0, ruE 3 1 false false 57 1, ruE 4 1 false true 58 2, ruE 5 1 false true 58 3, ruE 6 2 false false 57 4, ruE 7 2 false false 57 5, ruE 8 2 false false 57 6, ruE 9 2 false false 57 7, ruE 10 2 false false 57 8, ruE 11 2 false false 57 9,
  ruE 12 2 false true 58 10, ruE 13 2 false true 58 11, ruE 14 2 false true 58 12, ruE 15 2 false true 58 13, ruE 16 3 false false 59 14, ruE 17 2 false false 60 15, ruE 18 1 true true 61 16, ruE 21 0 false false 62 17, ruE 22 0 false false 62 18]
theorem look_any {T E : TypeId} (hT : Try.prog.underlying T = some (.map 3 E)) {z : Value} (hz : ∀ w, (zeroValue E).run Try.prog w = .ok z w) (w : World) (g : Nat) (es : Array MapEntry) (clock : Nat) (hb : w.heap[g]? = some (.map es clock)) (k : Int) (r : Option (Nat × Value)) (hf : Instr.findNow (.int .i64) (.int .i64 k) es.toList 0 = some r) :
    (Instr.lookup T (.map (some g)) (.int .i64 k) true).run Try.prog w = .ok (.tuple #[(r.map (·.2)).getD z, .bool r.isSome]) w := by
  have hg : (getObj g).run Try.prog w = .ok (.map es clock) w := by
    unfold getObj Sem.run
    simp only [hb]
    rfl
  have hk : ∀ b m W, (Instr.checkKey b (m + 1) 3 (.int .i64 k)).run Try.prog W = .ok () W := fun b m W => by
    simp [Instr.checkKey, run_underlying Try.underlying3]
  have hk' : ∀ b W, (Instr.checkKey b 10000 3 (.int .i64 k)).run Try.prog W = .ok () W := fun b W => hk b 9999 W
  have hfk : (Instr.findKey 3 (.int .i64 k) es.toList).run Try.prog w = .ok r w := by
    unfold Instr.findKey
    simp only [Sem.run_bind, run_underlying Try.underlying3, Result.andThen_ok]
    rw [hf]
    rfl
  unfold Instr.lookup
  simp only [Sem.run_bind, run_underlying hT, Result.andThen_ok]
  rw [hg]
  simp only [Result.andThen_ok, Sem.run_bind, Sem.run_pure, hk', hfk]
  rcases r with _ | ⟨j, v⟩
  · simp only [Sem.run_bind, hz, Result.andThen_ok, Sem.run_pure]
    rfl
  · simp only [Sem.run_bind, Result.andThen_ok, Sem.run_pure]
    rfl
def ruO (r : Option (Nat × Bool × Bool × Nat)) : Option Value := r.map fun (k, n, lo, f) => ruV k n lo f
theorem find_skip {op key : Int} (h : op ≠ key) (v : Value) (c : Nat) (es : List MapEntry) (i : Nat) : Instr.findNow (.int .i64) (.int .i64 op) (⟨.int .i64 key, v, c⟩ :: es) i = Instr.findNow (.int .i64) (.int .i64 op) es (i + 1) := by
  have e : Instr.sameNow (.int .i64) (.int .i64 op) (.int .i64 key) = some false := by simp [Instr.sameNow, h]
  simp [Instr.findNow, e]
theorem find_rule (op : Int) : ∃ r, Instr.findNow (.int .i64) (.int .i64 op) esR.toList 0 = some r ∧ r.map (·.2) = ruO (ruleOf op) := by
  by_cases h : op = 1 ∨ op = 3 ∨ op = 4 ∨ op = 5 ∨ op = 6 ∨ op = 7 ∨ op = 8 ∨ op = 9 ∨ op = 10 ∨ op = 11 ∨ op = 12 ∨ op = 13 ∨ op = 14 ∨ op = 15 ∨ op = 16 ∨ op = 17 ∨ op = 18 ∨ op = 21 ∨ op = 22
  · rcases h with rfl | rfl | rfl | rfl | rfl | rfl | rfl | rfl | rfl | rfl | rfl | rfl | rfl | rfl | rfl | rfl | rfl | rfl | rfl
    all_goals exact ⟨_, rfl, rfl⟩
  · have hr : ruleOf op = none := by
      unfold ruleOf
      repeat rw [if_neg (by omega)]
    refine ⟨none, ?_, by rw [hr]; rfl⟩
    show Instr.findNow _ _ (_ :: _) 0 = _
    repeat rw [find_skip (by omega)]
    rfl
end Go.Proofs.Ytmnblcnhbafcpaa
