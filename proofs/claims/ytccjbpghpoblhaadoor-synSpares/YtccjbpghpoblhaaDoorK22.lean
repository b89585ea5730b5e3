/-
  newParser, WALKED.
-/
import Derived.Test.YtccjbpghpoblhaaDoorK21
/-
  itemRules, WALKED: the rules' map is made.
-/
namespace Go.Proofs.YtccjbpghpoblhaaDoor
open Go.RowKit

/-- a new key into a map of rules -/
theorem upd_any {W : World} {g : Nat} {es : Array MapEntry} {clock : Nat} (hb : W.heap[g]? = some (.map es clock)) (k : ByteArray) (v : Value) (hf : Instr.findNow .string (.string k) es.toList 0 = some none) :
    (Instr.mapUpdate 68 (.map (some g)) (.string k) v).run Tryd.prog W = (setObj g (.map (es.push ⟨.string k, v, clock⟩) (clock + 1))).run Tryd.prog W := by
  have hk : ∀ m, (Instr.checkKey false (m + 1) 9 (.string k)).run Tryd.prog W = .ok () W := fun m => by
    simp [Instr.checkKey, run_underlying Tryd.underlying9]
  have hk' : (Instr.checkKey false 10000 9 (.string k)).run Tryd.prog W = .ok () W := hk 9999
  have hg : (getObj g).run Tryd.prog W = .ok (.map es clock) W := by simp [getObj, Sem.run, hb]
  have hfk : (Instr.findKey 9 (.string k) es.toList).run Tryd.prog W = .ok none W := by
    unfold Instr.findKey
    simp only [Sem.run_bind, run_underlying Tryd.underlying9, Result.andThen_ok]
    rw [hf]
    rfl
  unfold Instr.mapUpdate
  simp only [Sem.run_bind, run_underlying Tryd.underlying68, Result.andThen_ok]
  rw [hg]
  simp only [Result.andThen_ok, Sem.run_bind, hk', hfk]
theorem set_new (w : World) (es : Array MapEntry) (clock : Nat) (o' : Obj) : (setObj w.heap.size o').run Tryd.prog (w.alloc (.map es clock)) = .ok () (w.alloc o') := by
  unfold setObj Sem.run
  simp only [World.alloc]
  rw [Array.getElem?_push_size]
  have : (w.heap.push (.map es clock)).setIfInBounds w.heap.size o' = w.heap.push o' := by
    apply Array.ext_getElem?
    intro j
    rw [Array.getElem?_setIfInBounds, Array.getElem?_push, Array.getElem?_push]
    by_cases hj : w.heap.size = j
    · subst hj; simp
    · rw [if_neg hj, if_neg (fun e => hj e.symm), if_neg (fun e => hj e.symm)]
  rw [this]
  rfl
theorem upd_new (w : World) (es : Array MapEntry) (clock : Nat) (k : ByteArray) (v : Value) (hf : Instr.findNow .string (.string k) es.toList 0 = some none) :
    (Instr.mapUpdate 68 (.map (some w.heap.size)) (.string k) v).run Tryd.prog (w.alloc (.map es clock)) = .ok () (w.alloc (.map (es.push ⟨.string k, v, clock⟩) (clock + 1))) := by
  rw [upd_any (heap_alloc_new w _) k v hf, set_new]

set_option maxRecDepth 100000 in
set_option maxHeartbeats 2000000 in
theorem itemRules_any (b : Nat) (w : World) :
    Calls Tryd.prog 35 #[.pointer (some ⟨b, 0, none⟩)] w fun e w' => e = .returned (.map (some w.heap.size)) ∧ ∃ es clock, w' = w.alloc (.map es clock) ∧ es.toList.map (fun e => (e.key, e.val)) = ruleTab.map fun t => (Value.string (str t.1), ruleV b t) := by
  have hmf : ∀ (fn : Fn) (first cap : Array Value) (w : World), (Instr.makeFunc fn first cap).run Tryd.prog w = .ok (.func fn first cap) w := fun _ _ _ _ => rfl
  have hmm := @run_makeMap Tryd.prog
  go_enter Tryd.func35, Tryd.ntmps35
  go_wp2_with (rw [upd_new _ _ _ _ _ (by rfl)])
  go_ret
  exact ⟨rfl, _, _, rfl, rfl⟩

end Go.Proofs.YtccjbpghpoblhaaDoor

namespace Go.Proofs.YtccjbpghpoblhaaDoor
open Go.RowKit
set_option maxRecDepth 100000 in
set_option maxHeartbeats 2000000 in
theorem newParser_any (A : Option Addr) (k cp sz : Nat) (w : World) :
    Calls Tryd.prog 21 #[.slice A k cp, .int .i64 (sz : Nat)] w fun e w' => ∃ (b : Nat) (es : Array MapEntry) (clock : Nat), e = .returned (.pointer (some ⟨b, 0, none⟩)) ∧ w.heap.size ≤ b ∧ (∀ (j : Nat) (o : Obj), w.heap[j]? = some o → w'.heap[j]? = some o) ∧ w'.heap[b]? = some (.cells #[.slice A k cp, .int .i64 (sz : Nat), .int .i64 0, .int .i64 0, .int .i64 0, .map (some (b + 1)), .slice none 0 0] 70 (0, 0)) ∧ w'.heap[b + 1]? = some (.map es clock) ∧ es.toList.map (fun e => (e.key, e.val)) = ruleTab.map fun t => (Value.string (str t.1), ruleV b t) := by
  go_enter Tryd.func21, Tryd.ntmps21
  go_wp2_with fail
  refine (itemRules_any w.heap.size _).mono ?_
  rintro e w2 ⟨rfl, es, clock, rfl, hes⟩
  have HES := Lib.hid hes
  clear hes
  go_wp2_with fail
  go_ret
  refine ⟨w.heap.size, es, clock, rfl, Nat.le_refl _, ?_, ?_, ?_, HES.out⟩
  · intro j o hj
    have hjl := heap_lt hj
    exact (Below.heap_alloc _ _ _ (by simp; omega)).trans ((Below.heap_alloc _ _ _ hjl).trans hj)
  · exact (Below.heap_alloc _ _ _ (by simp)).trans (new_at w _)
  · have := heap_alloc_new (w.alloc (.cells #[.slice A k cp, .int .i64 (sz : Nat), .int .i64 0, .int .i64 0, .int .i64 0, .map (some (w.heap.size + 1)), .slice none 0 0] 70)) (.map es clock)
    rw [show (w.alloc (.cells #[.slice A k cp, .int .i64 (sz : Nat), .int .i64 0, .int .i64 0, .int .i64 0, .map (some (w.heap.size + 1)), .slice none 0 0] 70)).heap.size = w.heap.size + 1 by simp] at this
    exact this
end Go.Proofs.YtccjbpghpoblhaaDoor

