/-
  kidsTaken, WALKED: how many kids each op takes, in a map.
-/
import Derived.Test.YtjkaeabnjkhllaaScMod
namespace Go.Proofs.Ytjkaeabnjkhllaa
open Go.RowKit

def kidTab : List (Int × Nat) := [(1, 0), (2, 0), (3, 1), (4, 1), (5, 1), (18, 1), (19, 1), (20, 1), (6, 2), (7, 2), (8, 2), (9, 2), (10, 2), (11, 2), (12, 2), (13, 2), (14, 2), (15, 2), (17, 2), (16, 3)]
def kidGet : List (Int × Nat) → Int → Option Nat
  | [], _ => none
  | t :: r, k => if k = t.1 then some t.2 else kidGet r k
theorem kidGet_takes (op : Int) : kidGet kidTab op = takes op := by
  by_cases h : 1 ≤ op ∧ op ≤ 20
  · have : op = 1 ∨ op = 2 ∨ op = 3 ∨ op = 4 ∨ op = 5 ∨ op = 6 ∨ op = 7 ∨ op = 8 ∨ op = 9 ∨ op = 10 ∨ op = 11 ∨ op = 12 ∨ op = 13 ∨ op = 14 ∨ op = 15 ∨ op = 16 ∨ op = 17 ∨ op = 18 ∨ op = 19 ∨ op = 20 := by omega
    rcases this with rfl | rfl | rfl | rfl | rfl | rfl | rfl | rfl | rfl | rfl | rfl | rfl | rfl | rfl | rfl | rfl | rfl | rfl | rfl | rfl <;> rfl
  · have hn : ∀ c : Int, 1 ≤ c ∧ c ≤ 20 → ¬ op = c := fun c hc e => h (e ▸ hc)
    have h1 : takes op = none := by
      unfold takes
      rw [if_neg (by omega), if_neg (by omega), if_neg (by omega), if_neg (by omega)]
    rw [h1]
    simp only [kidTab, kidGet]
    simp only [hn 1 (by omega), hn 2 (by omega), hn 3 (by omega), hn 4 (by omega), hn 5 (by omega), hn 6 (by omega), hn 7 (by omega), hn 8 (by omega), hn 9 (by omega), hn 10 (by omega), hn 11 (by omega), hn 12 (by omega), hn 13 (by omega), hn 14 (by omega), hn 15 (by omega), hn 16 (by omega), hn 17 (by omega), hn 18 (by omega), hn 19 (by omega), hn 20 (by omega), if_false]
theorem find_int (k : Int) : ∀ (tab : List (Int × Nat)) (es : List MapEntry) (i : Nat), ents es = tab.map (fun t => (Value.int .i64 t.1, Value.int .i64 (t.2 : Nat))) →
    ∃ r, Instr.findNow (.int .i64) (.int .i64 k) es i = some r ∧ r.map (·.2) = (kidGet tab k).map (fun n => Value.int .i64 (n : Nat))
  | [], [], i, _ => ⟨none, rfl, rfl⟩
  | [], _ :: _, _, h => by simp [ents] at h
  | _ :: _, [], _, h => by simp [ents] at h
  | t :: tab, e :: es, i, h => by
    simp only [ents, List.map_cons, List.cons.injEq, Prod.mk.injEq] at h
    obtain ⟨⟨h1, h2⟩, h3⟩ := h
    have hs : Instr.sameNow (.int .i64) (.int .i64 k) (.int .i64 t.1) = some (k == t.1) := by simp [Instr.sameNow]
    unfold Instr.findNow
    rw [h1, hs, kidGet]
    by_cases hk : k = t.1
    · exact ⟨some (i, e.val), by simp [hk], by simp [hk, h2]⟩
    · have e1 : (k == t.1) = false := by simpa using hk
      obtain ⟨r, a1, a2⟩ := find_int k tab es (i + 1) h3
      refine ⟨r, by rw [e1]; exact a1, ?_⟩
      rw [if_neg hk]
      exact a2
theorem takes_at {w : World} {b : Nat} {es : Array MapEntry} {cl : Nat} (hb : w.heap[b]? = some (.map es cl)) (he : ents es.toList = kidTab.map (fun t => (Value.int .i64 t.1, Value.int .i64 (t.2 : Nat)))) : TakesAt w b := by
  intro op u hu
  have hb' := hu.keep hb
  have hg : (getObj b).run Try.prog u = .ok (.map es cl) u := by simp [getObj, Sem.run, hb']
  have hk : ∀ m, (Instr.checkKey es.isEmpty (m + 1) 3 (.int .i64 op)).run Try.prog u = .ok () u := fun m => by
    simp [Instr.checkKey, run_underlying Try.underlying3]
  have hk' : (Instr.checkKey es.isEmpty 10000 3 (.int .i64 op)).run Try.prog u = .ok () u := hk 9999
  obtain ⟨r, a1, a2⟩ := find_int op kidTab es.toList 0 he
  have hfk : (Instr.findKey 3 (.int .i64 op) es.toList).run Try.prog u = .ok r u := by
    unfold Instr.findKey
    simp only [Sem.run_bind, run_underlying Try.underlying3, Result.andThen_ok]
    rw [a1]
    rfl
  rw [kidGet_takes] at a2
  unfold Instr.lookup
  simp only [Sem.run_bind, run_underlying Try.underlying68, Result.andThen_ok]
  rw [hg]
  simp only [Result.andThen_ok, Sem.run_bind, Sem.run_pure, hk', hfk]
  rcases r with _ | ⟨j, v⟩
  · have : takes op = none := by
      cases h : takes op with
      | none => rfl
      | some n => rw [h] at a2; cases a2
    rw [this]
    simp only [Result.andThen_ok, Sem.run_bind, Try.zeroValue3, Sem.run_pure]
    rfl
  · cases h : takes op with
    | none => rw [h] at a2; cases a2
    | some n =>
      rw [h] at a2
      have hv : v = .int .i64 (n : Nat) := Option.some.inj a2
      subst hv
      simp only [Result.andThen_ok, Sem.run_bind, Sem.run_pure]
      rfl
theorem upd_int {W : World} {g : Nat} {es : Array MapEntry} {clock : Nat} (hb : W.heap[g]? = some (.map es clock)) (k : Int) (v : Value) (hf : Instr.findNow (.int .i64) (.int .i64 k) es.toList 0 = some none) :
    (Instr.mapUpdate 68 (.map (some g)) (.int .i64 k) v).run Try.prog W = (setObj g (.map (es.push ⟨.int .i64 k, v, clock⟩) (clock + 1))).run Try.prog W := by
  have hk : ∀ m, (Instr.checkKey false (m + 1) 3 (.int .i64 k)).run Try.prog W = .ok () W := fun m => by
    simp [Instr.checkKey, run_underlying Try.underlying3]
  have hk' : (Instr.checkKey false 10000 3 (.int .i64 k)).run Try.prog W = .ok () W := hk 9999
  have hg : (getObj g).run Try.prog W = .ok (.map es clock) W := by simp [getObj, Sem.run, hb]
  have hfk : (Instr.findKey 3 (.int .i64 k) es.toList).run Try.prog W = .ok none W := by
    unfold Instr.findKey
    simp only [Sem.run_bind, run_underlying Try.underlying3, Result.andThen_ok]
    rw [hf]
    rfl
  unfold Instr.mapUpdate
  simp only [Sem.run_bind, run_underlying Try.underlying68, Result.andThen_ok]
  rw [hg]
  simp only [Result.andThen_ok, Sem.run_bind, hk', hfk]
theorem set_new (w : World) (es : Array MapEntry) (clock : Nat) (o' : Obj) : (setObj w.heap.size o').run Try.prog (w.alloc (.map es clock)) = .ok () (w.alloc o') := by
  unfold setObj Sem.run
  simp only [World.alloc]
  rw [Array.getElem?_push_size]
  have : (w.heap.push (.map es clock)).setIfInBounds w.heap.size o' = w.heap.push o' := by
    apply Array.ext_getElem?
    intro j
    rw [Array.getElem?_setIfInBounds, Array.getElem?_push, Array.getElem?_push]
    by_cases hj : w.heap.size = j
    · subst hj; simp
    · rw [if_neg hj, if_neg (fun e => hj e.symm), if_neg (fun e => hj e.symm)]
  rw [this]
  rfl
theorem upd_new (w : World) (es : Array MapEntry) (clock : Nat) (k : Int) (v : Value) (hf : Instr.findNow (.int .i64) (.int .i64 k) es.toList 0 = some none) :
    (Instr.mapUpdate 68 (.map (some w.heap.size)) (.int .i64 k) v).run Try.prog (w.alloc (.map es clock)) = .ok () (w.alloc (.map (es.push ⟨.int .i64 k, v, clock⟩) (clock + 1))) := by
  rw [upd_int (new_at w _) k v hf, set_new]
set_option maxRecDepth 100000 in
set_option maxHeartbeats 4000000 in
theorem kidsTaken_any (w : World) :
    Calls Try.prog 36 #[] w fun e w' => e = .returned (.map (some w.heap.size)) ∧ (∃ es cl, w'.heap[w.heap.size]? = some (.map es cl) ∧ ents es.toList = kidTab.map (fun t => (Value.int .i64 t.1, Value.int .i64 (t.2 : Nat)))) ∧ w'.heap.size = w.heap.size + 1 ∧ Gr w w' := by
  have hmm := @run_makeMap Try.prog
  go_enter Try.func36, Try.ntmps36
  go_wp2_with (rw [upd_new _ _ _ _ _ (by rfl)])
  go_ret
  exact ⟨rfl, ⟨_, _, new_at w _, rfl⟩, by simp, Gr.alloc _ _⟩
end Go.Proofs.Ytjkaeabnjkhllaa
