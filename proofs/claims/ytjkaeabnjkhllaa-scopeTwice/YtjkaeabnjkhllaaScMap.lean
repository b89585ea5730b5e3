/-
  MAPS BY STRINGS: asked, and written, whatever their values are.
-/
import Derived.Test.YtjkaeabnjkhllaaScIter
namespace Go.Proofs.Ytjkaeabnjkhllaa
open Go.RowKit

def getS (l : List (ByteArray × Value)) (k : ByteArray) : Option Value := match l with
  | [] => none
  | t :: r => if k = t.1 then some t.2 else getS r k
def putS (l : List (ByteArray × Value)) (k : ByteArray) (v : Value) : List (ByteArray × Value) := match l with
  | [] => [(k, v)]
  | t :: r => if k = t.1 then (k, v) :: r else t :: putS r k v
def ents (es : List MapEntry) : List (Value × Value) := es.map fun e => (e.key, e.val)
def ents' (l : List (ByteArray × Value)) : List (Value × Value) := l.map fun t => (Value.string t.1, t.2)
/-- a map in memory -/
def MpAt (w : World) (b : Nat) (l : List (ByteArray × Value)) : Prop := ∃ es clock, w.heap[b]? = some (.map es clock) ∧ ents es.toList = ents' l
theorem MpAt.gr {w w' : World} {b : Nat} {l : List (ByteArray × Value)} (h : MpAt w b l) (hg : Gr w w') : MpAt w' b l := by
  obtain ⟨es, clock, h1, h2⟩ := h
  exact ⟨es, clock, hg.keep h1, h2⟩
theorem MpAt.keep {w w' : World} {b : Nat} {l : List (ByteArray × Value)} (h : MpAt w b l) (hk : ∀ o, w.heap[b]? = some o → w'.heap[b]? = some o) : MpAt w' b l := by
  obtain ⟨es, clock, h1, h2⟩ := h
  exact ⟨es, clock, hk _ h1, h2⟩
theorem MpAt.new (w : World) : MpAt (w.alloc (.map #[] 0)) w.heap.size [] := ⟨#[], 0, new_at _ _, rfl⟩

theorem ba_beq (a b : ByteArray) : (a == b) = decide (a = b) := by
  have h : (a == b) = (a.data == b.data) := rfl
  rw [h, Bool.eq_iff_iff]
  simp only [beq_iff_eq, decide_eq_true_eq]
  exact ⟨fun h => ByteArray.ext h, fun h => by rw [h]⟩
theorem same_str (k t : ByteArray) : Instr.sameNow .string (.string k) (.string t) = some (decide (k = t)) := by
  unfold Instr.sameNow
  simp only [ba_beq]
theorem find_str (k : ByteArray) (v : Value) : ∀ (l : List (ByteArray × Value)) (es : List MapEntry) (i : Nat), ents es = ents' l →
    (∃ j v0, Instr.findNow .string (.string k) es i = some (some (i + j, v0)) ∧ getS l k = some v0 ∧ (es[j]?).map (·.key) = some (.string k) ∧ ents (es.modify j fun e => { e with key := .string k, val := v }) = ents' (putS l k v)) ∨
    (Instr.findNow .string (.string k) es i = some none ∧ getS l k = none ∧ putS l k v = l ++ [(k, v)])
  | [], [], i, _ => .inr ⟨rfl, rfl, rfl⟩
  | [], _ :: _, _, h => by simp [ents, ents'] at h
  | _ :: _, [], _, h => by simp [ents, ents'] at h
  | t :: l, e :: es, i, h => by
    simp only [ents, ents', List.map_cons, List.cons.injEq, Prod.mk.injEq] at h
    obtain ⟨⟨h1, h2⟩, h3⟩ := h
    by_cases hk : k = t.1
    · refine .inl ⟨0, e.val, ?_, ?_, ?_, ?_⟩
      · unfold Instr.findNow
        rw [h1, same_str, decide_eq_true hk]
        simp
      · rw [getS, if_pos hk, h2]
      · simp [h1, hk]
      · rw [putS, if_pos hk]
        simp only [ents, ents', List.modify_zero_cons, List.map_cons, List.cons.injEq, true_and]
        exact h3
    · have hs : Instr.findNow .string (.string k) (e :: es) i = Instr.findNow .string (.string k) es (i + 1) := by
        rw [Instr.findNow, h1, same_str, decide_eq_false hk]
      rcases find_str k v l es (i + 1) h3 with ⟨j, v0, a1, a2, a3, a4⟩ | ⟨a1, a2, a3⟩
      · refine .inl ⟨j + 1, v0, ?_, ?_, ?_, ?_⟩
        · rw [hs, a1, show i + 1 + j = i + (j + 1) by omega]
        · rw [getS, if_neg hk, a2]
        · simpa using a3
        · rw [putS, if_neg hk]
          simp only [ents, ents', List.modify_succ_cons, List.map_cons, h1, h2, List.cons.injEq, true_and]
          exact a4
      · refine .inr ⟨by rw [hs, a1], by rw [getS, if_neg hk, a2], by rw [putS, if_neg hk, a3]; rfl⟩
theorem find_key {w : World} {k : ByteArray} {es : List MapEntry} {r : Option (Nat × Value)} (h : Instr.findNow .string (.string k) es 0 = some r) : (Instr.findKey 9 (.string k) es).run Try.prog w = .ok r w := by
  unfold Instr.findKey
  simp only [Sem.run_bind, run_underlying Try.underlying9, Result.andThen_ok]
  rw [h]
  rfl
theorem check_str (b : Bool) (k : ByteArray) (w : World) : (Instr.checkKey b 10000 9 (.string k)).run Try.prog w = .ok () w := by
  have hk : ∀ m, (Instr.checkKey b (m + 1) 9 (.string k)).run Try.prog w = .ok () w := fun m => by
    simp [Instr.checkKey, run_underlying Try.underlying9]
  exact hk 9999
/-- what is asked -/
theorem look_str {T E : TypeId} (hT : Try.prog.underlying T = some (.map 9 E)) {z : Value} (hz : ∀ w, (zeroValue E).run Try.prog w = .ok z w) {w : World} {b : Nat} {l : List (ByteArray × Value)} (h : MpAt w b l) (k : ByteArray) (ok : Bool) :
    (Instr.lookup T (.map (some b)) (.string k) ok).run Try.prog w = .ok (if ok then .tuple #[(getS l k).getD z, .bool (getS l k).isSome] else (getS l k).getD z) w := by
  obtain ⟨es, clock, hb, he⟩ := h
  have hg : (getObj b).run Try.prog w = .ok (.map es clock) w := by simp [getObj, Sem.run, hb]
  unfold Instr.lookup
  simp only [Sem.run_bind, run_underlying hT, Result.andThen_ok]
  rw [hg]
  simp only [Result.andThen_ok, Sem.run_bind, Sem.run_pure, check_str]
  rcases find_str k z l es.toList 0 he with ⟨j, v0, a1, a2, _, _⟩ | ⟨a1, a2, _⟩
  · rw [find_key a1, a2]
    simp only [Result.andThen_ok, Sem.run_pure]
    rfl
  · rw [find_key a1, a2]
    simp only [Result.andThen_ok, Sem.run_bind, hz, Sem.run_pure]
    rfl
/-- what is written -/
theorem put_str {T E : TypeId} (hT : Try.prog.underlying T = some (.map 9 E)) {w : World} {b : Nat} {l : List (ByteArray × Value)} (h : MpAt w b l) (k : ByteArray) (v : Value) :
    ∃ o, (Instr.mapUpdate T (.map (some b)) (.string k) v).run Try.prog w = .ok () (w.putObj b o) ∧ MpAt (w.putObj b o) b (putS l k v) := by
  obtain ⟨es, clock, hb, he⟩ := h
  have hl := heap_lt hb
  have hg : (getObj b).run Try.prog w = .ok (.map es clock) w := by simp [getObj, Sem.run, hb]
  have hset : ∀ o, (setObj b o).run Try.prog w = .ok () (w.putObj b o) := fun o => by
    unfold setObj Sem.run
    simp only [hb]
    rfl
  unfold Instr.mapUpdate
  simp only [Sem.run_bind, run_underlying hT, Result.andThen_ok]
  rw [hg]
  simp only [Result.andThen_ok, Sem.run_bind, check_str]
  rcases find_str k v l es.toList 0 he with ⟨j, v0, a1, a2, a3, a4⟩ | ⟨a1, a2, a3⟩
  · rw [find_key a1]
    have a5 : (es[0 + j]?).map (·.key) = some (.string k) := by rw [Nat.zero_add, ← Array.getElem?_toList]; exact a3
    simp only [Result.andThen_ok, Sem.run_bind, a5, Option.getD_some]
    have hs : ∀ n, Instr.sameBits n (.string k) (.string k) = true := fun n => by cases n <;> simp [Instr.sameBits, ba_beq]
    have hst : (Instr.keyThatStays (.string k) (.string k)).run Try.prog w = .ok (.string k) w := by
      unfold Instr.keyThatStays
      rw [hs]
      rfl
    rw [hst]
    simp only [Result.andThen_ok, hset]
    refine ⟨_, rfl, _, _, World.putObj_heap_same hl, ?_⟩
    rw [Array.toList_modify, Nat.zero_add]
    exact a4
  · rw [find_key a1]
    simp only [Result.andThen_ok, hset]
    refine ⟨_, rfl, _, _, World.putObj_heap_same hl, ?_⟩
    rw [a3, Array.toList_push]
    simp only [ents, ents', List.map_append, List.map_cons, List.map_nil]
    rw [show es.toList.map (fun e => (e.key, e.val)) = l.map fun t => (Value.string t.1, t.2) from he]
theorem getS_put (l : List (ByteArray × Value)) (k j : ByteArray) (v : Value) : getS (putS l k v) j = if j = k then some v else getS l j := by
  induction l with
  | nil =>
    simp only [putS, getS]
  | cons t r ih =>
    rw [putS]
    split
    · rename_i h
      subst h
      simp only [getS]
      split <;> rfl
    · rename_i h
      rw [getS, getS, ih]
      by_cases hj : j = t.1
      · rw [if_pos hj, if_pos hj]
        rw [if_neg (fun e => h (e.symm.trans hj))]
      · rw [if_neg hj, if_neg hj]
end Go.Proofs.Ytjkaeabnjkhllaa
