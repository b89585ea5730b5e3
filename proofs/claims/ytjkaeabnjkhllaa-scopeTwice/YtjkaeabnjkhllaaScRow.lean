/-
  MAPS BY ROWS (a pointer, and a number): asked, and written, in whatever memory.
-/
import Derived.Test.YtjkaeabnjkhllaaScRef
import Derived.LaidEql
namespace Go.Proofs.Ytjkaeabnjkhllaa
open Go.RowKit

/-- a cell that is there, and is not frozen -/
def CellAt (w : World) (a : Addr) : Prop := ∃ cs t z, w.heap[a.block]? = some (.cells cs t z) ∧ (decide (z.1 ≤ a.off) && decide (a.off < z.2)) = false ∧ 0 < cs.size
def CleanAt (w : World) (a : Addr) : Prop := ∃ cs t, w.heap[a.block]? = some (.cells cs t (0, 0))
theorem same_addr {w : World} {a b : Addr} (ha : CellAt w a) (hb : CellAt w b) : ∃ r k, (sameAddr a b).run Try.prog w = .ok r (w.drewN k) ∧ (CleanAt w a → CleanAt w b → r = decide (a = b)) := by
  by_cases hbl : a.block = b.block
  · refine ⟨decide (a = b), 0, ?_, fun _ _ => rfl⟩
    have : (a == b) = decide (a = b) := by
      by_cases h : a = b <;> simp [h]
    simp [sameAddr, hbl, this]
    rfl
  · obtain ⟨ca, ta, za, h1, h2, h3⟩ := ha
    obtain ⟨cb, tb, zb, k1, k2, k3⟩ := hb
    have hne : ¬ a = b := fun e => hbl (by rw [e])
    by_cases hc : CleanAt w a ∧ CleanAt w b
    · obtain ⟨⟨ca', ta', h1'⟩, ⟨cb', tb', k1'⟩⟩ := hc
      exact ⟨false, 0, run_sameAddr_other w hne h1' k1', fun _ _ => by simp [hne]⟩
    · have e1 : w.frozen? a = false := by simp only [World.frozen?, h1]; exact h2
      have e2 : w.frozen? b = false := by simp only [World.frozen?, k1]; exact k2
      obtain ⟨na, n1⟩ : ∃ n, ca.size = n + 1 := ⟨ca.size - 1, by omega⟩
      obtain ⟨nb, n2⟩ : ∃ n, cb.size = n + 1 := ⟨cb.size - 1, by omega⟩
      have hq : (Question.extern "sameAddr.stringBytes" 2).forced = false := by rfl
      by_cases hs : w.frozen? ⟨a.block, na + 1, none⟩ = true ∧ w.frozen? ⟨b.block, nb + 1, none⟩ = true
      · refine ⟨((Question.extern "sameAddr.stringBytes" 2).cut (w.tape w.drawn (.extern "sameAddr.stringBytes" 2)) == 1), 1, ?_, fun x y => absurd ⟨x, y⟩ hc⟩
        simp [sameAddr, hbl, e1, e2, h1, k1, noView, viewAt, World.shape?, mayBeOne, stringish, n1, n2, hs.1, hs.2, hq]
        rfl
      · refine ⟨false, 0, ?_, fun x y => absurd ⟨x, y⟩ hc⟩
        simp [sameAddr, hbl, e1, e2, h1, k1, noView, viewAt, World.shape?, mayBeOne, stringish, n1, n2, hq, hs]
        rfl
def keyV (a : Addr) (n : Nat) : Value := .agg #[.pointer (some a), .int .i64 (n : Nat)]
theorem eq112 (a b : Addr) (n m : Nat) (w : World) {r : Bool} {k : Nat} (h : (sameAddr a b).run Try.prog w = .ok r (w.drewN k)) : (Op.equal 112 (keyV a n) (keyV b m)).run Try.prog w = .ok (r && decide (n = m)) (w.drewN k) := by
  have hS : Try.prog.underlying 112 = some (.struct (Try.prog.fieldsOf 112)) := by kernel_rfl
  have hp : Try.prog.stoodInHeld 112 = false := by kernel_rfl
  have u3 := Try.underlying3
  unfold Op.equal Op.maxDepth keyV
  rw [show (10000 : Nat) = 9999 + 1 from rfl, run_equalIn_agg w 9999 112 _ _ hS hp]
  simp only [Program.fieldsOf, Try.underlying112]
  go_simp
  have hq : (Op.equalIn 9999 110 (.pointer (some a)) (.pointer (some b))).run Try.prog w = .ok r (w.drewN k) := by
    have hd : ∀ d, (Op.equalIn (d + 1) 110 (.pointer (some a)) (.pointer (some b))).run Try.prog w = .ok r (w.drewN k) := fun d => by
      simp [Op.equalIn, run_underlying Try.underlying110, Try.sizeOf47, h]
    exact hd 9998
  rw [hq]
  cases r
  · simp
  · by_cases hnm : n = m
    · simp [hnm]
    · have : ¬ ((n : Int) = (m : Int)) := by omega
      simp [hnm, this]
/-- rows that were met, in a map -/
def rowsOf (ks : List (Addr × Nat)) : List (Value × Value) := ks.map fun x => (keyV x.1 x.2, Value.bool true)
def MetAt (w : World) (b : Nat) (ks : List (Addr × Nat)) : Prop := ∃ es clock, w.heap[b]? = some (.map es clock) ∧ ents es.toList = rowsOf ks
theorem MetAt.gr {w w' : World} {b : Nat} {ks : List (Addr × Nat)} (h : MetAt w b ks) (hg : Gr w w') : MetAt w' b ks := by
  obtain ⟨es, clock, h1, h2⟩ := h
  exact ⟨es, clock, hg.keep h1, h2⟩
theorem MetAt.new (w : World) : MetAt (w.alloc (.map #[] 0)) w.heap.size [] := ⟨#[], 0, new_at _ _, rfl⟩
theorem CellAt.gr {w w' : World} {a : Addr} (h : CellAt w a) (hg : Gr w w') : CellAt w' a := by
  obtain ⟨cs, t, z, h1, h2⟩ := h
  exact ⟨cs, t, z, hg.keep h1, h2⟩
theorem CleanAt.gr {w w' : World} {a : Addr} (h : CleanAt w a) (hg : Gr w w') : CleanAt w' a := by
  obtain ⟨cs, t, h1⟩ := h
  exact ⟨cs, t, hg.keep h1⟩
theorem drewN_add (w : World) (a b : Nat) : (w.drewN a).drewN b = w.drewN (a + b) := by
  rw [World.drewN_drewN]
theorem ask112 (a : Addr) (n : Nat) : ∀ (ks : List (Addr × Nat)) (es : List MapEntry) (i : Nat) (w : World), ents es = rowsOf ks → CellAt w a → (∀ x ∈ ks, CellAt w x.1) →
    ∃ r k, (Instr.findAsking 112 (keyV a n) es i).run Try.prog w = .ok r (w.drewN k) ∧ (∀ j v, r = some (j, v) → v = .bool true ∧ ∃ j', j = i + j' ∧ j' < es.length) ∧ (CleanAt w a → (∀ x ∈ ks, CleanAt w x.1) → r.isSome = decide ((a, n) ∈ ks))
  | [], [], i, w, _, _, _ => ⟨none, 0, by simp [Instr.findAsking]; rfl, (fun _ _ h => by cases h), fun _ _ => by simp⟩
  | [], _ :: _, _, _, h, _, _ => by simp [ents, rowsOf] at h
  | _ :: _, [], _, _, h, _, _ => by simp [ents, rowsOf] at h
  | x :: ks, e :: es, i, w, h, ha, hk => by
    simp only [ents, rowsOf, List.map_cons, List.cons.injEq, Prod.mk.injEq] at h
    obtain ⟨⟨h1, h2⟩, h3⟩ := h
    obtain ⟨r1, k1, q1, q2⟩ := same_addr ha (hk x (by simp))
    have q3 := eq112 a x.1 n x.2 w q1
    unfold Instr.findAsking
    simp only [Sem.run_bind, h1, q3, Result.andThen_ok]
    by_cases hr : (r1 && decide (n = x.2)) = true
    · refine ⟨some (i, e.val), k1, by simp [hr], fun j v hj => ?_, fun c1 c2 => ?_⟩
      · cases hj
        exact ⟨h2, 0, rfl, by simp⟩
      · have := q2 c1 (c2 x (by simp))
        rw [this] at hr
        simp only [Bool.and_eq_true, decide_eq_true_eq] at hr
        have : (a, n) = x := by rw [hr.1, hr.2]
        simp [this]
    · have hr' : (r1 && decide (n = x.2)) = false := by simpa using hr
      obtain ⟨r2, k2, p1, p2, p3⟩ := ask112 a n ks es (i + 1) (w.drewN k1) h3 (ha.gr (Gr.drewN _ _)) (fun y hy => (hk y (by simp [hy])).gr (Gr.drewN _ _))
      refine ⟨r2, k1 + k2, by simp only [hr', Bool.false_eq_true, if_false]; rw [p1, drewN_add], fun j v hj => ?_, fun c1 c2 => ?_⟩
      · obtain ⟨a1, j', a2, a3⟩ := p2 j v hj
        exact ⟨a1, j' + 1, by omega, by simp; omega⟩
      · rw [p3 (c1.gr (Gr.drewN _ _)) (fun y hy => (c2 y (by simp [hy])).gr (Gr.drewN _ _))]
        have := q2 c1 (c2 x (by simp))
        rw [this] at hr'
        have hne : ¬ (a, n) = x := by
          rintro rfl
          simp at hr'
        simp [hne]
theorem find112 {w : World} {v : Value} {es : List MapEntry} {x : Addr × Nat} (hv : v = keyV x.1 x.2) : (Instr.findKey 112 v es).run Try.prog w = (Instr.findAsking 112 v es).run Try.prog w ∨ es = [] := by
  subst hv
  cases es with
  | nil => exact .inr rfl
  | cons e es =>
    refine .inl ?_
    unfold Instr.findKey
    simp only [Sem.run_bind, run_underlying Try.underlying112, Result.andThen_ok]
    rfl
theorem check112 (b : Bool) (a : Addr) (n : Nat) (w : World) : (Instr.checkKey b 10000 112 (keyV a n)).run Try.prog w = .ok () w := by
  have hk : ∀ m, (Instr.checkKey b (m + 2) 112 (keyV a n)).run Try.prog w = .ok () w := fun m => by
    simp [Instr.checkKey, keyV, run_underlying Try.underlying112, run_underlying Try.underlying110, run_underlying Try.underlying3, part]
  exact hk 9998
theorem find_any112 {w : World} (a : Addr) (n : Nat) {ks : List (Addr × Nat)} {es : List MapEntry} (h : ents es = rowsOf ks) (ha : CellAt w a) (hk : ∀ x ∈ ks, CellAt w x.1) :
    ∃ r k, (Instr.findKey 112 (keyV a n) es).run Try.prog w = .ok r (w.drewN k) ∧ (∀ j v, r = some (j, v) → v = .bool true ∧ j < es.length) ∧ (CleanAt w a → (∀ x ∈ ks, CleanAt w x.1) → r.isSome = decide ((a, n) ∈ ks)) := by
  obtain ⟨r, k, p1, p2, p3⟩ := ask112 a n ks es 0 w h ha hk
  refine ⟨r, k, ?_, fun j v hj => ?_, p3⟩
  · rcases find112 (w := w) (es := es) (x := (a, n)) rfl with e | rfl
    · rw [e]
      exact p1
    · rw [← p1]
      unfold Instr.findKey
      simp only [Sem.run_bind, run_underlying Try.underlying112, Result.andThen_ok]
      rfl
  · obtain ⟨a1, j', a2, a3⟩ := p2 j v hj
    exact ⟨a1, by omega⟩
theorem obj_map {w : World} {b : Nat} {es : Array MapEntry} {clock : Nat} (h : w.heap[b]? = some (.map es clock)) : (getObj b).run Try.prog w = .ok (.map es clock) w := by
  simp [getObj, Sem.run, h]
/-- what is asked -/
theorem look_row {w : World} {b : Nat} {ks : List (Addr × Nat)} (h : MetAt w b ks) (a : Addr) (n : Nat) (ha : CellAt w a) (hk : ∀ x ∈ ks, CellAt w x.1) :
    ∃ (r : Bool) (k : Nat), (Instr.lookup 109 (.map (some b)) (keyV a n) false).run Try.prog w = .ok (.bool r) (w.drewN k) ∧ (CleanAt w a → (∀ x ∈ ks, CleanAt w x.1) → r = decide ((a, n) ∈ ks)) := by
  obtain ⟨es, clock, hb, he⟩ := h
  obtain ⟨r, k, p1, p2, p3⟩ := find_any112 a n he ha hk
  refine ⟨r.isSome, k, ?_, p3⟩
  have hg := obj_map hb
  unfold Instr.lookup
  simp only [Sem.run_bind, run_underlying Try.underlying109, Result.andThen_ok]
  rw [hg]
  simp only [Result.andThen_ok, Sem.run_bind, Sem.run_pure, check112]
  rw [p1]
  rcases r with _ | ⟨j, v⟩
  · simp only [Result.andThen_ok, Sem.run_bind, Try.zeroValue4, Sem.run_pure]
    rfl
  · obtain ⟨rfl, _⟩ := p2 j v rfl
    simp only [Result.andThen_ok, Sem.run_bind, Sem.run_pure]
    rfl
/-- what is written -/
theorem put_row {w : World} {b : Nat} {ks : List (Addr × Nat)} (h : MetAt w b ks) (a : Addr) (n : Nat) (ha : CellAt w a) (hk : ∀ x ∈ ks, CellAt w x.1) :
    ∃ (k : Nat) (o : Obj) (ks' : List (Addr × Nat)), (Instr.mapUpdate 109 (.map (some b)) (keyV a n) (.bool true)).run Try.prog w = .ok () ((w.drewN k).putObj b o) ∧ MetAt ((w.drewN k).putObj b o) b ks' ∧ (∀ x ∈ ks', x ∈ ks ∨ x = (a, n)) ∧ (CleanAt w a → (∀ x ∈ ks, CleanAt w x.1) → (a, n) ∉ ks → ks' = ks ++ [(a, n)]) := by
  obtain ⟨es, clock, hb, he⟩ := h
  obtain ⟨r, k, p1, p2, p3⟩ := find_any112 a n he ha hk
  have hg := obj_map hb
  have hset : ∀ k o, (setObj b o).run Try.prog (w.drewN k) = .ok () ((w.drewN k).putObj b o) := fun k o => by
    have h' : (w.drewN k).heap[b]? = some (.map es clock) := hb
    unfold setObj Sem.run
    simp only [h']
    rfl
  have hrun : (Instr.mapUpdate 109 (.map (some b)) (keyV a n) (.bool true)).run Try.prog w = ((Instr.findKey 112 (keyV a n) es.toList).run Try.prog w).andThen fun r w' => (match r with
      | some (i, _) => (do let key ← Instr.keyThatStays (((es[i]?).map (fun e : MapEntry => e.key)).getD (keyV a n)) (keyV a n); setObj b (.map (es.modify i fun e => { e with key, val := .bool true }) clock))
      | none => setObj b (.map (es.push ⟨keyV a n, .bool true, clock⟩) (clock + 1))).run Try.prog w' := by
    unfold Instr.mapUpdate
    simp only [Sem.run_bind, run_underlying Try.underlying109, Result.andThen_ok]
    rw [hg]
    simp only [Result.andThen_ok, Sem.run_bind, check112]
    generalize (Instr.findKey 112 (keyV a n) es.toList).run Try.prog w = q
    rcases q with ⟨r, w'⟩ | ⟨x, w'⟩
    · rcases r with _ | ⟨i, v⟩
      · rfl
      · rfl
    · rfl
  rw [hrun, p1]
  simp only [Result.andThen_ok]
  rcases r with _ | ⟨j, v⟩
  · refine ⟨k, _, ks ++ [(a, n)], hset _ _, ⟨_, _, World.putObj_heap_same (heap_lt (w := w.drewN k) (show (w.drewN k).heap[b]? = _ from hb)), ?_⟩, fun x hx => ?_, fun _ _ _ => rfl⟩
    · rw [Array.toList_push]
      simp only [ents, rowsOf, List.map_append, List.map_cons, List.map_nil]
      rw [show es.toList.map (fun e => (e.key, e.val)) = rowsOf ks from he]
      rfl
    · rcases List.mem_append.1 hx with hx | hx
      · exact .inl hx
      · exact .inr (by simpa using hx)
  · obtain ⟨rfl, hj⟩ := p2 j v rfl
    have hjl : j < ks.length := by
      have := congrArg List.length he
      simp [ents, rowsOf] at this hj
      omega
    have hkey : (es[j]?).map (·.key) = some (keyV (ks[j]).1 (ks[j]).2) := by
      have := congrArg (fun l => (l[j]?).map (·.1)) he
      simp [ents, rowsOf, hjl] at this
      simpa using this
    have hst : ∃ k2 x, (x = ks[j] ∨ x = (a, n)) ∧ (Instr.keyThatStays (keyV (ks[j]).1 (ks[j]).2) (keyV a n)).run Try.prog (w.drewN k) = .ok (keyV x.1 x.2) (w.drewN k2) := by
      unfold Instr.keyThatStays
      by_cases hsb : Instr.sameBits 10000 (keyV (ks[j]).1 (ks[j]).2) (keyV a n) = true
      · exact ⟨k, (a, n), .inr rfl, by simp [hsb]⟩
      · have hq : (Question.extern "map.whichKeyStays" 2).forced = false := by rfl
        simp only [hsb, Bool.false_eq_true, if_false, Sem.run_bind]
        rw [run_choose_drew]
        simp only [hq, Bool.false_eq_true, if_false, Result.andThen_ok, Sem.run_pure]
        by_cases hc : (Question.extern "map.whichKeyStays" 2).cut ((w.drewN k).tape (w.drewN k).drawn (.extern "map.whichKeyStays" 2)) = 0
        · exact ⟨k + 1, (a, n), .inr rfl, by rw [if_pos hc]; rfl⟩
        · exact ⟨k + 1, ks[j], .inl rfl, by rw [if_neg hc]; rfl⟩
    obtain ⟨k2, x, hx, hrun2⟩ := hst
    refine ⟨k2, (.map (es.modify j fun e => { e with key := keyV x.1 x.2, val := .bool true }) clock), ks.set j x, ?_, ⟨_, _, World.putObj_heap_same (heap_lt (w := w.drewN k2) (show (w.drewN k2).heap[b]? = _ from hb)), ?_⟩, fun y hy => ?_, fun c1 c2 c3 => ?_⟩
    · simp only [Sem.run_bind, hkey, Option.getD_some, hrun2, Result.andThen_ok, hset]
    · rw [Array.toList_modify]
      apply List.ext_getElem?
      intro i
      have hi := congrArg (fun l => l[i]?) he
      simp only [ents, rowsOf, List.getElem?_map] at hi ⊢
      rw [List.getElem?_modify, List.getElem?_set]
      by_cases hij : j = i
      · subst hij
        simp only [if_true, hjl]
        have hjl2 : j < es.toList.length := by simpa using hj
        simp [List.getElem?_eq_getElem hjl2]
      · simp only [hij, if_false, Option.map_map]
        rw [← hi]
        cases es.toList[i]? <;> simp
    · rcases List.mem_or_eq_of_mem_set hy with hy | rfl
      · exact .inl hy
      · rcases hx with rfl | rfl
        · exact .inl (List.getElem_mem _)
        · exact .inr rfl
    · have := p3 c1 c2
      simp [c3] at this
end Go.Proofs.Ytjkaeabnjkhllaa
