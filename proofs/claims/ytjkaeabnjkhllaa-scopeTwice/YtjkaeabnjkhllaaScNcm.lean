/-
  What newChecker keeps between two rounds.
-/
import Derived.Test.YtjkaeabnjkhllaaScBck
import Derived.Deep.AppendLies
namespace Go.Proofs.Ytjkaeabnjkhllaa
open Go.RowKit

theorem modAt_snoc (m : Mo) (s : ByteArray) : ∀ l : List Mo, modAt (l ++ [m]) s = match modAt l s with | some j => some j | none => if m.name = s then some l.length else none
  | [] => by
    simp only [List.nil_append, modAt, List.length_nil]
    split <;> rfl
  | x :: r => by
    rw [List.cons_append, modAt, modAt, modAt_snoc m s r]
    by_cases hx : x.name = s
    · simp [hx]
    · simp only [if_neg hx]
      cases modAt r s with
      | some j => rfl
      | none =>
        simp only [Option.map_none, List.length_cons]
        split <;> rfl
/-- a finder's value -/
def fnV (g : Nat) : Value := .func (.func 54) #[] #[.pointer (some ⟨g, 0, none⟩)]
/-- between two rounds: km modules are in the map, k of them have finders -/
structure NcI (w : World) (ms : List Mo) (mv : Value) (k km : Nat) (wr : World) (v : Value) (fs : List Value) : Prop where
  gr : Gr w wr
  res : wr.heap[w.heap.size]? = some (.cells #[.slice none 0 0, .map none, .slice none 0 0, .map none] 70 (0, 0))
  box : wr.heap[w.heap.size + 3]? = some (.cells #[mv, .map (some (w.heap.size + 1)), v, .map (some (w.heap.size + 2))] 70 (0, 0))
  map : ∃ l, MpAt wr (w.heap.size + 1) l ∧ ∀ s, getS l s = (modAt (ms.take km) s).map intV
  row : wr.ownsRow w.heap.size 89 1 v k fs
  finds : ∀ (i : Nat) (m : Mo), i < k → ms[i]? = some m → ∃ g b, fs[i]? = some (fnV g) ∧ w.heap.size + 3 < g ∧ w.heap.size + 3 < b ∧ wr.cell? ⟨g, 0, none⟩ = some (.map (some b)) ∧ Firsts wr b (placesOf m)
  takes : ∃ es cl, wr.heap[w.heap.size + 2]? = some (.map es cl) ∧ ents es.toList = kidTab.map (fun t => (Value.int .i64 t.1, Value.int .i64 (t.2 : Nat)))
theorem NcI.gr' {w : World} {ms : List Mo} {mv : Value} {k km : Nat} {wr V : World} {v : Value} {fs : List Value} (h : NcI w ms mv k km wr v fs) (hg : Gr wr V) : NcI w ms mv k km V v fs := by
  obtain ⟨l, m1, m2⟩ := h.map
  obtain ⟨es, cl, t1, t2⟩ := h.takes
  exact ⟨h.gr.trans hg, hg.keep h.res, hg.keep h.box, ⟨l, m1.gr hg, m2⟩, h.row.kept (row := none) hg (by cases hv : v.ownBlock with | none => exact .inl rfl | some k => exact .inr (by simp)), fun i m hi hm => by
    obtain ⟨g, b, f1, f2, f3, f4, f5⟩ := h.finds i m hi hm
    exact ⟨g, b, f1, f2, f3, gr_cell hg (World.block_lt_of_cell? _ _ f4) f4, f5.keep (fun o ho => hg.keep ho)⟩, ⟨es, cl, hg.keep t1, t2⟩⟩
/-- a module has come into the map, or was there -/
theorem NcI.mapped {w : World} {ms : List Mo} {mv : Value} {k : Nat} {wr : World} {v : Value} {fs : List Value} {m : Mo} (h : NcI w ms mv k k wr v fs) (hm : ms[k]? = some m) {o : Obj} {l : List (ByteArray × Value)} (hl : ∀ s, getS l s = (modAt (ms.take k) s).map intV) (hn : modAt (ms.take k) m.name = none) (ho : MpAt (wr.putObj (w.heap.size + 1) o) (w.heap.size + 1) (putS l m.name (intV k))) :
    NcI w ms mv k (k + 1) (wr.putObj (w.heap.size + 1) o) v fs := by
  have hne : ∀ b, b ≠ w.heap.size + 1 → (wr.putObj (w.heap.size + 1) o).heap[b]? = wr.heap[b]? := fun b hb => World.putObj_heap_other hb
  obtain ⟨l0, m1, _⟩ := h.map
  obtain ⟨es0, cl0, q0, _⟩ := m1
  obtain ⟨es, cl, t1, t2⟩ := h.takes
  have hlen : (ms.take k).length = k := by rw [List.length_take]; have := (List.getElem?_eq_some_iff.1 hm).1; omega
  refine ⟨gr_of ((bel_of h.gr).grown (grownBy_putObj' wr (w.heap.size + 1) o) h.gr.size (fun b e => by cases e; omega)), (hne _ (by omega)).trans h.res, (hne _ (by omega)).trans h.box, ⟨_, ho, fun s => ?_⟩, ⟨h.row.1, ?_⟩, fun i m' hi hm' => ?_, ⟨es, cl, (hne _ (by omega)).trans t1, t2⟩⟩
  · rw [getS_put, hl, List.take_add_one, hm]
    simp only [Option.toList_some]
    rw [modAt_snoc, hlen]
    by_cases hs : s = m.name
    · subst hs
      rw [if_pos rfl, hn]
      simp
    · rw [if_neg hs]
      cases modAt (ms.take k) s with
      | some j => rfl
      | none => simp only [Option.map_none]; rw [if_neg (fun e => hs e.symm)]; rfl
  · rcases h.row.2 with hn' | ⟨g, cap, cur, e, hb, hh, rest⟩
    · exact .inl hn'
    · refine .inr ⟨g, cap, cur, e, hb, (hne g ?_).trans hh, rest⟩
      rintro rfl
      rw [q0] at hh
      cases hh
  · obtain ⟨g, b, f1, f2, f3, f4, f5⟩ := h.finds i m' hi hm'
    exact ⟨g, b, f1, f2, f3, by rw [World.cell?_of_block (a := ⟨g, 0, none⟩) (hne g (by omega))]; exact f4, f5.keep (fun o' ho' => (hne b (by omega)).trans ho')⟩
theorem NcI.there {w : World} {ms : List Mo} {mv : Value} {k : Nat} {wr : World} {v : Value} {fs : List Value} {m : Mo} {j : Nat} (h : NcI w ms mv k k wr v fs) (hm : ms[k]? = some m) (hn : modAt (ms.take k) m.name = some j) : NcI w ms mv k (k + 1) wr v fs := by
  obtain ⟨l, m1, m2⟩ := h.map
  refine ⟨h.gr, h.res, h.box, ⟨l, m1, fun s => ?_⟩, h.row, h.finds, h.takes⟩
  rw [m2, List.take_add_one, hm]
  simp only [Option.toList_some]
  rw [modAt_snoc]
  cases hq : modAt (ms.take k) s with
  | some i => rfl
  | none =>
    simp only []
    rw [if_neg]
    rintro rfl
    rw [hn] at hq
    cases hq
theorem nc_app {w X u w5 : World} {ms : List Mo} {mv : Value} {k km : Nat} {v : Value} {fs : List Value} {m : Mo} (h : NcI w ms mv k km X v fs) (hg : Gr X u) {fg fb : Nat} (h1 : X.heap.size ≤ fg) (h2 : X.heap.size ≤ fb) (hc : u.cell? ⟨fg, 0, none⟩ = some (.map (some fb))) (hf : Firsts u fb (placesOf m)) (hm : ms[k]? = some m) {o : Obj} {g cap : Nat}
    (hgrow : (u.alloc o).grownBy w5 v.ownBlock) (hown : w5.ownsRow w.heap.size 89 1 (.slice (some ⟨g, 0, none⟩) (k + 1) cap) (k + 1) (fs ++ [fnV fg])) (hat : v.ownBlock = some g ∨ g = (u.alloc o).heap.size) :
    NcI w ms mv (k + 1) km (w5.setCell ⟨w.heap.size + 3, 2, none⟩ (.slice (some ⟨g, 0, none⟩) (k + 1) cap)) (.slice (some ⟨g, 0, none⟩) (k + 1) cap) (fs ++ [fnV fg]) := by
  have hu := h.gr' hg
  have h3 := heap_lt h.box
  have hsz : (u.alloc o).heap.size = u.heap.size + 1 := by simp
  have own : ∀ j, some j = v.ownBlock → w.heap.size ≤ j ∧ j < X.heap.size ∧ ∃ c, X.heap[j]? = some (.cells c 89 (0, 0)) := fun j hj => by
    rcases h.row.2 with ⟨hv, _⟩ | ⟨g', cap', cur, hv, hb, hh, _⟩
    · rw [hv] at hj; simp [Value.ownBlock] at hj
    · rw [hv] at hj
      simp [Value.ownBlock] at hj
      subst hj
      exact ⟨hb, heap_lt hh, cur, hh⟩
  have far : ∀ j, j < u.heap.size → some j ≠ v.ownBlock → w5.heap[j]? = u.heap[j]? := fun j hj hne => (hgrow.block j (by omega) hne).trans (Below.heap_alloc _ _ _ hj)
  have keep : ∀ j o', u.heap[j]? = some o' → (∀ c z, o' ≠ Obj.cells c 89 z) → w5.heap[j]? = some o' := fun j o' hj hn => (far j (heap_lt hj) (fun e => by
    obtain ⟨_, _, c, q⟩ := own j e
    rw [hg.keep q] at hj
    exact hn c (0, 0) (Option.some.inj hj).symm)).trans hj
  have hbox5 := keep _ _ hu.box (by simp)
  have hgne : g ≠ w.heap.size + 3 := by
    rintro rfl
    rcases hown.2 with ⟨hv, _⟩ | ⟨g', cap', cur, hv, _, hh, _⟩
    · simp at hv
    · simp at hv
      obtain ⟨rfl, rfl⟩ := hv
      rw [hbox5] at hh
      cases hh
  have hne : ∀ b, b ≠ w.heap.size + 3 → (w5.setCell ⟨w.heap.size + 3, 2, none⟩ (.slice (some ⟨g, 0, none⟩) (k + 1) cap)).heap[b]? = w5.heap[b]? := fun b hb => set_block (Ne.symm hb)
  have hs5 := hgrow.size
  have hgs := hu.gr.size
  have g5 : Gr w w5 := ⟨hgrow.os.trans hu.gr.os, hgrow.tape.trans hu.gr.tape, hgrow.output.trans hu.gr.output, by omega, fun j hj _ => (far j (by omega) (fun e => by have := (own j e).1; omega)).trans (hu.gr.block j hj (by simp))⟩
  have cellfar : ∀ g' b', w.heap.size + 3 < g' → u.cell? ⟨g', 0, none⟩ = some (.map (some b')) → (∀ j, some j = v.ownBlock → j ≠ g') → (w5.setCell ⟨w.heap.size + 3, 2, none⟩ (.slice (some ⟨g, 0, none⟩) (k + 1) cap)).cell? ⟨g', 0, none⟩ = some (.map (some b')) := fun g' b' q1 q2 q3 => by
    rw [World.cell?_of_block (a := ⟨g', 0, none⟩) ((hne g' (by omega)).trans (far g' (World.block_lt_of_cell? _ _ q2) (fun e => q3 g' e rfl)))]
    exact q2
  have fstfar : ∀ b' m', w.heap.size + 3 < b' → Firsts u b' (placesOf m') → Firsts (w5.setCell ⟨w.heap.size + 3, 2, none⟩ (.slice (some ⟨g, 0, none⟩) (k + 1) cap)) b' (placesOf m') := fun b' m' q1 q2 => by
    obtain ⟨l, ⟨es, cl, r1, r2⟩, r3⟩ := q2
    exact ⟨l, ⟨es, cl, (hne b' (by omega)).trans (keep _ _ r1 (by simp)), r2⟩, r3⟩
  obtain ⟨l, m1, m2⟩ := hu.map
  obtain ⟨es1, cl1, mm1, mm2⟩ := m1
  obtain ⟨es, cl, t1, t2⟩ := hu.takes
  have hfl : fs.length = k := by have := h.row.1; omega
  refine ⟨gr_set g5 (by omega), (hne _ (by omega)).trans (keep _ _ hu.res (by simp)), ?_, ⟨l, ⟨es1, cl1, (hne _ (by omega)).trans (keep _ _ mm1 (by simp)), mm2⟩, m2⟩, ?_, fun i m' hi hm' => ?_, ⟨es, cl, (hne _ (by omega)).trans (keep _ _ t1 (by simp)), t2⟩⟩
  · simp [World.setCell, Array.getElem?_modify, hbox5]
  · refine ⟨hown.1, ?_⟩
    rcases hown.2 with hn' | ⟨g', cap', cur, e, hb, hh, rest⟩
    · exact .inl hn'
    · simp at e
      obtain ⟨rfl, rfl⟩ := e
      exact .inr ⟨g, cap, cur, rfl, hb, (hne g hgne).trans hh, rest⟩
  · rcases Nat.lt_or_ge i k with hi' | hi'
    · obtain ⟨g', b', f1, f2, f3, f4, f5⟩ := hu.finds i m' hi' hm'
      refine ⟨g', b', by rw [List.getElem?_append_left (by omega)]; exact f1, f2, f3, cellfar g' b' f2 f4 (fun j hj e => ?_), fstfar b' m' f3 f5⟩
      subst e
      rcases hu.row.2 with ⟨hv, _⟩ | ⟨g0, cap0, cur, hv, hb, hh, hcap, _, hsz', ht⟩
      · rw [hv] at hj; simp [Value.ownBlock] at hj
      · rw [hv] at hj
        simp [Value.ownBlock] at hj
        subst hj
        rw [cell_at hh] at f4
        have h0 := congrArg (fun q => q[0]?) ht
        simp only [Nat.mul_one] at h0
        rw [List.getElem?_take, if_pos (by omega), Array.getElem?_toList, f4] at h0
        obtain ⟨m0, hm0⟩ : ∃ m0, ms[0]? = some m0 := ⟨_, List.getElem?_eq_getElem (by have := (List.getElem?_eq_some_iff.1 hm').1; omega)⟩
        obtain ⟨ga, ba, fa, _⟩ := hu.finds 0 m0 (by omega) hm0
        rw [fa] at h0
        cases h0
    · obtain rfl : i = k := by omega
      rw [hm] at hm'
      cases hm'
      exact ⟨fg, fb, by rw [List.getElem?_append_right (by omega), hfl]; simp, by omega, by omega, cellfar fg fb (by omega) hc (fun j hj e => by have := (own j hj).2.1; omega), fstfar fb m (by omega) hf⟩
end Go.Proofs.Ytjkaeabnjkhllaa
