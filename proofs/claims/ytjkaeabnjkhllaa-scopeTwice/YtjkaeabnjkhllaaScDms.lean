/-
  dimsOf, WALKED.
-/
import Derived.Test.YtjkaeabnjkhllaaScKid
namespace Go.Proofs.Ytjkaeabnjkhllaa
open Go.RowKit

/-- a row that is a block by itself -/
theorem rowc_block {w : World} {g size n : Nat} {t : TypeId} {css : List (List Value)} {c : Array Value} (h : w.heap[g]? = some (.cells c t (0, 0))) (hc : c.toList = css.flatten) (hl : ∀ c ∈ css, c.length = size) (hn : css.length = n) (hm : n ≤ maxLen) : RowC w size (.slice (some ⟨g, 0, none⟩) n n) css := by
  subst hn
  refine ⟨hm, hl, _, _, rfl, Nat.le_refl _, fun j d hd => ⟨g, 0, rfl, heap_lt h, fun i u hu => ?_⟩, unf_new h⟩
  rw [cell_at h, Nat.zero_add, ← Array.getElem?_toList, hc]
  have hdl : d.length = size := hl d (List.mem_of_getElem? hd)
  have hi : i < size := by rw [← hdl]; exact (List.getElem?_eq_some_iff.1 hu).1
  obtain ⟨hj, e⟩ := List.getElem?_eq_some_iff.1 hd
  have hsplit : css = css.take j ++ (d :: css.drop (j + 1)) := by
    rw [← e, List.getElem_cons_drop hj, List.take_append_drop]
  have hlen : (css.take j).flatten.length = j * size := by
    have : ∀ l : List (List Value), (∀ c ∈ l, c.length = size) → l.flatten.length = l.length * size := by
      intro l
      induction l with
      | nil => intro _; simp
      | cons a r ih => intro h; rw [List.flatten_cons, List.length_append, h a (by simp), ih (fun c hc => h c (by simp [hc])), List.length_cons, Nat.add_mul]; omega
    rw [this _ (fun c hc => hl c (List.mem_of_mem_take hc)), List.length_take, Nat.min_eq_left (by omega)]
  rw [hsplit, List.flatten_append, List.flatten_cons, List.getElem?_append_right (by rw [hlen]; omega), hlen, Nat.add_sub_cancel_left, List.getElem?_append_left (by rw [hdl]; exact hi)]
  exact hu
def DimsRet (w : World) (ds : List Dm) (e : Ending) (w' : World) : Prop := ∃ A c, e = .returned (.slice A ds.length c) ∧ RowC w' 2 (.slice A ds.length c) (ds.map dmCells) ∧ Gr w w'
/-- an item's first nine cells -/
theorem it9 {w : World} {i : It} {cs : List Value} {g : Nat} {t : TypeId} {z : Nat × Nat} {av bv : Value} {ce ca ci : List Value} (hc : cs = itCells i av bv ce ca ci) (h : w.heap[g]? = some (.cells cs.toArray t z)) :
    w.cell? ⟨g, 0, none⟩ = some (.int .i64 i.kind) ∧ w.cell? ⟨g, 1, none⟩ = some (.string i.name) ∧ w.cell? ⟨g, 2, none⟩ = some (.string i.wid.1) ∧ w.cell? ⟨g, 3, none⟩ = some (.int .i64 i.wid.2) ∧ w.cell? ⟨g, 4, none⟩ = some (.string i.val.1) ∧ w.cell? ⟨g, 5, none⟩ = some (.int .i64 i.val.2) ∧ w.cell? ⟨g, 6, none⟩ = some (.string i.mod) ∧ w.cell? ⟨g, 7, none⟩ = some av ∧ w.cell? ⟨g, 8, none⟩ = some bv := by
  subst hc
  refine ⟨?_, ?_, ?_, ?_, ?_, ?_, ?_, ?_, ?_⟩ <;> (rw [cell_at h]; rfl)

set_option maxRecDepth 100000 in
set_option maxHeartbeats 2000000 in
theorem dimsOf_any (x : It) (cs : List Value) (w : World) (hx : Hid (ItAt w x cs)) : Calls Try.prog 43 #[.agg cs.toArray] w (DimsRet w (dimsOf x)) := by
  obtain ⟨av, bv, ce, ca, ci, hcs, m1, _⟩ := hx.out
  obtain ⟨aA, aC, rfl⟩ := RowC.form m1
  rw [List.length_map] at hcs m1
  have HM := Lib.hid m1
  have HCS := Lib.hid hcs
  clear hcs m1 hx
  go_enter Try.func43, Try.ntmps43
  go_upto_region 1 with fail
  obtain ⟨W, eW, GW, B0⟩ : ∃ W, w.alloc (.cells cs.toArray 49) = W ∧ Hid (Gr w W) ∧ Hid (W.heap[w.heap.size]? = some (.cells cs.toArray 49 (0, 0))) := ⟨_, rfl, Lib.hid (Gr.alloc _ _), Lib.hid (new_at _ _)⟩
  rw [eW]
  clear eW
  obtain ⟨k0, k1, k2, k3, k4, k5, k6, k7, k8⟩ := it9 HCS.out B0.out
  clear k1 k6 k8
  by_cases h1 : x.kind = 1
  · have HD := Lib.hid (show dimsOf x = [x.wid] by simp [dimsOf, h1])
    rw [h1] at k0
    clear h1
    go_wp2
    go_ret
    rw [HD.out]
    exact ⟨_, _, rfl, rowc_block (new_at W _) rfl (by simp [dmCells]) rfl (by unfold maxLen; simp), GW.out.trans (Gr.alloc _ _)⟩
  have q1 : (x.kind == 1) = false := by simpa using h1
  by_cases h2 : x.kind = 2 ∨ x.kind = 5
  · have HD := Lib.hid (show dimsOf x = [x.wid, x.val] by rcases h2 with h | h <;> simp [dimsOf, h])
    rcases h2 with h | h
    all_goals
      rw [h] at k0
      clear h q1 h1
      go_wp2
      go_ret
      rw [HD.out]
      exact ⟨_, _, rfl, rowc_block (new_at W _) rfl (by simp [dmCells]) rfl (by unfold maxLen; simp), GW.out.trans (Gr.alloc _ _)⟩
  have q2 : (x.kind == 2) = false := by simpa using fun h => h2 (.inl h)
  have q5 : (x.kind == 5) = false := by simpa using fun h => h2 (.inr h)
  by_cases h7 : x.kind = 7
  · have HD := Lib.hid (show dimsOf x = x.args by simp [dimsOf, h7])
    rw [h7] at k0
    clear h7 q1 q2 q5 h1 h2
    go_wp2
    go_ret
    rw [HD.out]
    exact ⟨_, _, rfl, HM.out.gr GW.out, GW.out⟩
  have q7 : (x.kind == 7) = false := by simpa using h7
  have HD := Lib.hid (show dimsOf x = [] by simp [dimsOf, h1, h2, h7])
  clear h1 h2 h7
  go_wp2
  go_ret
  rw [HD.out]
  exact ⟨_, _, rfl, RowC.nil _ _, GW.out⟩
end Go.Proofs.Ytjkaeabnjkhllaa
