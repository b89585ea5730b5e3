/-
  exprsOf, WALKED, of whatever is no instance.
-/
import Derived.Test.YtjkaeabnjkhllaaScTgt
namespace Go.Proofs.Ytjkaeabnjkhllaa
open Go.RowKit

/-- expressions in a row -/
def ExsAt (w : World) (ts : List Ex) (v : Value) : Prop := ∃ css, RowC w 11 v css ∧ css.length = ts.length ∧ ∀ (j : Nat) (t : Ex) (c : List Value), ts[j]? = some t → css[j]? = some c → ExAt w t c
def ExsRet (w : World) (ts : List Ex) (e : Ending) (w' : World) : Prop := ∃ A c, e = .returned (.slice A ts.length c) ∧ ExsAt w' ts (.slice A ts.length c) ∧ Gr w w'
theorem ex_form {w : World} {t : Ex} {cs : List Value} (h : ExAt w t cs) : ∃ A n c, cs = hdCells t.hd (.slice A n c) := by
  obtain ⟨v, css, e, hr, _⟩ := h.open
  obtain ⟨A, c, rfl⟩ := hr.form
  exact ⟨A, _, c, e⟩
theorem it42 {w : World} {i : It} {cs : List Value} {g : Nat} {t : TypeId} {z : Nat × Nat} {av bv : Value} {ce ca ci : List Value} (hc : cs = itCells i av bv ce ca ci) (l1 : ce.length = 11) (l2 : ca.length = 11) (h : w.heap[g]? = some (.cells cs.toArray t z)) : w.rangeAt g 9 ce ∧ w.rangeAt g 20 ca ∧ w.rangeAt g 31 ci := by
  subst hc
  refine ⟨fun j v hj => ?_, fun j v hj => ?_, fun j v hj => ?_⟩
  all_goals
    rw [cell_at h]
    simp only [itCells, List.getElem?_toArray]
  · have hl := (List.getElem?_eq_some_iff.1 hj).1
    rw [List.getElem?_append_right (by simp), List.getElem?_append_left (by simp; omega)]
    rw [← hj]
    congr 1
    simp
  · have hl := (List.getElem?_eq_some_iff.1 hj).1
    rw [List.getElem?_append_right (by simp; omega), List.getElem?_append_right (by simp; omega), List.getElem?_append_left (by simp; omega)]
    rw [← hj]
    congr 1
    simp
    omega
  · rw [List.getElem?_append_right (by simp; omega), List.getElem?_append_right (by simp; omega), List.getElem?_append_right (by simp; omega)]
    rw [← hj]
    congr 1
    simp
    omega

set_option maxRecDepth 100000 in
set_option maxHeartbeats 4000000 in
theorem exprsOf_rest (x : It) (cs : List Value) (w : World) (hx : Hid (ItAt w x cs)) (h7 : ¬ x.kind = 7) : Calls Try.prog 44 #[.agg cs.toArray] w (ExsRet w (exprsOf x)) := by
  obtain ⟨av, bv, ce, ca, ci, hcs, _, _, m3, m4, m5⟩ := hx.out
  have l1 := ex_len m3
  have l2 := ex_len m4
  obtain ⟨eA, en, eC, he⟩ := ex_form m3
  obtain ⟨aA, an, aC, ha⟩ := ex_form m4
  obtain ⟨iA, inn, iC, hi⟩ := ex_form m5
  have HM := Lib.hid (And.intro m3 (And.intro m4 m5))
  have HCS := Lib.hid (And.intro hcs (And.intro l1 l2))
  have HF := Lib.hid (And.intro he (And.intro ha hi))
  clear hcs m3 m4 m5 l1 l2 he ha hi hx
  go_enter Try.func44, Try.ntmps44
  go_upto_region 1 with fail
  obtain ⟨W, eW, GW, B0⟩ : ∃ W, w.alloc (.cells cs.toArray 49) = W ∧ Hid (Gr w W) ∧ Hid (W.heap[w.heap.size]? = some (.cells cs.toArray 49 (0, 0))) := ⟨_, rfl, Lib.hid (Gr.alloc _ _), Lib.hid (new_at _ _)⟩
  rw [eW]
  clear eW
  obtain ⟨k0, _, _, _, _, _, _, _, _⟩ := it9 HCS.out.1 B0.out
  obtain ⟨r1, r2, r3⟩ := it42 HCS.out.1 HCS.out.2.1 HCS.out.2.2 B0.out
  have R1 := Lib.hid r1
  have R2 := Lib.hid r2
  have R3 := Lib.hid r3
  clear r1 r2 r3
  have S1 := Lib.hid (show (Try.prog.info? 47).map (·.size) = some ce.length by rw [size47, HCS.out.2.1])
  have q7 : (x.kind == 7) = false := by simpa using h7
  by_cases h2 : x.kind = 2 ∨ x.kind = 5
  · have HD := Lib.hid (show exprsOf x = [] by rcases h2 with h | h <;> simp [exprsOf, h])
    rcases h2 with h | h
    all_goals
      rw [h] at k0
      clear h q7 h7
      go_wp2
      go_ret
      rw [HD.out]
      exact ⟨_, _, rfl, ⟨[], RowC.nil _ _, rfl, by simp⟩, GW.out⟩
  have q2 : (x.kind == 2) = false := by simpa using fun h => h2 (.inl h)
  have q5 : (x.kind == 5) = false := by simpa using fun h => h2 (.inr h)
  by_cases h6 : x.kind = 6
  · have HD := Lib.hid (show exprsOf x = [x.at_, x.e, x.if_] by simp [exprsOf, h6])
    rw [h6] at k0
    clear h2 h6 h7 q2 q5 q7
    rw [HF.out.1] at R1
    rw [HF.out.2.1] at R2
    rw [HF.out.2.2] at R3
    have c1 := R1.out
    have c2 := R2.out
    have c3 := R3.out
    have d0 := c1 0 _ rfl
    have f0 := c2 0 _ rfl
    have g0 := c3 0 _ rfl
    have d1 := c1 1 _ rfl
    have f1 := c2 1 _ rfl
    have g1 := c3 1 _ rfl
    have d2 := c1 2 _ rfl
    have f2 := c2 2 _ rfl
    have g2 := c3 2 _ rfl
    have d3 := c1 3 _ rfl
    have f3 := c2 3 _ rfl
    have g3 := c3 3 _ rfl
    have d4 := c1 4 _ rfl
    have f4 := c2 4 _ rfl
    have g4 := c3 4 _ rfl
    have d5 := c1 5 _ rfl
    have f5 := c2 5 _ rfl
    have g5 := c3 5 _ rfl
    have d6 := c1 6 _ rfl
    have f6 := c2 6 _ rfl
    have g6 := c3 6 _ rfl
    have d7 := c1 7 _ rfl
    have f7 := c2 7 _ rfl
    have g7 := c3 7 _ rfl
    have d8 := c1 8 _ rfl
    have f8 := c2 8 _ rfl
    have g8 := c3 8 _ rfl
    have d9 := c1 9 _ rfl
    have f9 := c2 9 _ rfl
    have g9 := c3 9 _ rfl
    have d10 := c1 10 _ rfl
    have f10 := c2 10 _ rfl
    have g10 := c3 10 _ rfl
    clear c1 c2 c3
    go_wp2
    go_ret
    rw [HD.out]
    refine ⟨_, _, rfl, ⟨[hdCells x.at_.hd (.slice aA an aC), hdCells x.e.hd (.slice eA en eC), hdCells x.if_.hd (.slice iA inn iC)], rowc_block (new_at W _) rfl (by simp [hdCells]) rfl (by unfold maxLen; simp), rfl, fun j t c ht hc => ?_⟩, GW.out.trans (Gr.alloc _ _)⟩
    match j, ht, hc with
    | 0, ht, hc => cases ht; cases hc; rw [← HF.out.2.1]; exact HM.out.2.1.gr (GW.out.trans (Gr.alloc _ _))
    | 1, ht, hc => cases ht; cases hc; rw [← HF.out.1]; exact HM.out.1.gr (GW.out.trans (Gr.alloc _ _))
    | 2, ht, hc => cases ht; cases hc; rw [← HF.out.2.2]; exact HM.out.2.2.gr (GW.out.trans (Gr.alloc _ _))
    | j + 3, ht, hc => simp at ht
  have q6 : (x.kind == 6) = false := by simpa using h6
  have HD := Lib.hid (show exprsOf x = [x.e] by simp [exprsOf, h2, h6, h7])
  clear h2 h6 h7
  rw [HF.out.1] at R1
  have c := R1.out
  have d0 := c 0 _ rfl
  have d1 := c 1 _ rfl
  have d2 := c 2 _ rfl
  have d3 := c 3 _ rfl
  have d4 := c 4 _ rfl
  have d5 := c 5 _ rfl
  have d6 := c 6 _ rfl
  have d7 := c 7 _ rfl
  have d8 := c 8 _ rfl
  have d9 := c 9 _ rfl
  have d10 := c 10 _ rfl
  clear c
  go_wp2
  go_ret
  rw [HD.out]
  refine ⟨_, _, rfl, ⟨[hdCells x.e.hd (.slice eA en eC)], rowc_block (new_at W _) rfl (by simp [hdCells]) rfl (by unfold maxLen; simp), rfl, fun j t c ht hc => ?_⟩, GW.out.trans (Gr.alloc _ _)⟩
  match j, ht, hc with
  | 0, ht, hc => cases ht; cases hc; rw [← HF.out.1]; exact HM.out.1.gr (GW.out.trans (Gr.alloc _ _))
  | j + 1, ht, hc => simp at ht
end Go.Proofs.Ytjkaeabnjkhllaa
