/-
  inst's second function value, WALKED: a binding.
-/
import Derived.Test.YtccjbpghpoblhaaDoorK18
namespace Go.Proofs.YtccjbpghpoblhaaDoor
open Go.RowKit

def qBind (T : List LexM.Tk) (i : It) (n : Nat) : PR It := thn (pBind T n) fun d n1 => .ok ({ i with binds := i.binds ++ [d] }, n1)
theorem info85 : (Tryd.prog.info? 85).map (fun i => (i.zero, i.size, i.bytes)) = some (some (.agg #[.string ⟨#[]⟩, .int .i64 0, .string ⟨#[]⟩, .int .i64 0, .string ⟨#[]⟩, .int .i64 0, .string ⟨#[]⟩, .int .i64 0, .string ⟨#[]⟩, .int .i64 0, .string ⟨#[]⟩, .slice none 0 0]), 12, 160) := by kernel_rfl

set_option maxRecDepth 100000 in
set_option maxHeartbeats 2000000 in
theorem bindc_any (P : Pr) (V : Va) (w0 : World) (gI gq gp : Nat) (i : It) (n : Nat) (w : World) (hlt : P.b < w0.heap.size) (hB : P.B ≤ w0.heap.size) (hlen : i.binds.length ≤ 16) (h : Hid (St P V n w)) (hf0 : Hid (Fr P.b w0 w)) (hr : Hid (InRep P w0 gI gq gp i w)) :
    Calls Tryd.prog 66 #[.pointer (some ⟨gq, 0, none⟩), .pointer (some ⟨gp, 0, none⟩)] w (Got P V w0 (qBind P.T i n) (vRep (InRep P w0 gI gq gp))) := by
  obtain ⟨i0, hi, hz0, hz1, hz2⟩ := info_parts info85
  have HI := Lib.hid (And.intro hi (And.intro hz0 (And.intro hz1 hz2)))
  clear hi hz0 hz1 hz2
  obtain ⟨r1, r2, r3, r4, r5, cs, r6, av, bv, ce, ca, ci, rfl, r7, r8, r9, r10, r11⟩ := hr.out
  have r5' : w0.heap.size ≤ gI := r5
  obtain ⟨css, r8, hcl, hcb⟩ := r8
  obtain ⟨A, c0, rfl⟩ := row_form r8
  have b0 : w.cell? ⟨gp, 0, none⟩ = some (.pointer (some ⟨P.b, 0, none⟩)) := by rw [cell_at r4]; rfl
  have b1 : w.cell? ⟨gq, 0, none⟩ = some (.pointer (some ⟨gI, 0, none⟩)) := by rw [cell_at r3]; rfl
  have b2 : w.cell? ⟨gI, 8, none⟩ = some (.slice A i.binds.length c0) := by rw [cell_at r6]; rfl
  have hgIb : gI ≠ P.b := by omega
  have hgpb : gp ≠ P.b := by omega
  have hgqb : gq ≠ P.b := by omega
  have HR := Lib.hid (And.intro r3 (And.intro r4 (And.intro r6 (And.intro r7 (And.intro r8 (And.intro r9 (And.intro r10 r11)))))))
  clear r3 r4 r6 r7 r8 r9 r10 r11 hr
  have hcb' : ∀ w3, Fr P.b w.drew w3 → ∀ (j : Nat) (b : List UInt8 × Ex), i.binds[j]? = some b → ∃ ce, css[j]? = some (.string (str b.1) :: ce) ∧ ExAt w3 (New w0) b.2 ce := fun w3 hf3 j b hb => by
    obtain ⟨ce', m1, m2⟩ := hcb j b hb
    exact ⟨ce', m1, ExAt.keep (w := w) (fun _ h => h) (fun g o hg ho => hf3.keep (w := w.drew) ho (by unfold New at hg; omega)) _ _ m2⟩
  clear hcb
  have argEnd : ∀ (l : List UInt8 × Ex) (n1 g cap : Nat) (w3 w5 : World) (hd : Hd) (Ak : Option Addr) (mk ck : Nat), Hid (pBind P.T n = .ok (l, n1)) → Hid (w3.heap[gq]? = some (.cells #[.pointer (some ⟨gI, 0, none⟩)] 106 (0, 0)) ∧ w3.heap[gp]? = some (.cells #[.pointer (some ⟨P.b, 0, none⟩)] 65 (0, 0)) ∧ w3.heap[gI]? = some (.cells (itCells i av (.slice A i.binds.length c0) ce ca ci).toArray 59 (0, 0))) →
      Hid (ArgsAt w3 (New w0) i.args av ∧ ExAt w3 (New w0) i.e ce ∧ ExAt w3 (New w0) i.at_ ca ∧ ExAt w3 (New w0) i.if_ ci) →
      Hid (ExAt w3 (New w0) l.2 (hdCells hd (.slice Ak mk ck))) → Hid (Fr P.b w.drew w3) → Hid (Fr P.b w0 (w5.setCell ⟨gI, 8, none⟩ (.slice (some ⟨g, 0, none⟩) (i.binds.length + 1) cap)) ∧ St P V n1 (w5.setCell ⟨gI, 8, none⟩ (.slice (some ⟨g, 0, none⟩) (i.binds.length + 1) cap)) ∧
        (w5.setCell ⟨gI, 8, none⟩ (.slice (some ⟨g, 0, none⟩) (i.binds.length + 1) cap)).heap[gI]? = some (.cells ((itCells i av (.slice A i.binds.length c0) ce ca ci).toArray.setIfInBounds 8 (.slice (some ⟨g, 0, none⟩) (i.binds.length + 1) cap)) 59 (0, 0)) ∧
        RowAt (w5.setCell ⟨gI, 8, none⟩ (.slice (some ⟨g, 0, none⟩) (i.binds.length + 1) cap)) (New w0) 85 12 (.slice (some ⟨g, 0, none⟩) (i.binds.length + 1) cap) (i.binds.length + 1) (css.flatten ++ (.string (str l.1) :: hdCells hd (.slice Ak mk ck))) ∧
        TyFr 59 85 w3 (w5.setCell ⟨gI, 8, none⟩ (.slice (some ⟨g, 0, none⟩) (i.binds.length + 1) cap))) →
      Got P V w0 (qBind P.T i n) (vRep (InRep P w0 gI gq gp)) (.returned (.tuple #[])) (w5.setCell ⟨gI, 8, none⟩ (.slice (some ⟨g, 0, none⟩) (i.binds.length + 1) cap)) := by
    intro l n1 g cap w3 w5 hd Ak mk ck E1 HB3 HV3 HX3 HG3 R
    have hcb3 : ∀ (j : Nat) (b : List UInt8 × Ex), i.binds[j]? = some b → ∃ ce, css[j]? = some (.string (str b.1) :: ce) ∧ ExAt w3 (New w0) b.2 ce := hcb' w3 HG3.out
    refine got_ok (a := { i with binds := i.binds ++ [l] }) (m := n1) (by unfold qBind; rw [E1.out, thn_ok]) R.out.1 R.out.2.1 ⟨rfl, r1, r2, ?_, ?_, r5, _, ?_, av, .slice (some ⟨g, 0, none⟩) (i.binds.length + 1) cap, ce, ca, ci, rfl, ?_, ?_, ?_, ?_, ?_⟩
    · exact R.out.2.2.2.2 _ _ _ _ HB3.out.1 (by decide) (by decide)
    · exact R.out.2.2.2.2 _ _ _ _ HB3.out.2.1 (by decide) (by decide)
    · rw [R.out.2.2.1]
      rfl
    · exact RowAt.ty HV3.out.1 R.out.2.2.2.2 (by decide) (by decide)
    · refine ⟨css ++ [.string (str l.1) :: hdCells hd (.slice Ak mk ck)], ?_, by simp [hcl], fun j b hj => ?_⟩
      · have := R.out.2.2.2.1
        simpa using this
      · rw [List.getElem?_append] at hj ⊢
        rw [hcl]
        split at hj
        · rename_i hjl
          rw [if_pos hjl]
          obtain ⟨ce', m1, m2⟩ := hcb3 j b hj
          exact ⟨ce', m1, ExAt.ty R.out.2.2.2.2 (by decide) (by decide) _ _ m2⟩
        · rename_i hjl
          rw [if_neg hjl]
          have hj0 : j - i.binds.length = 0 := by
            rcases Nat.eq_zero_or_pos (j - i.binds.length) with e | e
            · exact e
            · rw [List.getElem?_eq_none (by simp; omega)] at hj; cases hj
          rw [hj0] at hj ⊢
          obtain rfl : l = b := by simpa using hj
          exact ⟨_, rfl, ExAt.ty R.out.2.2.2.2 (by decide) (by decide) _ _ HX3.out⟩
    · exact ExAt.ty R.out.2.2.2.2 (by decide) (by decide) _ _ HV3.out.2.1
    · exact ExAt.ty R.out.2.2.2.2 (by decide) (by decide) _ _ HV3.out.2.2.1
    · exact ExAt.ty R.out.2.2.2.2 (by decide) (by decide) _ _ HV3.out.2.2.2
  rcases hN : pBind P.T n with x | ⟨l, n1⟩
  · have E1 := Lib.hid hN
    clear hN
    go_enter Tryd.func66, Tryd.ntmps66
    go_wp2_with fail
    refine wp_region_held_drew (S := fun w' => w'.cell? ⟨gp, 0, none⟩ = some (.pointer (some ⟨P.b, 0, none⟩)) ∧ w'.cell? ⟨gq, 0, none⟩ = some (.pointer (some ⟨gI, 0, none⟩))) (by kernel_rfl) ?_ (fun hHeld => ?_)
    · exact ⟨b0, b1⟩
    refine wpAnyH_take (i := 0) (v := .pointer (some ⟨gI, 0, none⟩)) rfl (by kernel_rfl) (by kernel_rfl) (by kernel_rfl) (fun _ _ _ h => h) (Or.inl ⟨by rfl, by intro w hSw; (try dsimp only at hSw); go_simp; try rfl⟩) hHeld ?_
    try simp only [Act.put, List.setIfInBounds_toArray]
    refine wpAnyH_take (i := 1) (v := .pointer (some ⟨gI, 0, none⟩)) rfl (by kernel_rfl) (by kernel_rfl) (by kernel_rfl) (fun _ _ _ h => h) (Or.inl ⟨by rfl, by intro w hSw; (try dsimp only at hSw); go_simp; try rfl⟩) hHeld ?_
    try simp only [Act.put]
    refine wpAnyH_take (i := 2) (v := .pointer (some ⟨gI, 0, none⟩)) rfl (by kernel_rfl) (by kernel_rfl) (by kernel_rfl) (fun _ _ _ h => h) (Or.inl ⟨by rfl, by intro w hSw; (try dsimp only at hSw); go_simp; try rfl⟩) hHeld ?_
    try simp only [Act.put]
    refine wpAnyH_take (i := 3) (v := .pointer (some ⟨gI, 8, none⟩)) rfl (by kernel_rfl) (by kernel_rfl) (by kernel_rfl) (fun _ _ _ h => h) (Or.inl ⟨by rfl, by intro w hSw; (try dsimp only at hSw); go_simp; try rfl⟩) hHeld ?_
    try simp only [Act.put]
    refine wpAnyH_take (i := 5) (v := .pointer (some ⟨P.b, 0, none⟩)) rfl (by kernel_rfl) (by kernel_rfl) (by kernel_rfl) (fun _ _ _ h => h) (Or.inl ⟨by rfl, by intro w hSw; (try dsimp only at hSw); go_simp; try rfl⟩) hHeld ?_
    try simp only [Act.put]
    refine wpAnyH_ready (rs := [4, 6]) (by kernel_rfl) (by simp) ?_
    refine (AllReadyH.cons rfl (fun K hK => ?_) (AllReadyH.cons rfl (fun K hK => ?_) AllReadyH.nil))
    · (try simp only [])
      go_simp
      refine hK.out _ _ ⟨b0, b1⟩ (fun hHeld => ?_)
      clear hK K
      try simp only [Act.put, List.setIfInBounds_toArray, List.set_cons_zero, List.set_cons_succ]
      refine wpAnyH_ready (rs := [6]) (by kernel_rfl) (by simp) ?_
      refine (AllReadyH.cons rfl (fun K hK => ?_) AllReadyH.nil)
      go_simp
      refine (bind_bad (Lib.hid h.out.drew) E1.out).mono ?_
      rintro e w3 ⟨rfl, hf3, m4, hs4⟩
      go_simp
      refine ⟨rfl, ?_⟩
      exact got_bad (by unfold qBind; rw [E1.out, thn_err]) (hf0.out.draw.trans hf3) hs4 rfl
    · (try simp only [])
      go_simp
      refine (bind_bad (Lib.hid h.out.drew) E1.out).mono ?_
      rintro e w3 ⟨rfl, hf3, m4, hs4⟩
      go_simp
      refine ⟨rfl, ?_⟩
      exact got_bad (by unfold qBind; rw [E1.out, thn_err]) (hf0.out.draw.trans hf3) hs4 rfl
  · have E1 := Lib.hid hN
    clear hN
    go_enter Tryd.func66, Tryd.ntmps66
    go_wp2_with fail
    refine wp_region_held_drew (S := fun w' => w'.cell? ⟨gp, 0, none⟩ = some (.pointer (some ⟨P.b, 0, none⟩)) ∧ w'.cell? ⟨gq, 0, none⟩ = some (.pointer (some ⟨gI, 0, none⟩))) (by kernel_rfl) ?_ (fun hHeld => ?_)
    · exact ⟨b0, b1⟩
    refine wpAnyH_take (i := 0) (v := .pointer (some ⟨gI, 0, none⟩)) rfl (by kernel_rfl) (by kernel_rfl) (by kernel_rfl) (fun _ _ _ h => h) (Or.inl ⟨by rfl, by intro w hSw; (try dsimp only at hSw); go_simp; try rfl⟩) hHeld ?_
    try simp only [Act.put, List.setIfInBounds_toArray]
    refine wpAnyH_take (i := 1) (v := .pointer (some ⟨gI, 0, none⟩)) rfl (by kernel_rfl) (by kernel_rfl) (by kernel_rfl) (fun _ _ _ h => h) (Or.inl ⟨by rfl, by intro w hSw; (try dsimp only at hSw); go_simp; try rfl⟩) hHeld ?_
    try simp only [Act.put]
    refine wpAnyH_take (i := 2) (v := .pointer (some ⟨gI, 0, none⟩)) rfl (by kernel_rfl) (by kernel_rfl) (by kernel_rfl) (fun _ _ _ h => h) (Or.inl ⟨by rfl, by intro w hSw; (try dsimp only at hSw); go_simp; try rfl⟩) hHeld ?_
    try simp only [Act.put]
    refine wpAnyH_take (i := 3) (v := .pointer (some ⟨gI, 8, none⟩)) rfl (by kernel_rfl) (by kernel_rfl) (by kernel_rfl) (fun _ _ _ h => h) (Or.inl ⟨by rfl, by intro w hSw; (try dsimp only at hSw); go_simp; try rfl⟩) hHeld ?_
    try simp only [Act.put]
    refine wpAnyH_take (i := 5) (v := .pointer (some ⟨P.b, 0, none⟩)) rfl (by kernel_rfl) (by kernel_rfl) (by kernel_rfl) (fun _ _ _ h => h) (Or.inl ⟨by rfl, by intro w hSw; (try dsimp only at hSw); go_simp; try rfl⟩) hHeld ?_
    try simp only [Act.put]
    refine wpAnyH_ready (rs := [4, 6]) (by kernel_rfl) (by simp) ?_
    refine (AllReadyH.cons rfl (fun K hK => ?_) (AllReadyH.cons rfl (fun K hK => ?_) AllReadyH.nil))
    · (try simp only [])
      go_simp
      refine hK.out _ _ ⟨b0, b1⟩ (fun hHeld => ?_)
      clear hK K
      try simp only [Act.put, List.setIfInBounds_toArray, List.set_cons_zero, List.set_cons_succ]
      refine wpAnyH_ready (rs := [6]) (by kernel_rfl) (by simp) ?_
      refine (AllReadyH.cons rfl (fun K hK => ?_) AllReadyH.nil)
      go_simp
      refine (bind_ok (Lib.hid h.out.drew) E1.out).mono ?_
      rintro e w3 ⟨⟨vb, rfl, hd, Ak, mk, ck, rfl, hx⟩, hf3, hs3⟩
      simp only [hdCells]
      go_simp
      have HF3 := Lib.hid (hf0.out.draw.trans hf3)
      have HS3 := Lib.hid hs3
      have HB3 := Lib.hid (And.intro (hf3.keep (w := w.drew) HR.out.1 hgqb) (And.intro (hf3.keep (w := w.drew) HR.out.2.1 hgpb) (hf3.keep (w := w.drew) HR.out.2.2.1 hgIb)))
      have HX3 := Lib.hid (ExAt.keep (F' := New w0) (fun k hk => Nat.le_trans hf0.out.size hk) (fun _ _ _ h => h) _ _ hx)
      have hK3 : ∀ g o, New w0 g → w.heap[g]? = some o → w3.heap[g]? = some o := fun g o hg ho => hf3.keep (w := w.drew) ho (by unfold New at hg; omega)
      have HW3 := Lib.hid (RowAt.keep HR.out.2.2.2.2.1 (fun _ h => h) hK3)
      have HV3 := Lib.hid (And.intro (RowAt.keep HR.out.2.2.2.1 (fun _ h => h) hK3) (And.intro (ExAt.keep (fun _ h => h) hK3 _ _ HR.out.2.2.2.2.2.1) (And.intro (ExAt.keep (fun _ h => h) hK3 _ _ HR.out.2.2.2.2.2.2.1) (ExAt.keep (fun _ h => h) hK3 _ _ HR.out.2.2.2.2.2.2.2))))
      have HO3 := Lib.hid HW3.out.1
      have d1 : w3.cell? ⟨gI, 8, none⟩ = some (.slice A i.binds.length c0) := by rw [cell_at HB3.out.2.2]; rfl
      have hgl3 : gI < w3.heap.size := heap_lt HB3.out.2.2
      have HG3 := Lib.hid hf3
      clear hf3 hs3 hK3 hx
      refine hK.out _ _ ⟨by rw [cell_at HB3.out.2.1]; rfl, by rw [cell_at HB3.out.1]; rfl⟩ (fun hHeld => ?_)
      clear hK K
      try simp only [Act.put, List.setIfInBounds_toArray, List.set_cons_zero, List.set_cons_succ]
      refine wpAnyH_ready (rs := [7]) (by kernel_rfl) (by simp) ?_
      refine (AllReadyH.cons rfl (fun K hK => ?_) AllReadyH.nil)
      go_simp
      refine hK.out _ _ ⟨by rw [cell_at ((Below.heap_alloc _ _ _ (heap_lt HB3.out.2.1)).trans HB3.out.2.1)]; rfl, by rw [cell_at ((Below.heap_alloc _ _ _ (heap_lt HB3.out.1)).trans HB3.out.1)]; rfl⟩ (fun hHeld => ?_)
      clear hK K
      try simp only [Act.put, List.setIfInBounds_toArray, List.set_cons_zero, List.set_cons_succ]
      refine wpAnyH_ready (rs := [8]) (by kernel_rfl) (by simp) ?_
      refine (AllReadyH.cons rfl (fun K hK => ?_) AllReadyH.nil)
      refine step_append_lies _ (by rfl) _ _ _ (by rfl) 0 85 i0 _ 12 160 Tryd.underlying54 HI.out.1 HI.out.2.1 HI.out.2.2.1 HI.out.2.2.2 rfl (by omega) (.slice A i.binds.length c0) i.binds.length css.flatten (by rfl) (HO3.out.alloc _)
        ⟨w3.heap.size, 0, none⟩ 1 1 (.string (str l.1) :: hdCells hd (.slice Ak mk ck)) (by rfl) (by rfl) (World.news_of_block (cs := (.string (str l.1) :: hdCells hd (.slice Ak mk ck)).toArray) (t := 85) (fr := (0, 0)) (heap_alloc_new w3 _)) (by simp [hdCells, Value.oneCell']) (by omega) (by unfold maxLen; omega) (by omega) (by simp) (w3.heap.size + 1) (by simp) ?_
      intro g cap w5 hown5 hgrow5 hat5 hlt5
      have R := Lib.hid (app_rep (off := 8) HS3.out HF3.out hB r5' HB3.out.2.2 (by decide) HW3.out hgrow5 hown5 hat5)
      have K5 := app_cell HB3.out.2.2 (by decide) HW3.out hgrow5
      have k5 := cell_at (o := 8) K5
      have z5 := frozen_at (o := 8) K5
      have q5 := app_cell HB3.out.1 (by decide) HW3.out hgrow5
      have p5 := app_cell HB3.out.2.1 (by decide) HW3.out hgrow5
      clear K5 hown5 hgrow5 hat5
      refine hK.out _ _ ⟨by rw [cell_at p5]; rfl, by rw [cell_at q5]; rfl⟩ (fun hHeld => ?_)
      clear hK K
      try simp only [Act.put, List.setIfInBounds_toArray]
      refine wpAnyH_take (i := 9) (v := .pointer (some ⟨gI, 0, none⟩)) rfl (by kernel_rfl) (by kernel_rfl) (by kernel_rfl) (fun _ _ _ h => h) (Or.inl ⟨by rfl, by intro w hSw; (try dsimp only at hSw); go_simp; try rfl⟩) hHeld ?_
      try simp only [Act.put]
      refine wpAnyH_take (i := 10) (v := .pointer (some ⟨gI, 8, none⟩)) rfl (by kernel_rfl) (by kernel_rfl) (by kernel_rfl) (fun _ _ _ h => h) (Or.inl ⟨by rfl, by intro w hSw; (try dsimp only at hSw); go_simp; try rfl⟩) hHeld ?_
      try simp only [Act.put]
      refine wpAnyH_ready (rs := [11]) (by kernel_rfl) (by simp) ?_
      refine (AllReadyH.cons rfl (fun K hK => ?_) AllReadyH.nil)
      go_simp
      refine hK.out _ _ ⟨by rw [cell_at (R.out.2.2.2.2 _ _ _ _ HB3.out.2.1 (by decide) (by decide))]; rfl, by rw [cell_at (R.out.2.2.2.2 _ _ _ _ HB3.out.1 (by decide) (by decide))]; rfl⟩ (fun hHeld => ?_)
      clear hK K
      refine wpAnyH_done (by kernel_rfl) ?_ _
      go_wp2_with fail
      go_end0
      exact argEnd l n1 g cap w3 w5 hd Ak mk ck E1 HB3 HV3 HX3 HG3 R
    · (try simp only [])
      go_simp
      refine (bind_ok (Lib.hid h.out.drew) E1.out).mono ?_
      rintro e w3 ⟨⟨vb, rfl, hd, Ak, mk, ck, rfl, hx⟩, hf3, hs3⟩
      simp only [hdCells]
      go_simp
      have HF3 := Lib.hid (hf0.out.draw.trans hf3)
      have HS3 := Lib.hid hs3
      have HB3 := Lib.hid (And.intro (hf3.keep (w := w.drew) HR.out.1 hgqb) (And.intro (hf3.keep (w := w.drew) HR.out.2.1 hgpb) (hf3.keep (w := w.drew) HR.out.2.2.1 hgIb)))
      have HX3 := Lib.hid (ExAt.keep (F' := New w0) (fun k hk => Nat.le_trans hf0.out.size hk) (fun _ _ _ h => h) _ _ hx)
      have hK3 : ∀ g o, New w0 g → w.heap[g]? = some o → w3.heap[g]? = some o := fun g o hg ho => hf3.keep (w := w.drew) ho (by unfold New at hg; omega)
      have HW3 := Lib.hid (RowAt.keep HR.out.2.2.2.2.1 (fun _ h => h) hK3)
      have HV3 := Lib.hid (And.intro (RowAt.keep HR.out.2.2.2.1 (fun _ h => h) hK3) (And.intro (ExAt.keep (fun _ h => h) hK3 _ _ HR.out.2.2.2.2.2.1) (And.intro (ExAt.keep (fun _ h => h) hK3 _ _ HR.out.2.2.2.2.2.2.1) (ExAt.keep (fun _ h => h) hK3 _ _ HR.out.2.2.2.2.2.2.2))))
      have HO3 := Lib.hid HW3.out.1
      have d1 : w3.cell? ⟨gI, 8, none⟩ = some (.slice A i.binds.length c0) := by rw [cell_at HB3.out.2.2]; rfl
      have hgl3 : gI < w3.heap.size := heap_lt HB3.out.2.2
      have HG3 := Lib.hid hf3
      clear hf3 hs3 hK3 hx
      refine hK.out _ _ ⟨by rw [cell_at HB3.out.2.1]; rfl, by rw [cell_at HB3.out.1]; rfl⟩ (fun hHeld => ?_)
      clear hK K
      try simp only [Act.put, List.setIfInBounds_toArray, List.set_cons_zero, List.set_cons_succ]
      refine wpAnyH_ready (rs := [4, 7]) (by kernel_rfl) (by simp) ?_
      refine (AllReadyH.cons rfl (fun K hK => ?_) (AllReadyH.cons rfl (fun K hK => ?_) AllReadyH.nil))
      · (try simp only [])
        go_simp
        refine hK.out _ _ ⟨by rw [cell_at HB3.out.2.1]; rfl, by rw [cell_at HB3.out.1]; rfl⟩ (fun hHeld => ?_)
        clear hK K
        try simp only [Act.put, List.setIfInBounds_toArray, List.set_cons_zero, List.set_cons_succ]
        refine wpAnyH_ready (rs := [7]) (by kernel_rfl) (by simp) ?_
        refine (AllReadyH.cons rfl (fun K hK => ?_) AllReadyH.nil)
        go_simp
        refine hK.out _ _ ⟨by rw [cell_at ((Below.heap_alloc _ _ _ (heap_lt HB3.out.2.1)).trans HB3.out.2.1)]; rfl, by rw [cell_at ((Below.heap_alloc _ _ _ (heap_lt HB3.out.1)).trans HB3.out.1)]; rfl⟩ (fun hHeld => ?_)
        clear hK K
        try simp only [Act.put, List.setIfInBounds_toArray, List.set_cons_zero, List.set_cons_succ]
        refine wpAnyH_ready (rs := [8]) (by kernel_rfl) (by simp) ?_
        refine (AllReadyH.cons rfl (fun K hK => ?_) AllReadyH.nil)
        refine step_append_lies _ (by rfl) _ _ _ (by rfl) 0 85 i0 _ 12 160 Tryd.underlying54 HI.out.1 HI.out.2.1 HI.out.2.2.1 HI.out.2.2.2 rfl (by omega) (.slice A i.binds.length c0) i.binds.length css.flatten (by rfl) (HO3.out.alloc _)
          ⟨w3.heap.size, 0, none⟩ 1 1 (.string (str l.1) :: hdCells hd (.slice Ak mk ck)) (by rfl) (by rfl) (World.news_of_block (cs := (.string (str l.1) :: hdCells hd (.slice Ak mk ck)).toArray) (t := 85) (fr := (0, 0)) (heap_alloc_new w3 _)) (by simp [hdCells, Value.oneCell']) (by omega) (by unfold maxLen; omega) (by omega) (by simp) (w3.heap.size + 1) (by simp) ?_
        intro g cap w5 hown5 hgrow5 hat5 hlt5
        have R := Lib.hid (app_rep (off := 8) HS3.out HF3.out hB r5' HB3.out.2.2 (by decide) HW3.out hgrow5 hown5 hat5)
        have K5 := app_cell HB3.out.2.2 (by decide) HW3.out hgrow5
        have k5 := cell_at (o := 8) K5
        have z5 := frozen_at (o := 8) K5
        have q5 := app_cell HB3.out.1 (by decide) HW3.out hgrow5
        have p5 := app_cell HB3.out.2.1 (by decide) HW3.out hgrow5
        clear K5 hown5 hgrow5 hat5
        refine hK.out _ _ ⟨by rw [cell_at p5]; rfl, by rw [cell_at q5]; rfl⟩ (fun hHeld => ?_)
        clear hK K
        try simp only [Act.put, List.setIfInBounds_toArray]
        refine wpAnyH_take (i := 9) (v := .pointer (some ⟨gI, 0, none⟩)) rfl (by kernel_rfl) (by kernel_rfl) (by kernel_rfl) (fun _ _ _ h => h) (Or.inl ⟨by rfl, by intro w hSw; (try dsimp only at hSw); go_simp; try rfl⟩) hHeld ?_
        try simp only [Act.put]
        refine wpAnyH_take (i := 10) (v := .pointer (some ⟨gI, 8, none⟩)) rfl (by kernel_rfl) (by kernel_rfl) (by kernel_rfl) (fun _ _ _ h => h) (Or.inl ⟨by rfl, by intro w hSw; (try dsimp only at hSw); go_simp; try rfl⟩) hHeld ?_
        try simp only [Act.put]
        refine wpAnyH_ready (rs := [11]) (by kernel_rfl) (by simp) ?_
        refine (AllReadyH.cons rfl (fun K hK => ?_) AllReadyH.nil)
        go_simp
        refine hK.out _ _ ⟨by rw [cell_at (R.out.2.2.2.2 _ _ _ _ HB3.out.2.1 (by decide) (by decide))]; rfl, by rw [cell_at (R.out.2.2.2.2 _ _ _ _ HB3.out.1 (by decide) (by decide))]; rfl⟩ (fun hHeld => ?_)
        clear hK K
        refine wpAnyH_done (by kernel_rfl) ?_ _
        go_wp2_with fail
        go_end0
        exact argEnd l n1 g cap w3 w5 hd Ak mk ck E1 HB3 HV3 HX3 HG3 R
      · (try simp only [])
        go_simp
        refine hK.out _ _ ⟨by rw [cell_at ((Below.heap_alloc _ _ _ (heap_lt HB3.out.2.1)).trans HB3.out.2.1)]; rfl, by rw [cell_at ((Below.heap_alloc _ _ _ (heap_lt HB3.out.1)).trans HB3.out.1)]; rfl⟩ (fun hHeld => ?_)
        clear hK K
        try simp only [Act.put, List.setIfInBounds_toArray, List.set_cons_zero, List.set_cons_succ]
        refine wpAnyH_ready (rs := [4]) (by kernel_rfl) (by simp) ?_
        refine (AllReadyH.cons rfl (fun K hK => ?_) AllReadyH.nil)
        have d1' : (w3.alloc (.cells (.string (str l.1) :: hdCells hd (.slice Ak mk ck)).toArray 85)).cell? ⟨gI, 8, none⟩ = some (.slice A i.binds.length c0) := by rw [cell_at ((Below.heap_alloc _ _ _ hgl3).trans HB3.out.2.2)]; rfl
        go_simp
        refine hK.out _ _ ⟨by rw [cell_at ((Below.heap_alloc _ _ _ (heap_lt HB3.out.2.1)).trans HB3.out.2.1)]; rfl, by rw [cell_at ((Below.heap_alloc _ _ _ (heap_lt HB3.out.1)).trans HB3.out.1)]; rfl⟩ (fun hHeld => ?_)
        clear hK K
        try simp only [Act.put, List.setIfInBounds_toArray, List.set_cons_zero, List.set_cons_succ]
        refine wpAnyH_ready (rs := [8]) (by kernel_rfl) (by simp) ?_
        refine (AllReadyH.cons rfl (fun K hK => ?_) AllReadyH.nil)
        refine step_append_lies _ (by rfl) _ _ _ (by rfl) 0 85 i0 _ 12 160 Tryd.underlying54 HI.out.1 HI.out.2.1 HI.out.2.2.1 HI.out.2.2.2 rfl (by omega) (.slice A i.binds.length c0) i.binds.length css.flatten (by rfl) (HO3.out.alloc _)
          ⟨w3.heap.size, 0, none⟩ 1 1 (.string (str l.1) :: hdCells hd (.slice Ak mk ck)) (by rfl) (by rfl) (World.news_of_block (cs := (.string (str l.1) :: hdCells hd (.slice Ak mk ck)).toArray) (t := 85) (fr := (0, 0)) (heap_alloc_new w3 _)) (by simp [hdCells, Value.oneCell']) (by omega) (by unfold maxLen; omega) (by omega) (by simp) (w3.heap.size + 1) (by simp) ?_
        intro g cap w5 hown5 hgrow5 hat5 hlt5
        have R := Lib.hid (app_rep (off := 8) HS3.out HF3.out hB r5' HB3.out.2.2 (by decide) HW3.out hgrow5 hown5 hat5)
        have K5 := app_cell HB3.out.2.2 (by decide) HW3.out hgrow5
        have k5 := cell_at (o := 8) K5
        have z5 := frozen_at (o := 8) K5
        have q5 := app_cell HB3.out.1 (by decide) HW3.out hgrow5
        have p5 := app_cell HB3.out.2.1 (by decide) HW3.out hgrow5
        clear K5 hown5 hgrow5 hat5
        refine hK.out _ _ ⟨by rw [cell_at p5]; rfl, by rw [cell_at q5]; rfl⟩ (fun hHeld => ?_)
        clear hK K
        try simp only [Act.put, List.setIfInBounds_toArray]
        refine wpAnyH_take (i := 9) (v := .pointer (some ⟨gI, 0, none⟩)) rfl (by kernel_rfl) (by kernel_rfl) (by kernel_rfl) (fun _ _ _ h => h) (Or.inl ⟨by rfl, by intro w hSw; (try dsimp only at hSw); go_simp; try rfl⟩) hHeld ?_
        try simp only [Act.put]
        refine wpAnyH_take (i := 10) (v := .pointer (some ⟨gI, 8, none⟩)) rfl (by kernel_rfl) (by kernel_rfl) (by kernel_rfl) (fun _ _ _ h => h) (Or.inl ⟨by rfl, by intro w hSw; (try dsimp only at hSw); go_simp; try rfl⟩) hHeld ?_
        try simp only [Act.put]
        refine wpAnyH_ready (rs := [11]) (by kernel_rfl) (by simp) ?_
        refine (AllReadyH.cons rfl (fun K hK => ?_) AllReadyH.nil)
        go_simp
        refine hK.out _ _ ⟨by rw [cell_at (R.out.2.2.2.2 _ _ _ _ HB3.out.2.1 (by decide) (by decide))]; rfl, by rw [cell_at (R.out.2.2.2.2 _ _ _ _ HB3.out.1 (by decide) (by decide))]; rfl⟩ (fun hHeld => ?_)
        clear hK K
        refine wpAnyH_done (by kernel_rfl) ?_ _
        go_wp2_with fail
        go_end0
        exact argEnd l n1 g cap w3 w5 hd Ak mk ck E1 HB3 HV3 HX3 HG3 R

end Go.Proofs.YtccjbpghpoblhaaDoor

