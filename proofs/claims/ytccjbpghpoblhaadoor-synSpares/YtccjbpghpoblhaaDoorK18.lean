/-
  inst's function values, WALKED: an argument, a binding.
-/
import Derived.Test.YtccjbpghpoblhaaDoorK17
namespace Go.Proofs.YtccjbpghpoblhaaDoor
open Go.RowKit

theorem BindsAt.keep {w w' : World} {F F' : Nat → Prop} {l : List (List UInt8 × Ex)} {v : Value} (h : BindsAt w F l v) (hF : ∀ g, F g → F' g) (hk : ∀ g o, F g → w.heap[g]? = some o → w'.heap[g]? = some o) : BindsAt w' F' l v := by
  obtain ⟨css, h2, h3, h4⟩ := h
  refine ⟨css, h2.keep hF hk, h3, fun j b hb => ?_⟩
  obtain ⟨ce', k1, k2⟩ := h4 j b hb
  exact ⟨ce', k1, ExAt.keep hF hk _ _ k2⟩
theorem BindsAt.ty {w u : World} {F : Nat → Prop} {T e : TypeId} {l : List (List UInt8 × Ex)} {v : Value} (h : BindsAt w F l v) (hk : TyFr T e w u) (h1 : 57 ≠ T) (h2 : 57 ≠ e) (h3 : 85 ≠ T) (h4 : 85 ≠ e) : BindsAt u F l v := by
  obtain ⟨css, k2, k3, k4⟩ := h
  refine ⟨css, k2.ty hk h3 h4, k3, fun j b hb => ?_⟩
  obtain ⟨ce', m1, m2⟩ := k4 j b hb
  exact ⟨ce', m1, ExAt.ty hk h1 h2 _ _ m2⟩

/-- an instance's item, and the two boxes that its function values hold -/
def InRep (P : Pr) (w0 : World) (gI gq gp : Nat) (i : It) (w : World) : Prop :=
  w0.heap.size ≤ gq ∧ w0.heap.size ≤ gp ∧ w.heap[gq]? = some (.cells #[.pointer (some ⟨gI, 0, none⟩)] 106 (0, 0)) ∧ w.heap[gp]? = some (.cells #[.pointer (some ⟨P.b, 0, none⟩)] 65 (0, 0)) ∧ ItBlk w (New w0) gI i
theorem InRep.fr {P : Pr} {w0 w w' : World} {gI gq gp : Nat} {i : It} (h : InRep P w0 gI gq gp i w) (hf : Fr P.b w w') (hlt : P.b < w0.heap.size) : InRep P w0 gI gq gp i w' := by
  obtain ⟨h1, h2, h3, h4, h5⟩ := h
  exact ⟨h1, h2, hf.keep h3 (by omega), hf.keep h4 (by omega), h5.fr hf hlt⟩
theorem box_ne {w : World} {g k : Nat} {c c' : Array Value} {T T' : TypeId} (h1 : w.heap[g]? = some (.cells c T (0, 0))) (h2 : w.heap[k]? = some (.cells c' T' (0, 0))) (hne : T ≠ T') : g ≠ k := by
  intro e; subst e; rw [h1] at h2; injection h2 with h2; injection h2 with _ h2; exact hne h2

def qArg (T : List LexM.Tk) (i : It) (n : Nat) : PR It := thn (pDim T n) fun d n1 => .ok ({ i with args := i.args ++ [d] }, n1)
theorem info52 : (Tryd.prog.info? 52).map (fun i => (i.zero, i.size, i.bytes)) = some (some (.agg #[.string ⟨#[]⟩, .int .i64 0]), 2, 24) := by kernel_rfl

set_option maxRecDepth 100000 in
set_option maxHeartbeats 2000000 in
theorem arg_any (P : Pr) (V : Va) (w0 : World) (gI gq gp : Nat) (i : It) (n : Nat) (w : World) (hlt : P.b < w0.heap.size) (hB : P.B ≤ w0.heap.size) (hlen : i.args.length ≤ 16) (h : Hid (St P V n w)) (hf0 : Hid (Fr P.b w0 w)) (hr : Hid (InRep P w0 gI gq gp i w)) :
    Calls Tryd.prog 65 #[.pointer (some ⟨gq, 0, none⟩), .pointer (some ⟨gp, 0, none⟩)] w (Got P V w0 (qArg P.T i n) (vRep (InRep P w0 gI gq gp))) := by
  obtain ⟨i0, hi, hz0, hz1, hz2⟩ := info_parts info52
  have HI := Lib.hid (And.intro hi (And.intro hz0 (And.intro hz1 hz2)))
  clear hi hz0 hz1 hz2
  obtain ⟨r1, r2, r3, r4, r5, cs, r6, av, bv, ce, ca, ci, rfl, r7, r8, r9, r10, r11⟩ := hr.out
  have r5' : w0.heap.size ≤ gI := r5
  obtain ⟨A, c0, rfl⟩ := row_form r7
  have b0 : w.cell? ⟨gp, 0, none⟩ = some (.pointer (some ⟨P.b, 0, none⟩)) := by rw [cell_at r4]; rfl
  have b1 : w.cell? ⟨gq, 0, none⟩ = some (.pointer (some ⟨gI, 0, none⟩)) := by rw [cell_at r3]; rfl
  have b2 : w.cell? ⟨gI, 7, none⟩ = some (.slice A i.args.length c0) := by rw [cell_at r6]; rfl
  have hgIb : gI ≠ P.b := by omega
  have hgpb : gp ≠ P.b := by omega
  have hgqb : gq ≠ P.b := by omega
  have HR := Lib.hid (And.intro r3 (And.intro r4 (And.intro r6 (And.intro r7 (And.intro r8 (And.intro r9 (And.intro r10 r11)))))))
  clear r3 r4 r6 r7 r8 r9 r10 r11 hr
  have argEnd : ∀ (l : Dm) (n1 g cap : Nat) (w3 w5 : World), Hid (pDim P.T n = .ok (l, n1)) → Hid (w3.heap[gq]? = some (.cells #[.pointer (some ⟨gI, 0, none⟩)] 106 (0, 0)) ∧ w3.heap[gp]? = some (.cells #[.pointer (some ⟨P.b, 0, none⟩)] 65 (0, 0)) ∧ w3.heap[gI]? = some (.cells (itCells i (.slice A i.args.length c0) bv ce ca ci).toArray 59 (0, 0))) →
      Hid (BindsAt w3 (New w0) i.binds bv ∧ ExAt w3 (New w0) i.e ce ∧ ExAt w3 (New w0) i.at_ ca ∧ ExAt w3 (New w0) i.if_ ci) →
      Hid (Fr P.b w0 (w5.setCell ⟨gI, 7, none⟩ (.slice (some ⟨g, 0, none⟩) (i.args.length + 1) cap)) ∧ St P V n1 (w5.setCell ⟨gI, 7, none⟩ (.slice (some ⟨g, 0, none⟩) (i.args.length + 1) cap)) ∧
        (w5.setCell ⟨gI, 7, none⟩ (.slice (some ⟨g, 0, none⟩) (i.args.length + 1) cap)).heap[gI]? = some (.cells ((itCells i (.slice A i.args.length c0) bv ce ca ci).toArray.setIfInBounds 7 (.slice (some ⟨g, 0, none⟩) (i.args.length + 1) cap)) 59 (0, 0)) ∧
        RowAt (w5.setCell ⟨gI, 7, none⟩ (.slice (some ⟨g, 0, none⟩) (i.args.length + 1) cap)) (New w0) 52 2 (.slice (some ⟨g, 0, none⟩) (i.args.length + 1) cap) (i.args.length + 1) (i.args.flatMap dmCells ++ [.string (str l.1), .int .i64 (l.2 : Nat)]) ∧
        TyFr 59 52 w3 (w5.setCell ⟨gI, 7, none⟩ (.slice (some ⟨g, 0, none⟩) (i.args.length + 1) cap))) →
      Got P V w0 (qArg P.T i n) (vRep (InRep P w0 gI gq gp)) (.returned (.tuple #[])) (w5.setCell ⟨gI, 7, none⟩ (.slice (some ⟨g, 0, none⟩) (i.args.length + 1) cap)) := by
    intro l n1 g cap w3 w5 E1 HB3 HV3 R
    refine got_ok (a := { i with args := i.args ++ [l] }) (m := n1) (by unfold qArg; rw [E1.out, thn_ok]) R.out.1 R.out.2.1 ⟨rfl, r1, r2, ?_, ?_, r5, _, ?_, .slice (some ⟨g, 0, none⟩) (i.args.length + 1) cap, bv, ce, ca, ci, rfl, ?_, ?_, ?_, ?_, ?_⟩
    · exact R.out.2.2.2.2 _ _ _ _ HB3.out.1 (by decide) (by decide)
    · exact R.out.2.2.2.2 _ _ _ _ HB3.out.2.1 (by decide) (by decide)
    · rw [R.out.2.2.1]
      rfl
    · have := R.out.2.2.2.1
      unfold ArgsAt
      simpa [dmCells] using this
    · exact HV3.out.1.ty R.out.2.2.2.2 (by decide) (by decide) (by decide) (by decide)
    · exact ExAt.ty R.out.2.2.2.2 (by decide) (by decide) _ _ HV3.out.2.1
    · exact ExAt.ty R.out.2.2.2.2 (by decide) (by decide) _ _ HV3.out.2.2.1
    · exact ExAt.ty R.out.2.2.2.2 (by decide) (by decide) _ _ HV3.out.2.2.2
  rcases hN : pDim P.T n with x | ⟨l, n1⟩
  · have E1 := Lib.hid hN
    clear hN
    go_enter Tryd.func65, Tryd.ntmps65
    go_wp2_with fail
    refine wp_region_held_drew (S := fun w' => w'.cell? ⟨gp, 0, none⟩ = some (.pointer (some ⟨P.b, 0, none⟩)) ∧ w'.cell? ⟨gq, 0, none⟩ = some (.pointer (some ⟨gI, 0, none⟩))) (by kernel_rfl) ?_ (fun hHeld => ?_)
    · exact ⟨b0, b1⟩
    refine wpAnyH_take (i := 0) (v := .pointer (some ⟨gI, 0, none⟩)) rfl (by kernel_rfl) (by kernel_rfl) (by kernel_rfl) (fun _ _ _ h => h) (Or.inl ⟨by rfl, by intro w hSw; (try dsimp only at hSw); go_simp; try rfl⟩) hHeld ?_
    try simp only [Act.put, List.setIfInBounds_toArray]
    refine wpAnyH_take (i := 1) (v := .pointer (some ⟨gI, 0, none⟩)) rfl (by kernel_rfl) (by kernel_rfl) (by kernel_rfl) (fun _ _ _ h => h) (Or.inl ⟨by rfl, by intro w hSw; (try dsimp only at hSw); go_simp; try rfl⟩) hHeld ?_
    try simp only [Act.put]
    refine wpAnyH_take (i := 2) (v := .pointer (some ⟨gI, 0, none⟩)) rfl (by kernel_rfl) (by kernel_rfl) (by kernel_rfl) (fun _ _ _ h => h) (Or.inl ⟨by rfl, by intro w hSw; (try dsimp only at hSw); go_simp; try rfl⟩) hHeld ?_
    try simp only [Act.put]
    refine wpAnyH_take (i := 3) (v := .pointer (some ⟨gI, 7, none⟩)) rfl (by kernel_rfl) (by kernel_rfl) (by kernel_rfl) (fun _ _ _ h => h) (Or.inl ⟨by rfl, by intro w hSw; (try dsimp only at hSw); go_simp; try rfl⟩) hHeld ?_
    try simp only [Act.put]
    refine wpAnyH_take (i := 5) (v := .pointer (some ⟨P.b, 0, none⟩)) rfl (by kernel_rfl) (by kernel_rfl) (by kernel_rfl) (fun _ _ _ h => h) (Or.inl ⟨by rfl, by intro w hSw; (try dsimp only at hSw); go_simp; try rfl⟩) hHeld ?_
    try simp only [Act.put]
    refine wpAnyH_ready (rs := [4, 6]) (by kernel_rfl) (by simp) ?_
    refine (AllReadyH.cons rfl (fun K hK => ?_) (AllReadyH.cons rfl (fun K hK => ?_) AllReadyH.nil))
    · (try simp only [])
      go_simp
      refine hK.out _ _ ⟨b0, b1⟩ (fun hHeld => ?_)
      clear hK K
      try simp only [Act.put, List.setIfInBounds_toArray, List.set_cons_zero, List.set_cons_succ]
      refine wpAnyH_ready (rs := [6]) (by kernel_rfl) (by simp) ?_
      refine (AllReadyH.cons rfl (fun K hK => ?_) AllReadyH.nil)
      go_simp
      refine (dim_bad (Lib.hid h.out.drew) E1.out).mono ?_
      rintro e w3 ⟨rfl, hf3, m4, hs4⟩
      go_simp
      refine ⟨rfl, ?_⟩
      exact got_bad (by unfold qArg; rw [E1.out, thn_err]) (hf0.out.draw.trans hf3) hs4 rfl
    · (try simp only [])
      go_simp
      refine (dim_bad (Lib.hid h.out.drew) E1.out).mono ?_
      rintro e w3 ⟨rfl, hf3, m4, hs4⟩
      go_simp
      refine ⟨rfl, ?_⟩
      exact got_bad (by unfold qArg; rw [E1.out, thn_err]) (hf0.out.draw.trans hf3) hs4 rfl
  · have E1 := Lib.hid hN
    clear hN
    go_enter Tryd.func65, Tryd.ntmps65
    go_wp2_with fail
    refine wp_region_held_drew (S := fun w' => w'.cell? ⟨gp, 0, none⟩ = some (.pointer (some ⟨P.b, 0, none⟩)) ∧ w'.cell? ⟨gq, 0, none⟩ = some (.pointer (some ⟨gI, 0, none⟩))) (by kernel_rfl) ?_ (fun hHeld => ?_)
    · exact ⟨b0, b1⟩
    refine wpAnyH_take (i := 0) (v := .pointer (some ⟨gI, 0, none⟩)) rfl (by kernel_rfl) (by kernel_rfl) (by kernel_rfl) (fun _ _ _ h => h) (Or.inl ⟨by rfl, by intro w hSw; (try dsimp only at hSw); go_simp; try rfl⟩) hHeld ?_
    try simp only [Act.put, List.setIfInBounds_toArray]
    refine wpAnyH_take (i := 1) (v := .pointer (some ⟨gI, 0, none⟩)) rfl (by kernel_rfl) (by kernel_rfl) (by kernel_rfl) (fun _ _ _ h => h) (Or.inl ⟨by rfl, by intro w hSw; (try dsimp only at hSw); go_simp; try rfl⟩) hHeld ?_
    try simp only [Act.put]
    refine wpAnyH_take (i := 2) (v := .pointer (some ⟨gI, 0, none⟩)) rfl (by kernel_rfl) (by kernel_rfl) (by kernel_rfl) (fun _ _ _ h => h) (Or.inl ⟨by rfl, by intro w hSw; (try dsimp only at hSw); go_simp; try rfl⟩) hHeld ?_
    try simp only [Act.put]
    refine wpAnyH_take (i := 3) (v := .pointer (some ⟨gI, 7, none⟩)) rfl (by kernel_rfl) (by kernel_rfl) (by kernel_rfl) (fun _ _ _ h => h) (Or.inl ⟨by rfl, by intro w hSw; (try dsimp only at hSw); go_simp; try rfl⟩) hHeld ?_
    try simp only [Act.put]
    refine wpAnyH_take (i := 5) (v := .pointer (some ⟨P.b, 0, none⟩)) rfl (by kernel_rfl) (by kernel_rfl) (by kernel_rfl) (fun _ _ _ h => h) (Or.inl ⟨by rfl, by intro w hSw; (try dsimp only at hSw); go_simp; try rfl⟩) hHeld ?_
    try simp only [Act.put]
    refine wpAnyH_ready (rs := [4, 6]) (by kernel_rfl) (by simp) ?_
    refine (AllReadyH.cons rfl (fun K hK => ?_) (AllReadyH.cons rfl (fun K hK => ?_) AllReadyH.nil))
    · (try simp only [])
      go_simp
      refine hK.out _ _ ⟨b0, b1⟩ (fun hHeld => ?_)
      clear hK K
      try simp only [Act.put, List.setIfInBounds_toArray, List.set_cons_zero, List.set_cons_succ]
      refine wpAnyH_ready (rs := [6]) (by kernel_rfl) (by simp) ?_
      refine (AllReadyH.cons rfl (fun K hK => ?_) AllReadyH.nil)
      go_simp
      refine (dim_ok (Lib.hid h.out.drew) E1.out).mono ?_
      rintro e w3 ⟨rfl, hf3, hs3⟩
      go_simp
      have HF3 := Lib.hid (hf0.out.draw.trans hf3)
      have HS3 := Lib.hid hs3
      have HB3 := Lib.hid (And.intro (hf3.keep (w := w.drew) HR.out.1 hgqb) (And.intro (hf3.keep (w := w.drew) HR.out.2.1 hgpb) (hf3.keep (w := w.drew) HR.out.2.2.1 hgIb)))
      have hK3 : ∀ g o, New w0 g → w.heap[g]? = some o → w3.heap[g]? = some o := fun g o hg ho => hf3.keep (w := w.drew) ho (by unfold New at hg; omega)
      have HW3 := Lib.hid (RowAt.keep HR.out.2.2.2.1 (fun _ h => h) hK3)
      have HV3 := Lib.hid (And.intro (HR.out.2.2.2.2.1.keep (fun _ h => h) hK3) (And.intro (ExAt.keep (fun _ h => h) hK3 _ _ HR.out.2.2.2.2.2.1) (And.intro (ExAt.keep (fun _ h => h) hK3 _ _ HR.out.2.2.2.2.2.2.1) (ExAt.keep (fun _ h => h) hK3 _ _ HR.out.2.2.2.2.2.2.2))))
      have HO3 := Lib.hid HW3.out.1
      have d1 : w3.cell? ⟨gI, 7, none⟩ = some (.slice A i.args.length c0) := by rw [cell_at HB3.out.2.2]; rfl
      have hgl3 : gI < w3.heap.size := heap_lt HB3.out.2.2
      clear hf3 hs3 hK3
      refine hK.out _ _ ⟨by rw [cell_at HB3.out.2.1]; rfl, by rw [cell_at HB3.out.1]; rfl⟩ (fun hHeld => ?_)
      clear hK K
      try simp only [Act.put, List.setIfInBounds_toArray, List.set_cons_zero, List.set_cons_succ]
      refine wpAnyH_ready (rs := [7]) (by kernel_rfl) (by simp) ?_
      refine (AllReadyH.cons rfl (fun K hK => ?_) AllReadyH.nil)
      go_simp
      refine hK.out _ _ ⟨by rw [cell_at ((Below.heap_alloc _ _ _ (heap_lt HB3.out.2.1)).trans HB3.out.2.1)]; rfl, by rw [cell_at ((Below.heap_alloc _ _ _ (heap_lt HB3.out.1)).trans HB3.out.1)]; rfl⟩ (fun hHeld => ?_)
      clear hK K
      try simp only [Act.put, List.setIfInBounds_toArray, List.set_cons_zero, List.set_cons_succ]
      refine wpAnyH_ready (rs := [8]) (by kernel_rfl) (by simp) ?_
      refine (AllReadyH.cons rfl (fun K hK => ?_) AllReadyH.nil)
      refine step_append_lies _ (by rfl) _ _ _ (by rfl) 0 52 i0 _ 2 24 Tryd.underlying53 HI.out.1 HI.out.2.1 HI.out.2.2.1 HI.out.2.2.2 rfl (by omega) (.slice A i.args.length c0) i.args.length (i.args.flatMap dmCells) (by rfl) (HO3.out.alloc _)
        ⟨w3.heap.size, 0, none⟩ 1 1 [.string (str l.1), .int .i64 (l.2 : Nat)] (by rfl) (by rfl) (World.news_of_block (cs := #[.string (str l.1), .int .i64 (l.2 : Nat)]) (t := 52) (fr := (0, 0)) (heap_alloc_new w3 _)) (by simp [Value.oneCell']) (by omega) (by unfold maxLen; omega) (by omega) (by simp) (w3.heap.size + 1) (by simp) ?_
      intro g cap w5 hown5 hgrow5 hat5 hlt5
      have R := Lib.hid (app_rep (off := 7) HS3.out HF3.out hB r5' HB3.out.2.2 (by decide) HW3.out hgrow5 hown5 hat5)
      have K5 := app_cell HB3.out.2.2 (by decide) HW3.out hgrow5
      have k5 := cell_at (o := 7) K5
      have z5 := frozen_at (o := 7) K5
      have q5 := app_cell HB3.out.1 (by decide) HW3.out hgrow5
      have p5 := app_cell HB3.out.2.1 (by decide) HW3.out hgrow5
      clear K5 hown5 hgrow5 hat5
      refine hK.out _ _ ⟨by rw [cell_at p5]; rfl, by rw [cell_at q5]; rfl⟩ (fun hHeld => ?_)
      clear hK K
      try simp only [Act.put, List.setIfInBounds_toArray]
      refine wpAnyH_take (i := 9) (v := .pointer (some ⟨gI, 0, none⟩)) rfl (by kernel_rfl) (by kernel_rfl) (by kernel_rfl) (fun _ _ _ h => h) (Or.inl ⟨by rfl, by intro w hSw; (try dsimp only at hSw); go_simp; try rfl⟩) hHeld ?_
      try simp only [Act.put]
      refine wpAnyH_take (i := 10) (v := .pointer (some ⟨gI, 7, none⟩)) rfl (by kernel_rfl) (by kernel_rfl) (by kernel_rfl) (fun _ _ _ h => h) (Or.inl ⟨by rfl, by intro w hSw; (try dsimp only at hSw); go_simp; try rfl⟩) hHeld ?_
      try simp only [Act.put]
      refine wpAnyH_ready (rs := [11]) (by kernel_rfl) (by simp) ?_
      refine (AllReadyH.cons rfl (fun K hK => ?_) AllReadyH.nil)
      go_simp
      refine hK.out _ _ ⟨by rw [cell_at (R.out.2.2.2.2 _ _ _ _ HB3.out.2.1 (by decide) (by decide))]; rfl, by rw [cell_at (R.out.2.2.2.2 _ _ _ _ HB3.out.1 (by decide) (by decide))]; rfl⟩ (fun hHeld => ?_)
      clear hK K
      refine wpAnyH_done (by kernel_rfl) ?_ _
      go_wp2_with fail
      go_end0
      exact argEnd l n1 g cap w3 w5 E1 HB3 HV3 R
    · (try simp only [])
      go_simp
      refine (dim_ok (Lib.hid h.out.drew) E1.out).mono ?_
      rintro e w3 ⟨rfl, hf3, hs3⟩
      go_simp
      have HF3 := Lib.hid (hf0.out.draw.trans hf3)
      have HS3 := Lib.hid hs3
      have HB3 := Lib.hid (And.intro (hf3.keep (w := w.drew) HR.out.1 hgqb) (And.intro (hf3.keep (w := w.drew) HR.out.2.1 hgpb) (hf3.keep (w := w.drew) HR.out.2.2.1 hgIb)))
      have hK3 : ∀ g o, New w0 g → w.heap[g]? = some o → w3.heap[g]? = some o := fun g o hg ho => hf3.keep (w := w.drew) ho (by unfold New at hg; omega)
      have HW3 := Lib.hid (RowAt.keep HR.out.2.2.2.1 (fun _ h => h) hK3)
      have HV3 := Lib.hid (And.intro (HR.out.2.2.2.2.1.keep (fun _ h => h) hK3) (And.intro (ExAt.keep (fun _ h => h) hK3 _ _ HR.out.2.2.2.2.2.1) (And.intro (ExAt.keep (fun _ h => h) hK3 _ _ HR.out.2.2.2.2.2.2.1) (ExAt.keep (fun _ h => h) hK3 _ _ HR.out.2.2.2.2.2.2.2))))
      have HO3 := Lib.hid HW3.out.1
      have d1 : w3.cell? ⟨gI, 7, none⟩ = some (.slice A i.args.length c0) := by rw [cell_at HB3.out.2.2]; rfl
      have hgl3 : gI < w3.heap.size := heap_lt HB3.out.2.2
      clear hf3 hs3 hK3
      refine hK.out _ _ ⟨by rw [cell_at HB3.out.2.1]; rfl, by rw [cell_at HB3.out.1]; rfl⟩ (fun hHeld => ?_)
      clear hK K
      try simp only [Act.put, List.setIfInBounds_toArray, List.set_cons_zero, List.set_cons_succ]
      refine wpAnyH_ready (rs := [4, 7]) (by kernel_rfl) (by simp) ?_
      refine (AllReadyH.cons rfl (fun K hK => ?_) (AllReadyH.cons rfl (fun K hK => ?_) AllReadyH.nil))
      · (try simp only [])
        go_simp
        refine hK.out _ _ ⟨by rw [cell_at HB3.out.2.1]; rfl, by rw [cell_at HB3.out.1]; rfl⟩ (fun hHeld => ?_)
        clear hK K
        try simp only [Act.put, List.setIfInBounds_toArray, List.set_cons_zero, List.set_cons_succ]
        refine wpAnyH_ready (rs := [7]) (by kernel_rfl) (by simp) ?_
        refine (AllReadyH.cons rfl (fun K hK => ?_) AllReadyH.nil)
        go_simp
        refine hK.out _ _ ⟨by rw [cell_at ((Below.heap_alloc _ _ _ (heap_lt HB3.out.2.1)).trans HB3.out.2.1)]; rfl, by rw [cell_at ((Below.heap_alloc _ _ _ (heap_lt HB3.out.1)).trans HB3.out.1)]; rfl⟩ (fun hHeld => ?_)
        clear hK K
        try simp only [Act.put, List.setIfInBounds_toArray, List.set_cons_zero, List.set_cons_succ]
        refine wpAnyH_ready (rs := [8]) (by kernel_rfl) (by simp) ?_
        refine (AllReadyH.cons rfl (fun K hK => ?_) AllReadyH.nil)
        refine step_append_lies _ (by rfl) _ _ _ (by rfl) 0 52 i0 _ 2 24 Tryd.underlying53 HI.out.1 HI.out.2.1 HI.out.2.2.1 HI.out.2.2.2 rfl (by omega) (.slice A i.args.length c0) i.args.length (i.args.flatMap dmCells) (by rfl) (HO3.out.alloc _)
          ⟨w3.heap.size, 0, none⟩ 1 1 [.string (str l.1), .int .i64 (l.2 : Nat)] (by rfl) (by rfl) (World.news_of_block (cs := #[.string (str l.1), .int .i64 (l.2 : Nat)]) (t := 52) (fr := (0, 0)) (heap_alloc_new w3 _)) (by simp [Value.oneCell']) (by omega) (by unfold maxLen; omega) (by omega) (by simp) (w3.heap.size + 1) (by simp) ?_
        intro g cap w5 hown5 hgrow5 hat5 hlt5
        have R := Lib.hid (app_rep (off := 7) HS3.out HF3.out hB r5' HB3.out.2.2 (by decide) HW3.out hgrow5 hown5 hat5)
        have K5 := app_cell HB3.out.2.2 (by decide) HW3.out hgrow5
        have k5 := cell_at (o := 7) K5
        have z5 := frozen_at (o := 7) K5
        have q5 := app_cell HB3.out.1 (by decide) HW3.out hgrow5
        have p5 := app_cell HB3.out.2.1 (by decide) HW3.out hgrow5
        clear K5 hown5 hgrow5 hat5
        refine hK.out _ _ ⟨by rw [cell_at p5]; rfl, by rw [cell_at q5]; rfl⟩ (fun hHeld => ?_)
        clear hK K
        try simp only [Act.put, List.setIfInBounds_toArray]
        refine wpAnyH_take (i := 9) (v := .pointer (some ⟨gI, 0, none⟩)) rfl (by kernel_rfl) (by kernel_rfl) (by kernel_rfl) (fun _ _ _ h => h) (Or.inl ⟨by rfl, by intro w hSw; (try dsimp only at hSw); go_simp; try rfl⟩) hHeld ?_
        try simp only [Act.put]
        refine wpAnyH_take (i := 10) (v := .pointer (some ⟨gI, 7, none⟩)) rfl (by kernel_rfl) (by kernel_rfl) (by kernel_rfl) (fun _ _ _ h => h) (Or.inl ⟨by rfl, by intro w hSw; (try dsimp only at hSw); go_simp; try rfl⟩) hHeld ?_
        try simp only [Act.put]
        refine wpAnyH_ready (rs := [11]) (by kernel_rfl) (by simp) ?_
        refine (AllReadyH.cons rfl (fun K hK => ?_) AllReadyH.nil)
        go_simp
        refine hK.out _ _ ⟨by rw [cell_at (R.out.2.2.2.2 _ _ _ _ HB3.out.2.1 (by decide) (by decide))]; rfl, by rw [cell_at (R.out.2.2.2.2 _ _ _ _ HB3.out.1 (by decide) (by decide))]; rfl⟩ (fun hHeld => ?_)
        clear hK K
        refine wpAnyH_done (by kernel_rfl) ?_ _
        go_wp2_with fail
        go_end0
        exact argEnd l n1 g cap w3 w5 E1 HB3 HV3 R
      · (try simp only [])
        go_simp
        refine hK.out _ _ ⟨by rw [cell_at ((Below.heap_alloc _ _ _ (heap_lt HB3.out.2.1)).trans HB3.out.2.1)]; rfl, by rw [cell_at ((Below.heap_alloc _ _ _ (heap_lt HB3.out.1)).trans HB3.out.1)]; rfl⟩ (fun hHeld => ?_)
        clear hK K
        try simp only [Act.put, List.setIfInBounds_toArray, List.set_cons_zero, List.set_cons_succ]
        refine wpAnyH_ready (rs := [4]) (by kernel_rfl) (by simp) ?_
        refine (AllReadyH.cons rfl (fun K hK => ?_) AllReadyH.nil)
        have d1' : (w3.alloc (.cells #[.string (str l.1), .int .i64 (l.2 : Nat)] 52)).cell? ⟨gI, 7, none⟩ = some (.slice A i.args.length c0) := by rw [cell_at ((Below.heap_alloc _ _ _ hgl3).trans HB3.out.2.2)]; rfl
        go_simp
        refine hK.out _ _ ⟨by rw [cell_at ((Below.heap_alloc _ _ _ (heap_lt HB3.out.2.1)).trans HB3.out.2.1)]; rfl, by rw [cell_at ((Below.heap_alloc _ _ _ (heap_lt HB3.out.1)).trans HB3.out.1)]; rfl⟩ (fun hHeld => ?_)
        clear hK K
        try simp only [Act.put, List.setIfInBounds_toArray, List.set_cons_zero, List.set_cons_succ]
        refine wpAnyH_ready (rs := [8]) (by kernel_rfl) (by simp) ?_
        refine (AllReadyH.cons rfl (fun K hK => ?_) AllReadyH.nil)
        refine step_append_lies _ (by rfl) _ _ _ (by rfl) 0 52 i0 _ 2 24 Tryd.underlying53 HI.out.1 HI.out.2.1 HI.out.2.2.1 HI.out.2.2.2 rfl (by omega) (.slice A i.args.length c0) i.args.length (i.args.flatMap dmCells) (by rfl) (HO3.out.alloc _)
          ⟨w3.heap.size, 0, none⟩ 1 1 [.string (str l.1), .int .i64 (l.2 : Nat)] (by rfl) (by rfl) (World.news_of_block (cs := #[.string (str l.1), .int .i64 (l.2 : Nat)]) (t := 52) (fr := (0, 0)) (heap_alloc_new w3 _)) (by simp [Value.oneCell']) (by omega) (by unfold maxLen; omega) (by omega) (by simp) (w3.heap.size + 1) (by simp) ?_
        intro g cap w5 hown5 hgrow5 hat5 hlt5
        have R := Lib.hid (app_rep (off := 7) HS3.out HF3.out hB r5' HB3.out.2.2 (by decide) HW3.out hgrow5 hown5 hat5)
        have K5 := app_cell HB3.out.2.2 (by decide) HW3.out hgrow5
        have k5 := cell_at (o := 7) K5
        have z5 := frozen_at (o := 7) K5
        have q5 := app_cell HB3.out.1 (by decide) HW3.out hgrow5
        have p5 := app_cell HB3.out.2.1 (by decide) HW3.out hgrow5
        clear K5 hown5 hgrow5 hat5
        refine hK.out _ _ ⟨by rw [cell_at p5]; rfl, by rw [cell_at q5]; rfl⟩ (fun hHeld => ?_)
        clear hK K
        try simp only [Act.put, List.setIfInBounds_toArray]
        refine wpAnyH_take (i := 9) (v := .pointer (some ⟨gI, 0, none⟩)) rfl (by kernel_rfl) (by kernel_rfl) (by kernel_rfl) (fun _ _ _ h => h) (Or.inl ⟨by rfl, by intro w hSw; (try dsimp only at hSw); go_simp; try rfl⟩) hHeld ?_
        try simp only [Act.put]
        refine wpAnyH_take (i := 10) (v := .pointer (some ⟨gI, 7, none⟩)) rfl (by kernel_rfl) (by kernel_rfl) (by kernel_rfl) (fun _ _ _ h => h) (Or.inl ⟨by rfl, by intro w hSw; (try dsimp only at hSw); go_simp; try rfl⟩) hHeld ?_
        try simp only [Act.put]
        refine wpAnyH_ready (rs := [11]) (by kernel_rfl) (by simp) ?_
        refine (AllReadyH.cons rfl (fun K hK => ?_) AllReadyH.nil)
        go_simp
        refine hK.out _ _ ⟨by rw [cell_at (R.out.2.2.2.2 _ _ _ _ HB3.out.2.1 (by decide) (by decide))]; rfl, by rw [cell_at (R.out.2.2.2.2 _ _ _ _ HB3.out.1 (by decide) (by decide))]; rfl⟩ (fun hHeld => ?_)
        clear hK K
        refine wpAnyH_done (by kernel_rfl) ?_ _
        go_wp2_with fail
        go_end0
        exact argEnd l n1 g cap w3 w5 E1 HB3 HV3 R

end Go.Proofs.YtccjbpghpoblhaaDoor

