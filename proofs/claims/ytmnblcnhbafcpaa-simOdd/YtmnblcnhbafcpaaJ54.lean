/-
  sim's States, WALKED.
-/
import Derived.Test.YtmnblcnhbafcpaaJ53
namespace Go.Proofs.Ytmnblcnhbafcpaa
open Go.RowKit Go.Shelf
open NetM
open VecM
attribute [local go_sem] Oper.semAt_some

/-- where States has its boxes -/
def StBad (b0 h : Nat) (b : Nat) : Prop := b = b0 ∨ b = h + 1 ∨ b = h + 2 ∨ b = h + 3
/-- between two rounds of States -/
def StI (w : World) (h : Nat) (n : Nt) (t : List (List Nat)) (A1 A2 A3 A4 A5 At : Option Addr) (c1 c2 c3 c4 c5 ct : Nat) (k : Nat) (W : World) : Prop :=
  CycAt w (h + 2) (h + 3) n A1 A2 A3 A4 A5 At c1 c2 c3 c4 c5 t.length ct W ∧ BxAt W w.heap.size n A1 A2 A3 A4 A5 c1 c2 c3 c4 c5 ∧ h + 4 ≤ W.heap.size ∧
  ∃ o us, Boxed W (h + 1) 28 o ∧ RoV IntR (w.heap.size + 1) 42 (StBad w.heap.size h) o us (stsL n t (k + 1)) W
theorem StI.own (w : World) (h : Nat) (hh : w.heap.size < h) (n : Nt) (t : List (List Nat)) (A1 A2 A3 A4 A5 At : Option Addr) (c1 c2 c3 c4 c5 ct B : Nat) (hB : h + 4 ≤ B) : OwnFrom B (StI w h n t A1 A2 A3 A4 A5 At c1 c2 c3 c4 c5 ct) := by
  rintro k W U row ⟨h1, h2, h3, o, us, h4, h5⟩ hg hr
  have hne : ∀ b, b < h + 4 → some b ≠ row := fun b hb e => by have := (hr b e.symm).1; omega
  refine ⟨h1.own hg (fun r e => by have := (hr r e).1; omega) (by omega) (by omega), bx_own h2 (hg.block _ (by omega) (hne _ (by omega))), Nat.le_trans h3 hg.size, o, us, h4.kept hg (hne _ (by omega)), h5.own elt_int hg (fun r e => (hr r e).2)⟩

set_option maxRecDepth 100000 in
set_option maxHeartbeats 8000000 in
theorem SStates_any (n : Nt) (v tv : Value) (t : List (List Nat)) (w : World) (hs : Sz n) (hn : Hid (NtAt w n v)) (hR : NRight n) (ht : TrOk n t) (htl : t.length ≤ 64) (htv : Hid (RwsR w tv (t.map ofN))) :
    Calls Try.prog 19 #[v, tv] w fun e w' => ∃ v', e = .returned v' ∧ RwsR w' v' (stsL n t (t.length + 1)) ∧ Gr w w' := by
  have hn' := hn
  have FI := Lib.hid (fun (u : World) (hu : Gr w u) => First_any n v u hs (Lib.hid (hn.out.gr hu)))
  simp only [ofN_first hR] at FI
  have HLD := Lib.hid (fun (k : Nat) (r : List Nat) (hk : t[k]? = some r) (s rv : Value) (u : World) (hu : Gr w u) (hsr : IntR u s (ofN (stAt n t k))) (hrr : IntR u rv (ofN r)) => by
    have hkl := (List.getElem?_eq_some_iff.1 hk).1
    obtain ⟨hrl, hrk⟩ := ht r (List.mem_of_getElem? hk)
    have hok := ok_at hR ht k (by omega)
    have hz := hs
    unfold Sz at hz
    have hA := After_any n v s rv (ofN (evAll n (stAt n t k) r)) u hs (Lib.hid (hn.out.gr hu)) (by rw [ofN_len]; unfold evAll; rw [evL_len _ _ _ _ (Nat.le_refl _)]; omega)
      (Lib.hid fun u2 hu2 => Eval_any n v s rv (stAt n t k) r u2 hs (Lib.hid (hn.out.gr (Gr.trans hu hu2))) hR.1 (by rw [stAt_len]; omega) (by omega) (Lib.hid (hsr.gr hu2)) (Lib.hid (hrr.gr hu2)) (Lib.hid (evL_lim hR hok hrk)))
    rw [ofN_next, ← stAt_succ hk] at hA
    exact hA)
  obtain ⟨A1, A2, A3, A4, A5, c1, c2, c3, c4, c5, rfl, hc1, h1, h2, h3, h4, h5⟩ := hn.out
  clear h1 h2 h3 h4 h5 hc1
  obtain ⟨At, ct, rfl, hct, hrt⟩ := htv.out
  rw [List.length_map] at hct htv ⊢
  have HT := Lib.hid hrt
  clear hrt hct htv
  obtain ⟨i0, hi, hz0, hz1, hz2⟩ := info_parts info42
  have HI := Lib.hid (And.intro hi (And.intro hz0 (And.intro hz1 hz2)))
  clear hi hz0 hz1 hz2
  obtain ⟨W1, e1, G1, B1, Z1⟩ : ∃ W1, w.alloc (.cells (bxC n A1 A2 A3 A4 A5 c1 c2 c3 c4 c5) 27) = W1 ∧ Hid (Gr w W1) ∧ Hid (∀ u, Gr W1 u → BxAt u w.heap.size n A1 A2 A3 A4 A5 c1 c2 c3 c4 c5) ∧ Hid (W1.heap.size = w.heap.size + 1) :=
    ⟨_, rfl, Lib.hid (bel_alloc _ _), Lib.hid fun u hu => bx_gr (bx_new w n A1 A2 A3 A4 A5 c1 c2 c3 c4 c5) (by simp) hu, Lib.hid (by simp)⟩
  refine (callsIn_wide (n := 6)).1 ?_
  refine callsIn_of_wp_marks Try.func19 rfl trivial ?_ rfl
  simp only [Try.ntmps19, List.size_toArray, List.length_cons, List.length_nil, Nat.reduceAdd, Nat.reduceSub, Array.replicate_succ, Array.replicate_zero, List.push_toArray, List.append_toArray, List.nil_append, List.cons_append]
  gi_upto_region 1 with fail
  try rw [e1]
  clear e1
  obtain ⟨e0, e1, e2, e3, e4⟩ := B1.out _ (Gr.refl _)
  gi_upto_region 2 with (refine ⟨trivial, ?_⟩; gi_at_call 24; refine (callsIn_wide.2 (FI.out _ G1.out)).mono ?_; rintro e w2 ⟨v1, rfl, hi1, hg1, hf1⟩; obtain ⟨Av, cv, ev, -⟩ := id hi1; rw [ofN_len, firstS_len] at ev; subst ev; have H1 := Lib.hid (And.intro hi1 (And.intro hg1 hf1)); clear hi1 hg1 hf1 e0 e1 e2 e3 e4)
  obtain ⟨h, hh⟩ : ∃ h, w2.heap.size = h := ⟨_, rfl⟩
  have hwh : w.heap.size < h := by have := H1.out.2.1.size; have := Z1.out; omega
  obtain ⟨W2, e2, GW2, BX2, RV, Z2⟩ : ∃ W2, (w2.alloc (.cells #[.slice Av n.cells.length cv] 42)).alloc (.cells #[.slice (some ⟨w2.heap.size, 0, none⟩) 1 1] 28) = W2 ∧ Hid (Gr W1 W2) ∧ Hid (Boxed W2 (h + 1) 28 (.slice (some ⟨h, 0, none⟩) 1 1)) ∧ Hid (RoV IntR (w.heap.size + 1) 42 (StBad w.heap.size h) (.slice (some ⟨h, 0, none⟩) 1 1) [.slice Av n.cells.length cv] (stsL n t 1) W2) ∧ Hid (W2.heap.size = h + 2) := by
    have hst : stsL n t 1 = [ofN (firstS n)] := by rw [stsL_succ]; rfl
    obtain ⟨hi1, hg1, hf1⟩ := H1.out
    have z1 := Z1.out
    have b1 := Boxed.new (w2.alloc (.cells #[.slice Av n.cells.length cv] 42)) 28 (.slice (some ⟨w2.heap.size, 0, none⟩) 1 1)
    rw [World.size_alloc, hh] at b1
    have g2 : Gr w2 (w2.alloc (.cells #[.slice Av n.cells.length cv] 42)) := bel_alloc _ _
    have g3 : Gr (w2.alloc (.cells #[.slice Av n.cells.length cv] 42)) ((w2.alloc (.cells #[.slice Av n.cells.length cv] 42)).alloc (.cells #[.slice (some ⟨w2.heap.size, 0, none⟩) 1 1] 28)) := bel_alloc _ _
    refine ⟨_, rfl, Lib.hid (Gr.trans hg1 (Gr.trans g2 g3)), Lib.hid (by rw [hh]; exact b1), Lib.hid ?_, Lib.hid (by simp [hh])⟩
    rw [hst]
    obtain ⟨-, o1, -, o3⟩ := rws_one (W := w2) hi1 rfl
    rw [hh] at o1
    have o4 : (w2.alloc (.cells #[.slice Av n.cells.length cv] 42)).ownsRow (w.heap.size + 1) 42 1 (.slice (some ⟨h, 0, none⟩) 1 1) 1 [.slice Av n.cells.length cv] := by
      rcases o1.2 with ⟨e9, -⟩ | ⟨g, cap, cur, e9, q1, q2, q3⟩
      · cases e9
      · exact ⟨o1.1, .inr ⟨g, cap, cur, e9, by omega, q2, q3⟩⟩
    refine ⟨own_gr' o4 g3, rfl, fun g hg => ?_, fun i x l hx hl => ?_⟩
    · have e9 : g = h := by have : h = g := by simpa [Value.ownBlock] using hg
                            exact this.symm
      unfold StBad
      omega
    · obtain ⟨k1, k2, k3⟩ := o3 i x l hx hl
      refine ⟨k1.gr g3, k2, fun hne b hb => ⟨?_, fun e9 => k3 hne b hb (by rw [hh]; exact e9)⟩⟩
      have hi : i = 0 := by
        have := (List.getElem?_eq_some_iff.1 hx).1
        simp at this
        exact this
      subst hi
      obtain rfl : (.slice Av n.cells.length cv) = x := by simpa using hx
      obtain rfl : ofN (firstS n) = l := by simpa using hl
      have h7 := intr_lt hi1 hne b hb
      have h8 := hf1 b hb
      unfold StBad
      omega
  rw [e2]
  clear e2
  obtain ⟨e0, e1, e2, e3, e4⟩ := B1.out _ GW2.out
  simp only [hh]
  gi_wp2_with (refine ⟨trivial, ?_⟩; gi_at_call 34; refine (callsIn_wide.2 (cycles_any n A1 A2 A3 A4 A5 At c1 c2 c3 c4 c5 t.length ct _)).mono ?_; rintro e w3 ⟨rfl, rfl⟩)
  clear e0 e1 e2 e3 e4
  obtain ⟨W0, eW, GW, C2, C3, HZ⟩ : ∃ W0, (W2.alloc (.cells (bxC n A1 A2 A3 A4 A5 c1 c2 c3 c4 c5) 27)).alloc (.cells #[.slice At t.length ct] 28) = W0 ∧ Hid (Gr W2 W0) ∧ Hid (BxAt W0 (h + 2) n A1 A2 A3 A4 A5 c1 c2 c3 c4 c5) ∧ Hid (W0.cell? ⟨h + 3, 0, none⟩ = some (.slice At t.length ct)) ∧ Hid (W0.heap.size = h + 4) := by
    have z2 := Z2.out
    have g3 : Gr W2 (W2.alloc (.cells (bxC n A1 A2 A3 A4 A5 c1 c2 c3 c4 c5) 27)) := bel_alloc _ _
    have b3 := bx_new W2 n A1 A2 A3 A4 A5 c1 c2 c3 c4 c5
    have z3 : (W2.alloc (.cells (bxC n A1 A2 A3 A4 A5 c1 c2 c3 c4 c5) 27)).heap.size = h + 3 := by simp [z2]
    generalize W2.alloc (.cells (bxC n A1 A2 A3 A4 A5 c1 c2 c3 c4 c5) 27) = X3 at g3 b3 z3 ⊢
    have b4 := Boxed.new X3 28 (.slice At t.length ct)
    have g4 : Gr X3 (X3.alloc (.cells #[.slice At t.length ct] 28)) := bel_alloc _ _
    rw [z2] at b3
    rw [z3] at b4
    exact ⟨_, rfl, Lib.hid (Gr.trans g3 g4), Lib.hid (bx_gr b3 (by omega) g4), Lib.hid b4.cell, Lib.hid (by simp [z3])⟩
  rw [eW]
  clear eW
  simp only [Z2.out, Nat.add_assoc, Nat.reduceAdd]
  have GA := Lib.hid (Gr.trans G1.out (Gr.trans GW2.out GW.out))
  have B0 := Lib.hid (B1.out _ (Gr.trans GW2.out GW.out))
  have RV0 := Lib.hid (RV.out.gr elt_int GW.out)
  have BX0 := Lib.hid ((GW.out.block _ BX2.out.lt).trans BX2.out)
  clear RV BX2 GW GW2 B1 G1 H1 Z1 FI
  refine cyc_range 6 (by omega) n t A1 A2 A3 A4 A5 At c1 c2 c3 c4 c5 ct (h + 2) (h + 3) w hs hR ht htl hn' HT rfl rfl
    (StI w h n t A1 A2 A3 A4 A5 At c1 c2 c3 c4 c5 ct) (fun _ _ _ => False) (StI.own _ _ hwh _ _ _ _ _ _ _ _ _ _ _ _ _ _ _ (by rw [HZ.out]; exact Nat.le_refl _)) (fun _ _ _ _ _ h => h.elim) (fun k U h => h.1)
    ⟨⟨GA.out, C2.out, C3.out⟩, B0.out, by rw [HZ.out]; exact Nat.le_refl _, _, _, BX0.out, RV0.out⟩
    (fun sv rv => { tmps := #[ntV A1 A2 A3 A4 A5 n.nodes.length n.ins.length n.cells.length n.props.length n.names.length c1 c2 c3 c4 c5, .slice At t.length ct, .pointer (some ⟨w.heap.size, 0, none⟩), undef, .slice none 0 0, .pointer (some ⟨h + 1, 0, none⟩), sv, rv, ntV A1 A2 A3 A4 A5 n.nodes.length n.ins.length n.cells.length n.props.length n.names.length c1 c2 c3 c4 c5, .slice Av n.cells.length cv, .slice (some ⟨h, 0, none⟩) 1 1, ntV A1 A2 A3 A4 A5 n.nodes.length n.ins.length n.cells.length n.props.length n.names.length c1 c2 c3 c4 c5, .slice At t.length ct, .func (.func 50) #[] #[.pointer (some ⟨h + 2, 0, none⟩), .pointer (some ⟨h + 3, 0, none⟩)], sv, rv, undef, undef, undef, undef, undef, undef, undef, undef], defers := [] }) ?assign ?body ?done ?stop
  case assign =>
    intro l sv rv W K hK
    gi_wp2
    exact hK
  case stop => exact fun _ _ _ _ _ _ h => h.elim
  case done =>
    rintro D W hD hI hK
    have HO := StI.own w h hwh n t A1 A2 A3 A4 A5 At c1 c2 c3 c4 c5 ct W0.heap.size (by rw [HZ.out]; exact Nat.le_refl _)
    have HF := Lib.hid (HO.putObj (.deferred none) hI hD hK rfl)
    obtain ⟨-, -, -, o, us, h4, -⟩ := hI
    have d1 := h4.cell
    have HB := Lib.hid h4
    clear h4 HO
    gi_wp2
    refine ⟨by simp, .inl ⟨_, _, rfl, run_takeDeferred hK, ?_⟩⟩
    obtain ⟨f1, -, -, o2, us2, f4, f5⟩ := HF.out
    have f6 := f4.cell
    have f7 := cell_kept HB.out.cell (grownBy_putObj' W D (.deferred none)) (fun r e => by cases e; exact ⟨_, hK, rfl⟩)
    obtain rfl : o = o2 := Option.some.inj (f7.symm.trans f6)
    exact ⟨o, by simp [results, Try.f19, go_sem], _, rfl, rov_rws f5, f1.1⟩
  case body =>
    rintro l k r sv rv Wp W hk hl hIp hIw hKc hfr hsv hrv
    have hkl := (List.getElem?_eq_some_iff.1 hk).1
    obtain ⟨ll, hll⟩ : ∃ ll, stsL n t (k + 1) = ll := ⟨_, rfl⟩
    have hlen : ll.length = k + 1 := by rw [← hll, stsL_len]
    obtain ⟨-, -, p3, op, usp, p4, p5⟩ := hIp
    obtain ⟨h1, h2, h3, o, us, h4, h5⟩ := hIw
    obtain rfl : op = o := Option.some.inj ((hKc.2 _ _ _ p4.cell).symm.trans h4.cell)
    have hlo := p5.1.lt
    have HSEP := Lib.hid (show ∀ b, sv.ownBlock = some b → b ≠ h + 1 ∧ some b ≠ op.ownBlock from fun b hb => ⟨by have := hfr b hb; omega, fun e2 => by have := (hlo b e2.symm).2; have := hfr b hb; omega⟩)
    clear hlo p3 p4 p5 usp hfr hKc
    have hst : stsL n t (k + 1 + 1) = ll ++ [ofN (stAt n t (k + 1))] := by rw [stsL_succ, hll]
    rw [hll] at h5
    have h1g := h1.1
    have d1 := h4.cell
    have d2 := h4.frozen
    obtain ⟨e0, e1, e2, e3, e4⟩ := h2
    have HB := Lib.hid (And.intro h1 (And.intro h3 (And.intro h4 h5)))
    have HLN := Lib.hid (show ll.length < 65 by omega)
    have KP := Lib.hid (show ∀ u, Gr W u → BxAt u w.heap.size n A1 A2 A3 A4 A5 c1 c2 c3 c4 c5 ∧ u.cell? ⟨h + 1, 0, none⟩ = some op ∧ u.frozen? ⟨h + 1, 0, none⟩ = false from fun u hu => by
      have hbx : Boxed u (h + 1) 28 op := (hu.block _ h4.lt).trans h4
      exact ⟨bx_gr ⟨e0, e1, e2, e3, e4⟩ (by omega) hu, hbx.cell, hbx.frozen⟩)
    have HL := Lib.hid (show ∀ (u1 : World) (x : Value) (g cap : Nat) (w7 : World), Gr W u1 → IntR u1 x (ofN (stAt n t (k + 1))) → x.oneCell' = true → (∀ b, x.ownBlock = some b → W.heap.size ≤ b) → w7.ownsRow (w.heap.size + 1) 42 1 (.slice (some ⟨g, 0, none⟩) (ll.length + 1) cap) (ll.length + 1) (us ++ [x]) → (u1.alloc (.cells #[x] 42)).grownBy w7 op.ownBlock → (op.ownBlock = some g ∨ g = (u1.alloc (.cells #[x] 42)).heap.size) →
        Boxed w7 (h + 1) 28 op ∧ KeepsFrom W0.heap.size W (w7.setCell ⟨h + 1, 0, none⟩ (.slice (some ⟨g, 0, none⟩) (ll.length + 1) cap)) ∧ IntR (w7.setCell ⟨h + 1, 0, none⟩ (.slice (some ⟨g, 0, none⟩) (ll.length + 1) cap)) sv (ofN (stAt n t k)) ∧ StI w h n t A1 A2 A3 A4 A5 At c1 c2 c3 c4 c5 ct (k + 1) (w7.setCell ⟨h + 1, 0, none⟩ (.slice (some ⟨g, 0, none⟩) (ll.length + 1) cap)) from fun u1 x g cap w7 hg hx h1x hfx hown hgrow hor => by
      obtain ⟨r0, r1, r2, r3, r4, r5⟩ := row_round elt_int h5 h4 (by unfold StBad; omega) (fun b hb => by unfold StBad at hb; omega) hg hx h1x hfx hown hgrow hor
      have hwlt : ∀ b, StBad w.heap.size h b → some b ≠ op.ownBlock := fun b hb e2 => h5.2.2.1 b e2.symm hb
      refine ⟨r0, r3.from _, intr_grown (intr_grown (intr_grown hsv (grew (Gr.trans hg (bel_alloc u1 (.cells #[x] 42)))) (fun _ b _ e2 => by cases e2)) hgrow (fun _ b hb => (HSEP.out b hb).2)) (grownBy_setCell' w7 _ _) (fun _ b hb e2 => (HSEP.out b hb).1 (by cases e2; rfl)), ⟨Below.trans h1.1 (r5 w.heap.size (by omega) (by omega)), ?_, ?_⟩, ?_, ?_, ?_⟩
      · exact bx_own h1.2.1 (r4 (h + 2) (by omega) (by omega) (hwlt _ (by unfold StBad; omega)))
      · rw [World.cell?_of_block (a := ⟨h + 3, 0, none⟩) (r4 (h + 3) (by omega) (by omega) (hwlt _ (by unfold StBad; omega)))]
        exact h1.2.2
      · exact bx_own ⟨e0, e1, e2, e3, e4⟩ (r4 w.heap.size (by omega) (by omega) (hwlt _ (by unfold StBad; omega)))
      · exact Nat.le_trans h3 r3.size
      · exact ⟨_, _, r2, by rw [hst]; exact r1⟩)
    have HC := Lib.hid (show ∀ u, Gr W u → CallsIn Fence.wide 3 Try.prog 25 #[ntV A1 A2 A3 A4 A5 n.nodes.length n.ins.length n.cells.length n.props.length n.names.length c1 c2 c3 c4 c5, sv, rv] u (RowRet u (ofN (stAt n t (k + 1)))) from fun u hu => callsIn_wide.2 (HLD.out k r hk sv rv u (Gr.trans h1g hu) (hsv.gr hu) (hrv.gr hu)))
    clear h1 h3 h4 h5 hsv hrv hst hlen hll HLD h1g
    obtain ⟨⟨e0, e1, e2, e3, e4⟩, d1, d2⟩ := KP.out _ (Gr.drew W)
    gi_upto_region 5 with fail
    refine wpIn_region_any (by kernel_rfl) ?_
    rw [show ({ W with drawn := W.drawn + 1 } : World) = W.drew from rfl]
    refine wpAnyIn_ready (rs := [0, 1, 2, 3]) (by kernel_rfl) (by simp) ?_
    refine AllReadyIn.cons rfl (fun K0 hK0 => ?_) ?_
    · go_simp
      refine hK0 _ _ ?_
      refine wpAnyIn_ready (rs := [1, 2, 3]) (by kernel_rfl) (by simp) ?_
      refine AllReadyIn.cons rfl (fun K1 hK1 => ?_) ?_
      · go_simp
        refine hK1 _ _ ?_
        refine wpAnyIn_ready (rs := [2, 3]) (by kernel_rfl) (by simp) ?_
        refine AllReadyIn.cons rfl (fun K2 hK2 => ?_) ?_
        · go_simp
          refine hK2 _ _ ?_
          refine wpAnyIn_ready (rs := [3]) (by kernel_rfl) (by simp) ?_
          refine AllReadyIn.cons rfl (fun K3 hK3 => ?_) ?_
          · go_simp
            refine hK3 _ _ ?_
            refine wpAnyIn_ready (rs := [4]) (by kernel_rfl) (by simp) ?_
            refine AllReadyIn.cons rfl (fun K4 hK4 => ?_) ?_
            · go_simp
              refine ⟨trivial, (HC.out _ (Gr.drew _)).mono ?_⟩
              rintro e u1 ⟨x, rfl, hx, hg1', hf1⟩
              obtain ⟨Ax, cx, ex, -⟩ := id hx
              subst ex
              have G1 := Lib.hid (Gr.trans (Gr.drew W) hg1')
              have HX := Lib.hid (And.intro hx (fun b hb => Nat.le_trans (Gr.drew W).size (hf1 b hb)))
              clear hx hf1 hg1' e0 e1 e2 e3 e4 d1 d2
              obtain ⟨-, d1, d2⟩ := KP.out _ G1.out
              refine hK4 _ _ ?_
              refine wpAnyIn_ready (rs := [5]) (by kernel_rfl) (by simp) ?_
              refine AllReadyIn.cons rfl (fun K5 hK5 => ?_) ?_
              · go_simp
                refine hK5 _ _ ?_
                refine wpAnyIn_ready (rs := [6]) (by kernel_rfl) (by simp) ?_
                refine AllReadyIn.cons rfl (fun K6 hK6 => ?_) ?_
                · refine stepIn_append_lies rfl _ _ 28 rfl (w.heap.size + 1) 42 i0 _ 1 24 Try.underlying28 HI.out.1 HI.out.2.1 HI.out.2.2.1 HI.out.2.2.2 rfl (by decide) op ll.length us rfl (((HB.out.2.2.2.gr elt_int G1.out).1).alloc _) ⟨u1.heap.size, 0, none⟩ 1 1 _ rfl rfl (World.news_of_block (heap_new' u1 _)) (fun u hu => by obtain rfl := List.mem_singleton.1 hu; rfl) (by decide) (by unfold maxLen; have := HLN.out; omega) (by have := HLN.out; omega) (by have := G1.out.size; have := HB.out.2.1; simp; omega) _ rfl ?_
                  intro g7 cap7 w7 hown hgrow hat hlt7
                  have hl := HL.out u1 _ g7 cap7 w7 G1.out HX.out.1 rfl HX.out.2 hown hgrow hat
                  have HLEAF := Lib.hid hl.2
                  have d3 := hl.1.cell
                  have d4 := hl.1.frozen
                  clear hown hgrow hat hlt7 hl d1 d2
                  refine hK6 _ _ ?_
                  refine wpAnyIn_ready (rs := [7]) (by kernel_rfl) (by simp) ?_
                  refine AllReadyIn.cons rfl (fun K7 hK7 => ?_) ?_
                  · go_simp
                    refine hK7 _ _ ?_
                    refine wpAnyIn_done (by kernel_rfl) ?_ _
                    exact HLEAF.out
                  exact AllReadyIn.nil
                exact AllReadyIn.nil
              exact AllReadyIn.nil
            exact AllReadyIn.nil
          exact AllReadyIn.nil
        refine AllReadyIn.cons rfl (fun K2 hK2 => ?_) ?_
        · go_simp
          refine hK2 _ _ ?_
          refine wpAnyIn_ready (rs := [2]) (by kernel_rfl) (by simp) ?_
          refine AllReadyIn.cons rfl (fun K3 hK3 => ?_) ?_
          · go_simp
            refine hK3 _ _ ?_
            refine wpAnyIn_ready (rs := [4]) (by kernel_rfl) (by simp) ?_
            refine AllReadyIn.cons rfl (fun K4 hK4 => ?_) ?_
            · go_simp
              refine ⟨trivial, (HC.out _ (Gr.drew _)).mono ?_⟩
              rintro e u1 ⟨x, rfl, hx, hg1', hf1⟩
              obtain ⟨Ax, cx, ex, -⟩ := id hx
              subst ex
              have G1 := Lib.hid (Gr.trans (Gr.drew W) hg1')
              have HX := Lib.hid (And.intro hx (fun b hb => Nat.le_trans (Gr.drew W).size (hf1 b hb)))
              clear hx hf1 hg1' e0 e1 e2 e3 e4 d1 d2
              obtain ⟨-, d1, d2⟩ := KP.out _ G1.out
              refine hK4 _ _ ?_
              refine wpAnyIn_ready (rs := [5]) (by kernel_rfl) (by simp) ?_
              refine AllReadyIn.cons rfl (fun K5 hK5 => ?_) ?_
              · go_simp
                refine hK5 _ _ ?_
                refine wpAnyIn_ready (rs := [6]) (by kernel_rfl) (by simp) ?_
                refine AllReadyIn.cons rfl (fun K6 hK6 => ?_) ?_
                · refine stepIn_append_lies rfl _ _ 28 rfl (w.heap.size + 1) 42 i0 _ 1 24 Try.underlying28 HI.out.1 HI.out.2.1 HI.out.2.2.1 HI.out.2.2.2 rfl (by decide) op ll.length us rfl (((HB.out.2.2.2.gr elt_int G1.out).1).alloc _) ⟨u1.heap.size, 0, none⟩ 1 1 _ rfl rfl (World.news_of_block (heap_new' u1 _)) (fun u hu => by obtain rfl := List.mem_singleton.1 hu; rfl) (by decide) (by unfold maxLen; have := HLN.out; omega) (by have := HLN.out; omega) (by have := G1.out.size; have := HB.out.2.1; simp; omega) _ rfl ?_
                  intro g7 cap7 w7 hown hgrow hat hlt7
                  have hl := HL.out u1 _ g7 cap7 w7 G1.out HX.out.1 rfl HX.out.2 hown hgrow hat
                  have HLEAF := Lib.hid hl.2
                  have d3 := hl.1.cell
                  have d4 := hl.1.frozen
                  clear hown hgrow hat hlt7 hl d1 d2
                  refine hK6 _ _ ?_
                  refine wpAnyIn_ready (rs := [7]) (by kernel_rfl) (by simp) ?_
                  refine AllReadyIn.cons rfl (fun K7 hK7 => ?_) ?_
                  · go_simp
                    refine hK7 _ _ ?_
                    refine wpAnyIn_done (by kernel_rfl) ?_ _
                    exact HLEAF.out
                  exact AllReadyIn.nil
                exact AllReadyIn.nil
              exact AllReadyIn.nil
            exact AllReadyIn.nil
          exact AllReadyIn.nil
        exact AllReadyIn.nil
      refine AllReadyIn.cons rfl (fun K1 hK1 => ?_) ?_
      · go_simp
        refine hK1 _ _ ?_
        refine wpAnyIn_ready (rs := [1, 3]) (by kernel_rfl) (by simp) ?_
        refine AllReadyIn.cons rfl (fun K2 hK2 => ?_) ?_
        · go_simp
          refine hK2 _ _ ?_
          refine wpAnyIn_ready (rs := [3]) (by kernel_rfl) (by simp) ?_
          refine AllReadyIn.cons rfl (fun K3 hK3 => ?_) ?_
          · go_simp
            refine hK3 _ _ ?_
            refine wpAnyIn_ready (rs := [4]) (by kernel_rfl) (by simp) ?_
            refine AllReadyIn.cons rfl (fun K4 hK4 => ?_) ?_
            · go_simp
              refine ⟨trivial, (HC.out _ (Gr.drew _)).mono ?_⟩
              rintro e u1 ⟨x, rfl, hx, hg1', hf1⟩
              obtain ⟨Ax, cx, ex, -⟩ := id hx
              subst ex
              have G1 := Lib.hid (Gr.trans (Gr.drew W) hg1')
              have HX := Lib.hid (And.intro hx (fun b hb => Nat.le_trans (Gr.drew W).size (hf1 b hb)))
              clear hx hf1 hg1' e0 e1 e2 e3 e4 d1 d2
              obtain ⟨-, d1, d2⟩ := KP.out _ G1.out
              refine hK4 _ _ ?_
              refine wpAnyIn_ready (rs := [5]) (by kernel_rfl) (by simp) ?_
              refine AllReadyIn.cons rfl (fun K5 hK5 => ?_) ?_
              · go_simp
                refine hK5 _ _ ?_
                refine wpAnyIn_ready (rs := [6]) (by kernel_rfl) (by simp) ?_
                refine AllReadyIn.cons rfl (fun K6 hK6 => ?_) ?_
                · refine stepIn_append_lies rfl _ _ 28 rfl (w.heap.size + 1) 42 i0 _ 1 24 Try.underlying28 HI.out.1 HI.out.2.1 HI.out.2.2.1 HI.out.2.2.2 rfl (by decide) op ll.length us rfl (((HB.out.2.2.2.gr elt_int G1.out).1).alloc _) ⟨u1.heap.size, 0, none⟩ 1 1 _ rfl rfl (World.news_of_block (heap_new' u1 _)) (fun u hu => by obtain rfl := List.mem_singleton.1 hu; rfl) (by decide) (by unfold maxLen; have := HLN.out; omega) (by have := HLN.out; omega) (by have := G1.out.size; have := HB.out.2.1; simp; omega) _ rfl ?_
                  intro g7 cap7 w7 hown hgrow hat hlt7
                  have hl := HL.out u1 _ g7 cap7 w7 G1.out HX.out.1 rfl HX.out.2 hown hgrow hat
                  have HLEAF := Lib.hid hl.2
                  have d3 := hl.1.cell
                  have d4 := hl.1.frozen
                  clear hown hgrow hat hlt7 hl d1 d2
                  refine hK6 _ _ ?_
                  refine wpAnyIn_ready (rs := [7]) (by kernel_rfl) (by simp) ?_
                  refine AllReadyIn.cons rfl (fun K7 hK7 => ?_) ?_
                  · go_simp
                    refine hK7 _ _ ?_
                    refine wpAnyIn_done (by kernel_rfl) ?_ _
                    exact HLEAF.out
                  exact AllReadyIn.nil
                exact AllReadyIn.nil
              exact AllReadyIn.nil
            exact AllReadyIn.nil
          exact AllReadyIn.nil
        refine AllReadyIn.cons rfl (fun K2 hK2 => ?_) ?_
        · go_simp
          refine hK2 _ _ ?_
          refine wpAnyIn_ready (rs := [1]) (by kernel_rfl) (by simp) ?_
          refine AllReadyIn.cons rfl (fun K3 hK3 => ?_) ?_
          · go_simp
            refine hK3 _ _ ?_
            refine wpAnyIn_ready (rs := [4]) (by kernel_rfl) (by simp) ?_
            refine AllReadyIn.cons rfl (fun K4 hK4 => ?_) ?_
            · go_simp
              refine ⟨trivial, (HC.out _ (Gr.drew _)).mono ?_⟩
              rintro e u1 ⟨x, rfl, hx, hg1', hf1⟩
              obtain ⟨Ax, cx, ex, -⟩ := id hx
              subst ex
              have G1 := Lib.hid (Gr.trans (Gr.drew W) hg1')
              have HX := Lib.hid (And.intro hx (fun b hb => Nat.le_trans (Gr.drew W).size (hf1 b hb)))
              clear hx hf1 hg1' e0 e1 e2 e3 e4 d1 d2
              obtain ⟨-, d1, d2⟩ := KP.out _ G1.out
              refine hK4 _ _ ?_
              refine wpAnyIn_ready (rs := [5]) (by kernel_rfl) (by simp) ?_
              refine AllReadyIn.cons rfl (fun K5 hK5 => ?_) ?_
              · go_simp
                refine hK5 _ _ ?_
                refine wpAnyIn_ready (rs := [6]) (by kernel_rfl) (by simp) ?_
                refine AllReadyIn.cons rfl (fun K6 hK6 => ?_) ?_
                · refine stepIn_append_lies rfl _ _ 28 rfl (w.heap.size + 1) 42 i0 _ 1 24 Try.underlying28 HI.out.1 HI.out.2.1 HI.out.2.2.1 HI.out.2.2.2 rfl (by decide) op ll.length us rfl (((HB.out.2.2.2.gr elt_int G1.out).1).alloc _) ⟨u1.heap.size, 0, none⟩ 1 1 _ rfl rfl (World.news_of_block (heap_new' u1 _)) (fun u hu => by obtain rfl := List.mem_singleton.1 hu; rfl) (by decide) (by unfold maxLen; have := HLN.out; omega) (by have := HLN.out; omega) (by have := G1.out.size; have := HB.out.2.1; simp; omega) _ rfl ?_
                  intro g7 cap7 w7 hown hgrow hat hlt7
                  have hl := HL.out u1 _ g7 cap7 w7 G1.out HX.out.1 rfl HX.out.2 hown hgrow hat
                  have HLEAF := Lib.hid hl.2
                  have d3 := hl.1.cell
                  have d4 := hl.1.frozen
                  clear hown hgrow hat hlt7 hl d1 d2
                  refine hK6 _ _ ?_
                  refine wpAnyIn_ready (rs := [7]) (by kernel_rfl) (by simp) ?_
                  refine AllReadyIn.cons rfl (fun K7 hK7 => ?_) ?_
                  · go_simp
                    refine hK7 _ _ ?_
                    refine wpAnyIn_done (by kernel_rfl) ?_ _
                    exact HLEAF.out
                  exact AllReadyIn.nil
                exact AllReadyIn.nil
              exact AllReadyIn.nil
            exact AllReadyIn.nil
          exact AllReadyIn.nil
        exact AllReadyIn.nil
      refine AllReadyIn.cons rfl (fun K1 hK1 => ?_) ?_
      · go_simp
        refine hK1 _ _ ?_
        refine wpAnyIn_ready (rs := [1, 2]) (by kernel_rfl) (by simp) ?_
        refine AllReadyIn.cons rfl (fun K2 hK2 => ?_) ?_
        · go_simp
          refine hK2 _ _ ?_
          refine wpAnyIn_ready (rs := [2]) (by kernel_rfl) (by simp) ?_
          refine AllReadyIn.cons rfl (fun K3 hK3 => ?_) ?_
          · go_simp
            refine hK3 _ _ ?_
            refine wpAnyIn_ready (rs := [4]) (by kernel_rfl) (by simp) ?_
            refine AllReadyIn.cons rfl (fun K4 hK4 => ?_) ?_
            · go_simp
              refine ⟨trivial, (HC.out _ (Gr.drew _)).mono ?_⟩
              rintro e u1 ⟨x, rfl, hx, hg1', hf1⟩
              obtain ⟨Ax, cx, ex, -⟩ := id hx
              subst ex
              have G1 := Lib.hid (Gr.trans (Gr.drew W) hg1')
              have HX := Lib.hid (And.intro hx (fun b hb => Nat.le_trans (Gr.drew W).size (hf1 b hb)))
              clear hx hf1 hg1' e0 e1 e2 e3 e4 d1 d2
              obtain ⟨-, d1, d2⟩ := KP.out _ G1.out
              refine hK4 _ _ ?_
              refine wpAnyIn_ready (rs := [5]) (by kernel_rfl) (by simp) ?_
              refine AllReadyIn.cons rfl (fun K5 hK5 => ?_) ?_
              · go_simp
                refine hK5 _ _ ?_
                refine wpAnyIn_ready (rs := [6]) (by kernel_rfl) (by simp) ?_
                refine AllReadyIn.cons rfl (fun K6 hK6 => ?_) ?_
                · refine stepIn_append_lies rfl _ _ 28 rfl (w.heap.size + 1) 42 i0 _ 1 24 Try.underlying28 HI.out.1 HI.out.2.1 HI.out.2.2.1 HI.out.2.2.2 rfl (by decide) op ll.length us rfl (((HB.out.2.2.2.gr elt_int G1.out).1).alloc _) ⟨u1.heap.size, 0, none⟩ 1 1 _ rfl rfl (World.news_of_block (heap_new' u1 _)) (fun u hu => by obtain rfl := List.mem_singleton.1 hu; rfl) (by decide) (by unfold maxLen; have := HLN.out; omega) (by have := HLN.out; omega) (by have := G1.out.size; have := HB.out.2.1; simp; omega) _ rfl ?_
                  intro g7 cap7 w7 hown hgrow hat hlt7
                  have hl := HL.out u1 _ g7 cap7 w7 G1.out HX.out.1 rfl HX.out.2 hown hgrow hat
                  have HLEAF := Lib.hid hl.2
                  have d3 := hl.1.cell
                  have d4 := hl.1.frozen
                  clear hown hgrow hat hlt7 hl d1 d2
                  refine hK6 _ _ ?_
                  refine wpAnyIn_ready (rs := [7]) (by kernel_rfl) (by simp) ?_
                  refine AllReadyIn.cons rfl (fun K7 hK7 => ?_) ?_
                  · go_simp
                    refine hK7 _ _ ?_
                    refine wpAnyIn_done (by kernel_rfl) ?_ _
                    exact HLEAF.out
                  exact AllReadyIn.nil
                exact AllReadyIn.nil
              exact AllReadyIn.nil
            exact AllReadyIn.nil
          exact AllReadyIn.nil
        refine AllReadyIn.cons rfl (fun K2 hK2 => ?_) ?_
        · go_simp
          refine hK2 _ _ ?_
          refine wpAnyIn_ready (rs := [1]) (by kernel_rfl) (by simp) ?_
          refine AllReadyIn.cons rfl (fun K3 hK3 => ?_) ?_
          · go_simp
            refine hK3 _ _ ?_
            refine wpAnyIn_ready (rs := [4]) (by kernel_rfl) (by simp) ?_
            refine AllReadyIn.cons rfl (fun K4 hK4 => ?_) ?_
            · go_simp
              refine ⟨trivial, (HC.out _ (Gr.drew _)).mono ?_⟩
              rintro e u1 ⟨x, rfl, hx, hg1', hf1⟩
              obtain ⟨Ax, cx, ex, -⟩ := id hx
              subst ex
              have G1 := Lib.hid (Gr.trans (Gr.drew W) hg1')
              have HX := Lib.hid (And.intro hx (fun b hb => Nat.le_trans (Gr.drew W).size (hf1 b hb)))
              clear hx hf1 hg1' e0 e1 e2 e3 e4 d1 d2
              obtain ⟨-, d1, d2⟩ := KP.out _ G1.out
              refine hK4 _ _ ?_
              refine wpAnyIn_ready (rs := [5]) (by kernel_rfl) (by simp) ?_
              refine AllReadyIn.cons rfl (fun K5 hK5 => ?_) ?_
              · go_simp
                refine hK5 _ _ ?_
                refine wpAnyIn_ready (rs := [6]) (by kernel_rfl) (by simp) ?_
                refine AllReadyIn.cons rfl (fun K6 hK6 => ?_) ?_
                · refine stepIn_append_lies rfl _ _ 28 rfl (w.heap.size + 1) 42 i0 _ 1 24 Try.underlying28 HI.out.1 HI.out.2.1 HI.out.2.2.1 HI.out.2.2.2 rfl (by decide) op ll.length us rfl (((HB.out.2.2.2.gr elt_int G1.out).1).alloc _) ⟨u1.heap.size, 0, none⟩ 1 1 _ rfl rfl (World.news_of_block (heap_new' u1 _)) (fun u hu => by obtain rfl := List.mem_singleton.1 hu; rfl) (by decide) (by unfold maxLen; have := HLN.out; omega) (by have := HLN.out; omega) (by have := G1.out.size; have := HB.out.2.1; simp; omega) _ rfl ?_
                  intro g7 cap7 w7 hown hgrow hat hlt7
                  have hl := HL.out u1 _ g7 cap7 w7 G1.out HX.out.1 rfl HX.out.2 hown hgrow hat
                  have HLEAF := Lib.hid hl.2
                  have d3 := hl.1.cell
                  have d4 := hl.1.frozen
                  clear hown hgrow hat hlt7 hl d1 d2
                  refine hK6 _ _ ?_
                  refine wpAnyIn_ready (rs := [7]) (by kernel_rfl) (by simp) ?_
                  refine AllReadyIn.cons rfl (fun K7 hK7 => ?_) ?_
                  · go_simp
                    refine hK7 _ _ ?_
                    refine wpAnyIn_done (by kernel_rfl) ?_ _
                    exact HLEAF.out
                  exact AllReadyIn.nil
                exact AllReadyIn.nil
              exact AllReadyIn.nil
            exact AllReadyIn.nil
          exact AllReadyIn.nil
        exact AllReadyIn.nil
      exact AllReadyIn.nil
    refine AllReadyIn.cons rfl (fun K0 hK0 => ?_) ?_
    · go_simp
      refine hK0 _ _ ?_
      refine wpAnyIn_ready (rs := [0, 2, 3]) (by kernel_rfl) (by simp) ?_
      refine AllReadyIn.cons rfl (fun K1 hK1 => ?_) ?_
      · go_simp
        refine hK1 _ _ ?_
        refine wpAnyIn_ready (rs := [2, 3]) (by kernel_rfl) (by simp) ?_
        refine AllReadyIn.cons rfl (fun K2 hK2 => ?_) ?_
        · go_simp
          refine hK2 _ _ ?_
          refine wpAnyIn_ready (rs := [3]) (by kernel_rfl) (by simp) ?_
          refine AllReadyIn.cons rfl (fun K3 hK3 => ?_) ?_
          · go_simp
            refine hK3 _ _ ?_
            refine wpAnyIn_ready (rs := [4]) (by kernel_rfl) (by simp) ?_
            refine AllReadyIn.cons rfl (fun K4 hK4 => ?_) ?_
            · go_simp
              refine ⟨trivial, (HC.out _ (Gr.drew _)).mono ?_⟩
              rintro e u1 ⟨x, rfl, hx, hg1', hf1⟩
              obtain ⟨Ax, cx, ex, -⟩ := id hx
              subst ex
              have G1 := Lib.hid (Gr.trans (Gr.drew W) hg1')
              have HX := Lib.hid (And.intro hx (fun b hb => Nat.le_trans (Gr.drew W).size (hf1 b hb)))
              clear hx hf1 hg1' e0 e1 e2 e3 e4 d1 d2
              obtain ⟨-, d1, d2⟩ := KP.out _ G1.out
              refine hK4 _ _ ?_
              refine wpAnyIn_ready (rs := [5]) (by kernel_rfl) (by simp) ?_
              refine AllReadyIn.cons rfl (fun K5 hK5 => ?_) ?_
              · go_simp
                refine hK5 _ _ ?_
                refine wpAnyIn_ready (rs := [6]) (by kernel_rfl) (by simp) ?_
                refine AllReadyIn.cons rfl (fun K6 hK6 => ?_) ?_
                · refine stepIn_append_lies rfl _ _ 28 rfl (w.heap.size + 1) 42 i0 _ 1 24 Try.underlying28 HI.out.1 HI.out.2.1 HI.out.2.2.1 HI.out.2.2.2 rfl (by decide) op ll.length us rfl (((HB.out.2.2.2.gr elt_int G1.out).1).alloc _) ⟨u1.heap.size, 0, none⟩ 1 1 _ rfl rfl (World.news_of_block (heap_new' u1 _)) (fun u hu => by obtain rfl := List.mem_singleton.1 hu; rfl) (by decide) (by unfold maxLen; have := HLN.out; omega) (by have := HLN.out; omega) (by have := G1.out.size; have := HB.out.2.1; simp; omega) _ rfl ?_
                  intro g7 cap7 w7 hown hgrow hat hlt7
                  have hl := HL.out u1 _ g7 cap7 w7 G1.out HX.out.1 rfl HX.out.2 hown hgrow hat
                  have HLEAF := Lib.hid hl.2
                  have d3 := hl.1.cell
                  have d4 := hl.1.frozen
                  clear hown hgrow hat hlt7 hl d1 d2
                  refine hK6 _ _ ?_
                  refine wpAnyIn_ready (rs := [7]) (by kernel_rfl) (by simp) ?_
                  refine AllReadyIn.cons rfl (fun K7 hK7 => ?_) ?_
                  · go_simp
                    refine hK7 _ _ ?_
                    refine wpAnyIn_done (by kernel_rfl) ?_ _
                    exact HLEAF.out
                  exact AllReadyIn.nil
                exact AllReadyIn.nil
              exact AllReadyIn.nil
            exact AllReadyIn.nil
          exact AllReadyIn.nil
        refine AllReadyIn.cons rfl (fun K2 hK2 => ?_) ?_
        · go_simp
          refine hK2 _ _ ?_
          refine wpAnyIn_ready (rs := [2]) (by kernel_rfl) (by simp) ?_
          refine AllReadyIn.cons rfl (fun K3 hK3 => ?_) ?_
          · go_simp
            refine hK3 _ _ ?_
            refine wpAnyIn_ready (rs := [4]) (by kernel_rfl) (by simp) ?_
            refine AllReadyIn.cons rfl (fun K4 hK4 => ?_) ?_
            · go_simp
              refine ⟨trivial, (HC.out _ (Gr.drew _)).mono ?_⟩
              rintro e u1 ⟨x, rfl, hx, hg1', hf1⟩
              obtain ⟨Ax, cx, ex, -⟩ := id hx
              subst ex
              have G1 := Lib.hid (Gr.trans (Gr.drew W) hg1')
              have HX := Lib.hid (And.intro hx (fun b hb => Nat.le_trans (Gr.drew W).size (hf1 b hb)))
              clear hx hf1 hg1' e0 e1 e2 e3 e4 d1 d2
              obtain ⟨-, d1, d2⟩ := KP.out _ G1.out
              refine hK4 _ _ ?_
              refine wpAnyIn_ready (rs := [5]) (by kernel_rfl) (by simp) ?_
              refine AllReadyIn.cons rfl (fun K5 hK5 => ?_) ?_
              · go_simp
                refine hK5 _ _ ?_
                refine wpAnyIn_ready (rs := [6]) (by kernel_rfl) (by simp) ?_
                refine AllReadyIn.cons rfl (fun K6 hK6 => ?_) ?_
                · refine stepIn_append_lies rfl _ _ 28 rfl (w.heap.size + 1) 42 i0 _ 1 24 Try.underlying28 HI.out.1 HI.out.2.1 HI.out.2.2.1 HI.out.2.2.2 rfl (by decide) op ll.length us rfl (((HB.out.2.2.2.gr elt_int G1.out).1).alloc _) ⟨u1.heap.size, 0, none⟩ 1 1 _ rfl rfl (World.news_of_block (heap_new' u1 _)) (fun u hu => by obtain rfl := List.mem_singleton.1 hu; rfl) (by decide) (by unfold maxLen; have := HLN.out; omega) (by have := HLN.out; omega) (by have := G1.out.size; have := HB.out.2.1; simp; omega) _ rfl ?_
                  intro g7 cap7 w7 hown hgrow hat hlt7
                  have hl := HL.out u1 _ g7 cap7 w7 G1.out HX.out.1 rfl HX.out.2 hown hgrow hat
                  have HLEAF := Lib.hid hl.2
                  have d3 := hl.1.cell
                  have d4 := hl.1.frozen
                  clear hown hgrow hat hlt7 hl d1 d2
                  refine hK6 _ _ ?_
                  refine wpAnyIn_ready (rs := [7]) (by kernel_rfl) (by simp) ?_
                  refine AllReadyIn.cons rfl (fun K7 hK7 => ?_) ?_
                  · go_simp
                    refine hK7 _ _ ?_
                    refine wpAnyIn_done (by kernel_rfl) ?_ _
                    exact HLEAF.out
                  exact AllReadyIn.nil
                exact AllReadyIn.nil
              exact AllReadyIn.nil
            exact AllReadyIn.nil
          exact AllReadyIn.nil
        exact AllReadyIn.nil
      refine AllReadyIn.cons rfl (fun K1 hK1 => ?_) ?_
      · go_simp
        refine hK1 _ _ ?_
        refine wpAnyIn_ready (rs := [0, 3]) (by kernel_rfl) (by simp) ?_
        refine AllReadyIn.cons rfl (fun K2 hK2 => ?_) ?_
        · go_simp
          refine hK2 _ _ ?_
          refine wpAnyIn_ready (rs := [3]) (by kernel_rfl) (by simp) ?_
          refine AllReadyIn.cons rfl (fun K3 hK3 => ?_) ?_
          · go_simp
            refine hK3 _ _ ?_
            refine wpAnyIn_ready (rs := [4]) (by kernel_rfl) (by simp) ?_
            refine AllReadyIn.cons rfl (fun K4 hK4 => ?_) ?_
            · go_simp
              refine ⟨trivial, (HC.out _ (Gr.drew _)).mono ?_⟩
              rintro e u1 ⟨x, rfl, hx, hg1', hf1⟩
              obtain ⟨Ax, cx, ex, -⟩ := id hx
              subst ex
              have G1 := Lib.hid (Gr.trans (Gr.drew W) hg1')
              have HX := Lib.hid (And.intro hx (fun b hb => Nat.le_trans (Gr.drew W).size (hf1 b hb)))
              clear hx hf1 hg1' e0 e1 e2 e3 e4 d1 d2
              obtain ⟨-, d1, d2⟩ := KP.out _ G1.out
              refine hK4 _ _ ?_
              refine wpAnyIn_ready (rs := [5]) (by kernel_rfl) (by simp) ?_
              refine AllReadyIn.cons rfl (fun K5 hK5 => ?_) ?_
              · go_simp
                refine hK5 _ _ ?_
                refine wpAnyIn_ready (rs := [6]) (by kernel_rfl) (by simp) ?_
                refine AllReadyIn.cons rfl (fun K6 hK6 => ?_) ?_
                · refine stepIn_append_lies rfl _ _ 28 rfl (w.heap.size + 1) 42 i0 _ 1 24 Try.underlying28 HI.out.1 HI.out.2.1 HI.out.2.2.1 HI.out.2.2.2 rfl (by decide) op ll.length us rfl (((HB.out.2.2.2.gr elt_int G1.out).1).alloc _) ⟨u1.heap.size, 0, none⟩ 1 1 _ rfl rfl (World.news_of_block (heap_new' u1 _)) (fun u hu => by obtain rfl := List.mem_singleton.1 hu; rfl) (by decide) (by unfold maxLen; have := HLN.out; omega) (by have := HLN.out; omega) (by have := G1.out.size; have := HB.out.2.1; simp; omega) _ rfl ?_
                  intro g7 cap7 w7 hown hgrow hat hlt7
                  have hl := HL.out u1 _ g7 cap7 w7 G1.out HX.out.1 rfl HX.out.2 hown hgrow hat
                  have HLEAF := Lib.hid hl.2
                  have d3 := hl.1.cell
                  have d4 := hl.1.frozen
                  clear hown hgrow hat hlt7 hl d1 d2
                  refine hK6 _ _ ?_
                  refine wpAnyIn_ready (rs := [7]) (by kernel_rfl) (by simp) ?_
                  refine AllReadyIn.cons rfl (fun K7 hK7 => ?_) ?_
                  · go_simp
                    refine hK7 _ _ ?_
                    refine wpAnyIn_done (by kernel_rfl) ?_ _
                    exact HLEAF.out
                  exact AllReadyIn.nil
                exact AllReadyIn.nil
              exact AllReadyIn.nil
            exact AllReadyIn.nil
          exact AllReadyIn.nil
        refine AllReadyIn.cons rfl (fun K2 hK2 => ?_) ?_
        · go_simp
          refine hK2 _ _ ?_
          refine wpAnyIn_ready (rs := [0, 4]) (by kernel_rfl) (by simp) ?_
          refine AllReadyIn.cons rfl (fun K3 hK3 => ?_) ?_
          · go_simp
            refine hK3 _ _ ?_
            refine wpAnyIn_ready (rs := [4]) (by kernel_rfl) (by simp) ?_
            refine AllReadyIn.cons rfl (fun K4 hK4 => ?_) ?_
            · go_simp
              refine ⟨trivial, (HC.out _ (Gr.drew _)).mono ?_⟩
              rintro e u1 ⟨x, rfl, hx, hg1', hf1⟩
              obtain ⟨Ax, cx, ex, -⟩ := id hx
              subst ex
              have G1 := Lib.hid (Gr.trans (Gr.drew W) hg1')
              have HX := Lib.hid (And.intro hx (fun b hb => Nat.le_trans (Gr.drew W).size (hf1 b hb)))
              clear hx hf1 hg1' e0 e1 e2 e3 e4 d1 d2
              obtain ⟨-, d1, d2⟩ := KP.out _ G1.out
              refine hK4 _ _ ?_
              refine wpAnyIn_ready (rs := [5]) (by kernel_rfl) (by simp) ?_
              refine AllReadyIn.cons rfl (fun K5 hK5 => ?_) ?_
              · go_simp
                refine hK5 _ _ ?_
                refine wpAnyIn_ready (rs := [6]) (by kernel_rfl) (by simp) ?_
                refine AllReadyIn.cons rfl (fun K6 hK6 => ?_) ?_
                · refine stepIn_append_lies rfl _ _ 28 rfl (w.heap.size + 1) 42 i0 _ 1 24 Try.underlying28 HI.out.1 HI.out.2.1 HI.out.2.2.1 HI.out.2.2.2 rfl (by decide) op ll.length us rfl (((HB.out.2.2.2.gr elt_int G1.out).1).alloc _) ⟨u1.heap.size, 0, none⟩ 1 1 _ rfl rfl (World.news_of_block (heap_new' u1 _)) (fun u hu => by obtain rfl := List.mem_singleton.1 hu; rfl) (by decide) (by unfold maxLen; have := HLN.out; omega) (by have := HLN.out; omega) (by have := G1.out.size; have := HB.out.2.1; simp; omega) _ rfl ?_
                  intro g7 cap7 w7 hown hgrow hat hlt7
                  have hl := HL.out u1 _ g7 cap7 w7 G1.out HX.out.1 rfl HX.out.2 hown hgrow hat
                  have HLEAF := Lib.hid hl.2
                  have d3 := hl.1.cell
                  have d4 := hl.1.frozen
                  clear hown hgrow hat hlt7 hl d1 d2
                  refine hK6 _ _ ?_
                  refine wpAnyIn_ready (rs := [7]) (by kernel_rfl) (by simp) ?_
                  refine AllReadyIn.cons rfl (fun K7 hK7 => ?_) ?_
                  · go_simp
                    refine hK7 _ _ ?_
                    refine wpAnyIn_done (by kernel_rfl) ?_ _
                    exact HLEAF.out
                  exact AllReadyIn.nil
                exact AllReadyIn.nil
              exact AllReadyIn.nil
            exact AllReadyIn.nil
          refine AllReadyIn.cons rfl (fun K3 hK3 => ?_) ?_
          · go_simp
            refine ⟨trivial, (HC.out _ (Gr.drew _)).mono ?_⟩
            rintro e u1 ⟨x, rfl, hx, hg1', hf1⟩
            obtain ⟨Ax, cx, ex, -⟩ := id hx
            subst ex
            have G1 := Lib.hid (Gr.trans (Gr.drew W) hg1')
            have HX := Lib.hid (And.intro hx (fun b hb => Nat.le_trans (Gr.drew W).size (hf1 b hb)))
            clear hx hf1 hg1' e0 e1 e2 e3 e4 d1 d2
            obtain ⟨-, d1, d2⟩ := KP.out _ G1.out
            refine hK3 _ _ ?_
            refine wpAnyIn_ready (rs := [0, 5]) (by kernel_rfl) (by simp) ?_
            refine AllReadyIn.cons rfl (fun K4 hK4 => ?_) ?_
            · go_simp
              refine hK4 _ _ ?_
              refine wpAnyIn_ready (rs := [5]) (by kernel_rfl) (by simp) ?_
              refine AllReadyIn.cons rfl (fun K5 hK5 => ?_) ?_
              · go_simp
                refine hK5 _ _ ?_
                refine wpAnyIn_ready (rs := [6]) (by kernel_rfl) (by simp) ?_
                refine AllReadyIn.cons rfl (fun K6 hK6 => ?_) ?_
                · refine stepIn_append_lies rfl _ _ 28 rfl (w.heap.size + 1) 42 i0 _ 1 24 Try.underlying28 HI.out.1 HI.out.2.1 HI.out.2.2.1 HI.out.2.2.2 rfl (by decide) op ll.length us rfl (((HB.out.2.2.2.gr elt_int G1.out).1).alloc _) ⟨u1.heap.size, 0, none⟩ 1 1 _ rfl rfl (World.news_of_block (heap_new' u1 _)) (fun u hu => by obtain rfl := List.mem_singleton.1 hu; rfl) (by decide) (by unfold maxLen; have := HLN.out; omega) (by have := HLN.out; omega) (by have := G1.out.size; have := HB.out.2.1; simp; omega) _ rfl ?_
                  intro g7 cap7 w7 hown hgrow hat hlt7
                  have hl := HL.out u1 _ g7 cap7 w7 G1.out HX.out.1 rfl HX.out.2 hown hgrow hat
                  have HLEAF := Lib.hid hl.2
                  have d3 := hl.1.cell
                  have d4 := hl.1.frozen
                  clear hown hgrow hat hlt7 hl d1 d2
                  refine hK6 _ _ ?_
                  refine wpAnyIn_ready (rs := [7]) (by kernel_rfl) (by simp) ?_
                  refine AllReadyIn.cons rfl (fun K7 hK7 => ?_) ?_
                  · go_simp
                    refine hK7 _ _ ?_
                    refine wpAnyIn_done (by kernel_rfl) ?_ _
                    exact HLEAF.out
                  exact AllReadyIn.nil
                exact AllReadyIn.nil
              exact AllReadyIn.nil
            refine AllReadyIn.cons rfl (fun K4 hK4 => ?_) ?_
            · go_simp
              refine hK4 _ _ ?_
              refine wpAnyIn_ready (rs := [0]) (by kernel_rfl) (by simp) ?_
              refine AllReadyIn.cons rfl (fun K5 hK5 => ?_) ?_
              · have d5 := (KP.out _ (Gr.trans G1.out (bel_alloc u1 (.cells #[.slice Ax (ofN (stAt n t (k + 1))).length cx] 42)))).2.1
                go_simp
                clear d5
                refine hK5 _ _ ?_
                refine wpAnyIn_ready (rs := [6]) (by kernel_rfl) (by simp) ?_
                refine AllReadyIn.cons rfl (fun K6 hK6 => ?_) ?_
                · refine stepIn_append_lies rfl _ _ 28 rfl (w.heap.size + 1) 42 i0 _ 1 24 Try.underlying28 HI.out.1 HI.out.2.1 HI.out.2.2.1 HI.out.2.2.2 rfl (by decide) op ll.length us rfl (((HB.out.2.2.2.gr elt_int G1.out).1).alloc _) ⟨u1.heap.size, 0, none⟩ 1 1 _ rfl rfl (World.news_of_block (heap_new' u1 _)) (fun u hu => by obtain rfl := List.mem_singleton.1 hu; rfl) (by decide) (by unfold maxLen; have := HLN.out; omega) (by have := HLN.out; omega) (by have := G1.out.size; have := HB.out.2.1; simp; omega) _ rfl ?_
                  intro g7 cap7 w7 hown hgrow hat hlt7
                  have hl := HL.out u1 _ g7 cap7 w7 G1.out HX.out.1 rfl HX.out.2 hown hgrow hat
                  have HLEAF := Lib.hid hl.2
                  have d3 := hl.1.cell
                  have d4 := hl.1.frozen
                  clear hown hgrow hat hlt7 hl d1 d2
                  refine hK6 _ _ ?_
                  refine wpAnyIn_ready (rs := [7]) (by kernel_rfl) (by simp) ?_
                  refine AllReadyIn.cons rfl (fun K7 hK7 => ?_) ?_
                  · go_simp
                    refine hK7 _ _ ?_
                    refine wpAnyIn_done (by kernel_rfl) ?_ _
                    exact HLEAF.out
                  exact AllReadyIn.nil
                exact AllReadyIn.nil
              exact AllReadyIn.nil
            exact AllReadyIn.nil
          exact AllReadyIn.nil
        exact AllReadyIn.nil
      refine AllReadyIn.cons rfl (fun K1 hK1 => ?_) ?_
      · go_simp
        refine hK1 _ _ ?_
        refine wpAnyIn_ready (rs := [0, 2]) (by kernel_rfl) (by simp) ?_
        refine AllReadyIn.cons rfl (fun K2 hK2 => ?_) ?_
        · go_simp
          refine hK2 _ _ ?_
          refine wpAnyIn_ready (rs := [2]) (by kernel_rfl) (by simp) ?_
          refine AllReadyIn.cons rfl (fun K3 hK3 => ?_) ?_
          · go_simp
            refine hK3 _ _ ?_
            refine wpAnyIn_ready (rs := [4]) (by kernel_rfl) (by simp) ?_
            refine AllReadyIn.cons rfl (fun K4 hK4 => ?_) ?_
            · go_simp
              refine ⟨trivial, (HC.out _ (Gr.drew _)).mono ?_⟩
              rintro e u1 ⟨x, rfl, hx, hg1', hf1⟩
              obtain ⟨Ax, cx, ex, -⟩ := id hx
              subst ex
              have G1 := Lib.hid (Gr.trans (Gr.drew W) hg1')
              have HX := Lib.hid (And.intro hx (fun b hb => Nat.le_trans (Gr.drew W).size (hf1 b hb)))
              clear hx hf1 hg1' e0 e1 e2 e3 e4 d1 d2
              obtain ⟨-, d1, d2⟩ := KP.out _ G1.out
              refine hK4 _ _ ?_
              refine wpAnyIn_ready (rs := [5]) (by kernel_rfl) (by simp) ?_
              refine AllReadyIn.cons rfl (fun K5 hK5 => ?_) ?_
              · go_simp
                refine hK5 _ _ ?_
                refine wpAnyIn_ready (rs := [6]) (by kernel_rfl) (by simp) ?_
                refine AllReadyIn.cons rfl (fun K6 hK6 => ?_) ?_
                · refine stepIn_append_lies rfl _ _ 28 rfl (w.heap.size + 1) 42 i0 _ 1 24 Try.underlying28 HI.out.1 HI.out.2.1 HI.out.2.2.1 HI.out.2.2.2 rfl (by decide) op ll.length us rfl (((HB.out.2.2.2.gr elt_int G1.out).1).alloc _) ⟨u1.heap.size, 0, none⟩ 1 1 _ rfl rfl (World.news_of_block (heap_new' u1 _)) (fun u hu => by obtain rfl := List.mem_singleton.1 hu; rfl) (by decide) (by unfold maxLen; have := HLN.out; omega) (by have := HLN.out; omega) (by have := G1.out.size; have := HB.out.2.1; simp; omega) _ rfl ?_
                  intro g7 cap7 w7 hown hgrow hat hlt7
                  have hl := HL.out u1 _ g7 cap7 w7 G1.out HX.out.1 rfl HX.out.2 hown hgrow hat
                  have HLEAF := Lib.hid hl.2
                  have d3 := hl.1.cell
                  have d4 := hl.1.frozen
                  clear hown hgrow hat hlt7 hl d1 d2
                  refine hK6 _ _ ?_
                  refine wpAnyIn_ready (rs := [7]) (by kernel_rfl) (by simp) ?_
                  refine AllReadyIn.cons rfl (fun K7 hK7 => ?_) ?_
                  · go_simp
                    refine hK7 _ _ ?_
                    refine wpAnyIn_done (by kernel_rfl) ?_ _
                    exact HLEAF.out
                  exact AllReadyIn.nil
                exact AllReadyIn.nil
              exact AllReadyIn.nil
            exact AllReadyIn.nil
          exact AllReadyIn.nil
        refine AllReadyIn.cons rfl (fun K2 hK2 => ?_) ?_
        · go_simp
          refine hK2 _ _ ?_
          refine wpAnyIn_ready (rs := [0, 4]) (by kernel_rfl) (by simp) ?_
          refine AllReadyIn.cons rfl (fun K3 hK3 => ?_) ?_
          · go_simp
            refine hK3 _ _ ?_
            refine wpAnyIn_ready (rs := [4]) (by kernel_rfl) (by simp) ?_
            refine AllReadyIn.cons rfl (fun K4 hK4 => ?_) ?_
            · go_simp
              refine ⟨trivial, (HC.out _ (Gr.drew _)).mono ?_⟩
              rintro e u1 ⟨x, rfl, hx, hg1', hf1⟩
              obtain ⟨Ax, cx, ex, -⟩ := id hx
              subst ex
              have G1 := Lib.hid (Gr.trans (Gr.drew W) hg1')
              have HX := Lib.hid (And.intro hx (fun b hb => Nat.le_trans (Gr.drew W).size (hf1 b hb)))
              clear hx hf1 hg1' e0 e1 e2 e3 e4 d1 d2
              obtain ⟨-, d1, d2⟩ := KP.out _ G1.out
              refine hK4 _ _ ?_
              refine wpAnyIn_ready (rs := [5]) (by kernel_rfl) (by simp) ?_
              refine AllReadyIn.cons rfl (fun K5 hK5 => ?_) ?_
              · go_simp
                refine hK5 _ _ ?_
                refine wpAnyIn_ready (rs := [6]) (by kernel_rfl) (by simp) ?_
                refine AllReadyIn.cons rfl (fun K6 hK6 => ?_) ?_
                · refine stepIn_append_lies rfl _ _ 28 rfl (w.heap.size + 1) 42 i0 _ 1 24 Try.underlying28 HI.out.1 HI.out.2.1 HI.out.2.2.1 HI.out.2.2.2 rfl (by decide) op ll.length us rfl (((HB.out.2.2.2.gr elt_int G1.out).1).alloc _) ⟨u1.heap.size, 0, none⟩ 1 1 _ rfl rfl (World.news_of_block (heap_new' u1 _)) (fun u hu => by obtain rfl := List.mem_singleton.1 hu; rfl) (by decide) (by unfold maxLen; have := HLN.out; omega) (by have := HLN.out; omega) (by have := G1.out.size; have := HB.out.2.1; simp; omega) _ rfl ?_
                  intro g7 cap7 w7 hown hgrow hat hlt7
                  have hl := HL.out u1 _ g7 cap7 w7 G1.out HX.out.1 rfl HX.out.2 hown hgrow hat
                  have HLEAF := Lib.hid hl.2
                  have d3 := hl.1.cell
                  have d4 := hl.1.frozen
                  clear hown hgrow hat hlt7 hl d1 d2
                  refine hK6 _ _ ?_
                  refine wpAnyIn_ready (rs := [7]) (by kernel_rfl) (by simp) ?_
                  refine AllReadyIn.cons rfl (fun K7 hK7 => ?_) ?_
                  · go_simp
                    refine hK7 _ _ ?_
                    refine wpAnyIn_done (by kernel_rfl) ?_ _
                    exact HLEAF.out
                  exact AllReadyIn.nil
                exact AllReadyIn.nil
              exact AllReadyIn.nil
            exact AllReadyIn.nil
          refine AllReadyIn.cons rfl (fun K3 hK3 => ?_) ?_
          · go_simp
            refine ⟨trivial, (HC.out _ (Gr.drew _)).mono ?_⟩
            rintro e u1 ⟨x, rfl, hx, hg1', hf1⟩
            obtain ⟨Ax, cx, ex, -⟩ := id hx
            subst ex
            have G1 := Lib.hid (Gr.trans (Gr.drew W) hg1')
            have HX := Lib.hid (And.intro hx (fun b hb => Nat.le_trans (Gr.drew W).size (hf1 b hb)))
            clear hx hf1 hg1' e0 e1 e2 e3 e4 d1 d2
            obtain ⟨-, d1, d2⟩ := KP.out _ G1.out
            refine hK3 _ _ ?_
            refine wpAnyIn_ready (rs := [0, 5]) (by kernel_rfl) (by simp) ?_
            refine AllReadyIn.cons rfl (fun K4 hK4 => ?_) ?_
            · go_simp
              refine hK4 _ _ ?_
              refine wpAnyIn_ready (rs := [5]) (by kernel_rfl) (by simp) ?_
              refine AllReadyIn.cons rfl (fun K5 hK5 => ?_) ?_
              · go_simp
                refine hK5 _ _ ?_
                refine wpAnyIn_ready (rs := [6]) (by kernel_rfl) (by simp) ?_
                refine AllReadyIn.cons rfl (fun K6 hK6 => ?_) ?_
                · refine stepIn_append_lies rfl _ _ 28 rfl (w.heap.size + 1) 42 i0 _ 1 24 Try.underlying28 HI.out.1 HI.out.2.1 HI.out.2.2.1 HI.out.2.2.2 rfl (by decide) op ll.length us rfl (((HB.out.2.2.2.gr elt_int G1.out).1).alloc _) ⟨u1.heap.size, 0, none⟩ 1 1 _ rfl rfl (World.news_of_block (heap_new' u1 _)) (fun u hu => by obtain rfl := List.mem_singleton.1 hu; rfl) (by decide) (by unfold maxLen; have := HLN.out; omega) (by have := HLN.out; omega) (by have := G1.out.size; have := HB.out.2.1; simp; omega) _ rfl ?_
                  intro g7 cap7 w7 hown hgrow hat hlt7
                  have hl := HL.out u1 _ g7 cap7 w7 G1.out HX.out.1 rfl HX.out.2 hown hgrow hat
                  have HLEAF := Lib.hid hl.2
                  have d3 := hl.1.cell
                  have d4 := hl.1.frozen
                  clear hown hgrow hat hlt7 hl d1 d2
                  refine hK6 _ _ ?_
                  refine wpAnyIn_ready (rs := [7]) (by kernel_rfl) (by simp) ?_
                  refine AllReadyIn.cons rfl (fun K7 hK7 => ?_) ?_
                  · go_simp
                    refine hK7 _ _ ?_
                    refine wpAnyIn_done (by kernel_rfl) ?_ _
                    exact HLEAF.out
                  exact AllReadyIn.nil
                exact AllReadyIn.nil
              exact AllReadyIn.nil
            refine AllReadyIn.cons rfl (fun K4 hK4 => ?_) ?_
            · go_simp
              refine hK4 _ _ ?_
              refine wpAnyIn_ready (rs := [0]) (by kernel_rfl) (by simp) ?_
              refine AllReadyIn.cons rfl (fun K5 hK5 => ?_) ?_
              · have d5 := (KP.out _ (Gr.trans G1.out (bel_alloc u1 (.cells #[.slice Ax (ofN (stAt n t (k + 1))).length cx] 42)))).2.1
                go_simp
                clear d5
                refine hK5 _ _ ?_
                refine wpAnyIn_ready (rs := [6]) (by kernel_rfl) (by simp) ?_
                refine AllReadyIn.cons rfl (fun K6 hK6 => ?_) ?_
                · refine stepIn_append_lies rfl _ _ 28 rfl (w.heap.size + 1) 42 i0 _ 1 24 Try.underlying28 HI.out.1 HI.out.2.1 HI.out.2.2.1 HI.out.2.2.2 rfl (by decide) op ll.length us rfl (((HB.out.2.2.2.gr elt_int G1.out).1).alloc _) ⟨u1.heap.size, 0, none⟩ 1 1 _ rfl rfl (World.news_of_block (heap_new' u1 _)) (fun u hu => by obtain rfl := List.mem_singleton.1 hu; rfl) (by decide) (by unfold maxLen; have := HLN.out; omega) (by have := HLN.out; omega) (by have := G1.out.size; have := HB.out.2.1; simp; omega) _ rfl ?_
                  intro g7 cap7 w7 hown hgrow hat hlt7
                  have hl := HL.out u1 _ g7 cap7 w7 G1.out HX.out.1 rfl HX.out.2 hown hgrow hat
                  have HLEAF := Lib.hid hl.2
                  have d3 := hl.1.cell
                  have d4 := hl.1.frozen
                  clear hown hgrow hat hlt7 hl d1 d2
                  refine hK6 _ _ ?_
                  refine wpAnyIn_ready (rs := [7]) (by kernel_rfl) (by simp) ?_
                  refine AllReadyIn.cons rfl (fun K7 hK7 => ?_) ?_
                  · go_simp
                    refine hK7 _ _ ?_
                    refine wpAnyIn_done (by kernel_rfl) ?_ _
                    exact HLEAF.out
                  exact AllReadyIn.nil
                exact AllReadyIn.nil
              exact AllReadyIn.nil
            exact AllReadyIn.nil
          exact AllReadyIn.nil
        exact AllReadyIn.nil
      exact AllReadyIn.nil
    refine AllReadyIn.cons rfl (fun K0 hK0 => ?_) ?_
    · go_simp
      refine hK0 _ _ ?_
      refine wpAnyIn_ready (rs := [0, 1, 3]) (by kernel_rfl) (by simp) ?_
      refine AllReadyIn.cons rfl (fun K1 hK1 => ?_) ?_
      · go_simp
        refine hK1 _ _ ?_
        refine wpAnyIn_ready (rs := [1, 3]) (by kernel_rfl) (by simp) ?_
        refine AllReadyIn.cons rfl (fun K2 hK2 => ?_) ?_
        · go_simp
          refine hK2 _ _ ?_
          refine wpAnyIn_ready (rs := [3]) (by kernel_rfl) (by simp) ?_
          refine AllReadyIn.cons rfl (fun K3 hK3 => ?_) ?_
          · go_simp
            refine hK3 _ _ ?_
            refine wpAnyIn_ready (rs := [4]) (by kernel_rfl) (by simp) ?_
            refine AllReadyIn.cons rfl (fun K4 hK4 => ?_) ?_
            · go_simp
              refine ⟨trivial, (HC.out _ (Gr.drew _)).mono ?_⟩
              rintro e u1 ⟨x, rfl, hx, hg1', hf1⟩
              obtain ⟨Ax, cx, ex, -⟩ := id hx
              subst ex
              have G1 := Lib.hid (Gr.trans (Gr.drew W) hg1')
              have HX := Lib.hid (And.intro hx (fun b hb => Nat.le_trans (Gr.drew W).size (hf1 b hb)))
              clear hx hf1 hg1' e0 e1 e2 e3 e4 d1 d2
              obtain ⟨-, d1, d2⟩ := KP.out _ G1.out
              refine hK4 _ _ ?_
              refine wpAnyIn_ready (rs := [5]) (by kernel_rfl) (by simp) ?_
              refine AllReadyIn.cons rfl (fun K5 hK5 => ?_) ?_
              · go_simp
                refine hK5 _ _ ?_
                refine wpAnyIn_ready (rs := [6]) (by kernel_rfl) (by simp) ?_
                refine AllReadyIn.cons rfl (fun K6 hK6 => ?_) ?_
                · refine stepIn_append_lies rfl _ _ 28 rfl (w.heap.size + 1) 42 i0 _ 1 24 Try.underlying28 HI.out.1 HI.out.2.1 HI.out.2.2.1 HI.out.2.2.2 rfl (by decide) op ll.length us rfl (((HB.out.2.2.2.gr elt_int G1.out).1).alloc _) ⟨u1.heap.size, 0, none⟩ 1 1 _ rfl rfl (World.news_of_block (heap_new' u1 _)) (fun u hu => by obtain rfl := List.mem_singleton.1 hu; rfl) (by decide) (by unfold maxLen; have := HLN.out; omega) (by have := HLN.out; omega) (by have := G1.out.size; have := HB.out.2.1; simp; omega) _ rfl ?_
                  intro g7 cap7 w7 hown hgrow hat hlt7
                  have hl := HL.out u1 _ g7 cap7 w7 G1.out HX.out.1 rfl HX.out.2 hown hgrow hat
                  have HLEAF := Lib.hid hl.2
                  have d3 := hl.1.cell
                  have d4 := hl.1.frozen
                  clear hown hgrow hat hlt7 hl d1 d2
                  refine hK6 _ _ ?_
                  refine wpAnyIn_ready (rs := [7]) (by kernel_rfl) (by simp) ?_
                  refine AllReadyIn.cons rfl (fun K7 hK7 => ?_) ?_
                  · go_simp
                    refine hK7 _ _ ?_
                    refine wpAnyIn_done (by kernel_rfl) ?_ _
                    exact HLEAF.out
                  exact AllReadyIn.nil
                exact AllReadyIn.nil
              exact AllReadyIn.nil
            exact AllReadyIn.nil
          exact AllReadyIn.nil
        refine AllReadyIn.cons rfl (fun K2 hK2 => ?_) ?_
        · go_simp
          refine hK2 _ _ ?_
          refine wpAnyIn_ready (rs := [1]) (by kernel_rfl) (by simp) ?_
          refine AllReadyIn.cons rfl (fun K3 hK3 => ?_) ?_
          · go_simp
            refine hK3 _ _ ?_
            refine wpAnyIn_ready (rs := [4]) (by kernel_rfl) (by simp) ?_
            refine AllReadyIn.cons rfl (fun K4 hK4 => ?_) ?_
            · go_simp
              refine ⟨trivial, (HC.out _ (Gr.drew _)).mono ?_⟩
              rintro e u1 ⟨x, rfl, hx, hg1', hf1⟩
              obtain ⟨Ax, cx, ex, -⟩ := id hx
              subst ex
              have G1 := Lib.hid (Gr.trans (Gr.drew W) hg1')
              have HX := Lib.hid (And.intro hx (fun b hb => Nat.le_trans (Gr.drew W).size (hf1 b hb)))
              clear hx hf1 hg1' e0 e1 e2 e3 e4 d1 d2
              obtain ⟨-, d1, d2⟩ := KP.out _ G1.out
              refine hK4 _ _ ?_
              refine wpAnyIn_ready (rs := [5]) (by kernel_rfl) (by simp) ?_
              refine AllReadyIn.cons rfl (fun K5 hK5 => ?_) ?_
              · go_simp
                refine hK5 _ _ ?_
                refine wpAnyIn_ready (rs := [6]) (by kernel_rfl) (by simp) ?_
                refine AllReadyIn.cons rfl (fun K6 hK6 => ?_) ?_
                · refine stepIn_append_lies rfl _ _ 28 rfl (w.heap.size + 1) 42 i0 _ 1 24 Try.underlying28 HI.out.1 HI.out.2.1 HI.out.2.2.1 HI.out.2.2.2 rfl (by decide) op ll.length us rfl (((HB.out.2.2.2.gr elt_int G1.out).1).alloc _) ⟨u1.heap.size, 0, none⟩ 1 1 _ rfl rfl (World.news_of_block (heap_new' u1 _)) (fun u hu => by obtain rfl := List.mem_singleton.1 hu; rfl) (by decide) (by unfold maxLen; have := HLN.out; omega) (by have := HLN.out; omega) (by have := G1.out.size; have := HB.out.2.1; simp; omega) _ rfl ?_
                  intro g7 cap7 w7 hown hgrow hat hlt7
                  have hl := HL.out u1 _ g7 cap7 w7 G1.out HX.out.1 rfl HX.out.2 hown hgrow hat
                  have HLEAF := Lib.hid hl.2
                  have d3 := hl.1.cell
                  have d4 := hl.1.frozen
                  clear hown hgrow hat hlt7 hl d1 d2
                  refine hK6 _ _ ?_
                  refine wpAnyIn_ready (rs := [7]) (by kernel_rfl) (by simp) ?_
                  refine AllReadyIn.cons rfl (fun K7 hK7 => ?_) ?_
                  · go_simp
                    refine hK7 _ _ ?_
                    refine wpAnyIn_done (by kernel_rfl) ?_ _
                    exact HLEAF.out
                  exact AllReadyIn.nil
                exact AllReadyIn.nil
              exact AllReadyIn.nil
            exact AllReadyIn.nil
          exact AllReadyIn.nil
        exact AllReadyIn.nil
      refine AllReadyIn.cons rfl (fun K1 hK1 => ?_) ?_
      · go_simp
        refine hK1 _ _ ?_
        refine wpAnyIn_ready (rs := [0, 3]) (by kernel_rfl) (by simp) ?_
        refine AllReadyIn.cons rfl (fun K2 hK2 => ?_) ?_
        · go_simp
          refine hK2 _ _ ?_
          refine wpAnyIn_ready (rs := [3]) (by kernel_rfl) (by simp) ?_
          refine AllReadyIn.cons rfl (fun K3 hK3 => ?_) ?_
          · go_simp
            refine hK3 _ _ ?_
            refine wpAnyIn_ready (rs := [4]) (by kernel_rfl) (by simp) ?_
            refine AllReadyIn.cons rfl (fun K4 hK4 => ?_) ?_
            · go_simp
              refine ⟨trivial, (HC.out _ (Gr.drew _)).mono ?_⟩
              rintro e u1 ⟨x, rfl, hx, hg1', hf1⟩
              obtain ⟨Ax, cx, ex, -⟩ := id hx
              subst ex
              have G1 := Lib.hid (Gr.trans (Gr.drew W) hg1')
              have HX := Lib.hid (And.intro hx (fun b hb => Nat.le_trans (Gr.drew W).size (hf1 b hb)))
              clear hx hf1 hg1' e0 e1 e2 e3 e4 d1 d2
              obtain ⟨-, d1, d2⟩ := KP.out _ G1.out
              refine hK4 _ _ ?_
              refine wpAnyIn_ready (rs := [5]) (by kernel_rfl) (by simp) ?_
              refine AllReadyIn.cons rfl (fun K5 hK5 => ?_) ?_
              · go_simp
                refine hK5 _ _ ?_
                refine wpAnyIn_ready (rs := [6]) (by kernel_rfl) (by simp) ?_
                refine AllReadyIn.cons rfl (fun K6 hK6 => ?_) ?_
                · refine stepIn_append_lies rfl _ _ 28 rfl (w.heap.size + 1) 42 i0 _ 1 24 Try.underlying28 HI.out.1 HI.out.2.1 HI.out.2.2.1 HI.out.2.2.2 rfl (by decide) op ll.length us rfl (((HB.out.2.2.2.gr elt_int G1.out).1).alloc _) ⟨u1.heap.size, 0, none⟩ 1 1 _ rfl rfl (World.news_of_block (heap_new' u1 _)) (fun u hu => by obtain rfl := List.mem_singleton.1 hu; rfl) (by decide) (by unfold maxLen; have := HLN.out; omega) (by have := HLN.out; omega) (by have := G1.out.size; have := HB.out.2.1; simp; omega) _ rfl ?_
                  intro g7 cap7 w7 hown hgrow hat hlt7
                  have hl := HL.out u1 _ g7 cap7 w7 G1.out HX.out.1 rfl HX.out.2 hown hgrow hat
                  have HLEAF := Lib.hid hl.2
                  have d3 := hl.1.cell
                  have d4 := hl.1.frozen
                  clear hown hgrow hat hlt7 hl d1 d2
                  refine hK6 _ _ ?_
                  refine wpAnyIn_ready (rs := [7]) (by kernel_rfl) (by simp) ?_
                  refine AllReadyIn.cons rfl (fun K7 hK7 => ?_) ?_
                  · go_simp
                    refine hK7 _ _ ?_
                    refine wpAnyIn_done (by kernel_rfl) ?_ _
                    exact HLEAF.out
                  exact AllReadyIn.nil
                exact AllReadyIn.nil
              exact AllReadyIn.nil
            exact AllReadyIn.nil
          exact AllReadyIn.nil
        refine AllReadyIn.cons rfl (fun K2 hK2 => ?_) ?_
        · go_simp
          refine hK2 _ _ ?_
          refine wpAnyIn_ready (rs := [0, 4]) (by kernel_rfl) (by simp) ?_
          refine AllReadyIn.cons rfl (fun K3 hK3 => ?_) ?_
          · go_simp
            refine hK3 _ _ ?_
            refine wpAnyIn_ready (rs := [4]) (by kernel_rfl) (by simp) ?_
            refine AllReadyIn.cons rfl (fun K4 hK4 => ?_) ?_
            · go_simp
              refine ⟨trivial, (HC.out _ (Gr.drew _)).mono ?_⟩
              rintro e u1 ⟨x, rfl, hx, hg1', hf1⟩
              obtain ⟨Ax, cx, ex, -⟩ := id hx
              subst ex
              have G1 := Lib.hid (Gr.trans (Gr.drew W) hg1')
              have HX := Lib.hid (And.intro hx (fun b hb => Nat.le_trans (Gr.drew W).size (hf1 b hb)))
              clear hx hf1 hg1' e0 e1 e2 e3 e4 d1 d2
              obtain ⟨-, d1, d2⟩ := KP.out _ G1.out
              refine hK4 _ _ ?_
              refine wpAnyIn_ready (rs := [5]) (by kernel_rfl) (by simp) ?_
              refine AllReadyIn.cons rfl (fun K5 hK5 => ?_) ?_
              · go_simp
                refine hK5 _ _ ?_
                refine wpAnyIn_ready (rs := [6]) (by kernel_rfl) (by simp) ?_
                refine AllReadyIn.cons rfl (fun K6 hK6 => ?_) ?_
                · refine stepIn_append_lies rfl _ _ 28 rfl (w.heap.size + 1) 42 i0 _ 1 24 Try.underlying28 HI.out.1 HI.out.2.1 HI.out.2.2.1 HI.out.2.2.2 rfl (by decide) op ll.length us rfl (((HB.out.2.2.2.gr elt_int G1.out).1).alloc _) ⟨u1.heap.size, 0, none⟩ 1 1 _ rfl rfl (World.news_of_block (heap_new' u1 _)) (fun u hu => by obtain rfl := List.mem_singleton.1 hu; rfl) (by decide) (by unfold maxLen; have := HLN.out; omega) (by have := HLN.out; omega) (by have := G1.out.size; have := HB.out.2.1; simp; omega) _ rfl ?_
                  intro g7 cap7 w7 hown hgrow hat hlt7
                  have hl := HL.out u1 _ g7 cap7 w7 G1.out HX.out.1 rfl HX.out.2 hown hgrow hat
                  have HLEAF := Lib.hid hl.2
                  have d3 := hl.1.cell
                  have d4 := hl.1.frozen
                  clear hown hgrow hat hlt7 hl d1 d2
                  refine hK6 _ _ ?_
                  refine wpAnyIn_ready (rs := [7]) (by kernel_rfl) (by simp) ?_
                  refine AllReadyIn.cons rfl (fun K7 hK7 => ?_) ?_
                  · go_simp
                    refine hK7 _ _ ?_
                    refine wpAnyIn_done (by kernel_rfl) ?_ _
                    exact HLEAF.out
                  exact AllReadyIn.nil
                exact AllReadyIn.nil
              exact AllReadyIn.nil
            exact AllReadyIn.nil
          refine AllReadyIn.cons rfl (fun K3 hK3 => ?_) ?_
          · go_simp
            refine ⟨trivial, (HC.out _ (Gr.drew _)).mono ?_⟩
            rintro e u1 ⟨x, rfl, hx, hg1', hf1⟩
            obtain ⟨Ax, cx, ex, -⟩ := id hx
            subst ex
            have G1 := Lib.hid (Gr.trans (Gr.drew W) hg1')
            have HX := Lib.hid (And.intro hx (fun b hb => Nat.le_trans (Gr.drew W).size (hf1 b hb)))
            clear hx hf1 hg1' e0 e1 e2 e3 e4 d1 d2
            obtain ⟨-, d1, d2⟩ := KP.out _ G1.out
            refine hK3 _ _ ?_
            refine wpAnyIn_ready (rs := [0, 5]) (by kernel_rfl) (by simp) ?_
            refine AllReadyIn.cons rfl (fun K4 hK4 => ?_) ?_
            · go_simp
              refine hK4 _ _ ?_
              refine wpAnyIn_ready (rs := [5]) (by kernel_rfl) (by simp) ?_
              refine AllReadyIn.cons rfl (fun K5 hK5 => ?_) ?_
              · go_simp
                refine hK5 _ _ ?_
                refine wpAnyIn_ready (rs := [6]) (by kernel_rfl) (by simp) ?_
                refine AllReadyIn.cons rfl (fun K6 hK6 => ?_) ?_
                · refine stepIn_append_lies rfl _ _ 28 rfl (w.heap.size + 1) 42 i0 _ 1 24 Try.underlying28 HI.out.1 HI.out.2.1 HI.out.2.2.1 HI.out.2.2.2 rfl (by decide) op ll.length us rfl (((HB.out.2.2.2.gr elt_int G1.out).1).alloc _) ⟨u1.heap.size, 0, none⟩ 1 1 _ rfl rfl (World.news_of_block (heap_new' u1 _)) (fun u hu => by obtain rfl := List.mem_singleton.1 hu; rfl) (by decide) (by unfold maxLen; have := HLN.out; omega) (by have := HLN.out; omega) (by have := G1.out.size; have := HB.out.2.1; simp; omega) _ rfl ?_
                  intro g7 cap7 w7 hown hgrow hat hlt7
                  have hl := HL.out u1 _ g7 cap7 w7 G1.out HX.out.1 rfl HX.out.2 hown hgrow hat
                  have HLEAF := Lib.hid hl.2
                  have d3 := hl.1.cell
                  have d4 := hl.1.frozen
                  clear hown hgrow hat hlt7 hl d1 d2
                  refine hK6 _ _ ?_
                  refine wpAnyIn_ready (rs := [7]) (by kernel_rfl) (by simp) ?_
                  refine AllReadyIn.cons rfl (fun K7 hK7 => ?_) ?_
                  · go_simp
                    refine hK7 _ _ ?_
                    refine wpAnyIn_done (by kernel_rfl) ?_ _
                    exact HLEAF.out
                  exact AllReadyIn.nil
                exact AllReadyIn.nil
              exact AllReadyIn.nil
            refine AllReadyIn.cons rfl (fun K4 hK4 => ?_) ?_
            · go_simp
              refine hK4 _ _ ?_
              refine wpAnyIn_ready (rs := [0]) (by kernel_rfl) (by simp) ?_
              refine AllReadyIn.cons rfl (fun K5 hK5 => ?_) ?_
              · have d5 := (KP.out _ (Gr.trans G1.out (bel_alloc u1 (.cells #[.slice Ax (ofN (stAt n t (k + 1))).length cx] 42)))).2.1
                go_simp
                clear d5
                refine hK5 _ _ ?_
                refine wpAnyIn_ready (rs := [6]) (by kernel_rfl) (by simp) ?_
                refine AllReadyIn.cons rfl (fun K6 hK6 => ?_) ?_
                · refine stepIn_append_lies rfl _ _ 28 rfl (w.heap.size + 1) 42 i0 _ 1 24 Try.underlying28 HI.out.1 HI.out.2.1 HI.out.2.2.1 HI.out.2.2.2 rfl (by decide) op ll.length us rfl (((HB.out.2.2.2.gr elt_int G1.out).1).alloc _) ⟨u1.heap.size, 0, none⟩ 1 1 _ rfl rfl (World.news_of_block (heap_new' u1 _)) (fun u hu => by obtain rfl := List.mem_singleton.1 hu; rfl) (by decide) (by unfold maxLen; have := HLN.out; omega) (by have := HLN.out; omega) (by have := G1.out.size; have := HB.out.2.1; simp; omega) _ rfl ?_
                  intro g7 cap7 w7 hown hgrow hat hlt7
                  have hl := HL.out u1 _ g7 cap7 w7 G1.out HX.out.1 rfl HX.out.2 hown hgrow hat
                  have HLEAF := Lib.hid hl.2
                  have d3 := hl.1.cell
                  have d4 := hl.1.frozen
                  clear hown hgrow hat hlt7 hl d1 d2
                  refine hK6 _ _ ?_
                  refine wpAnyIn_ready (rs := [7]) (by kernel_rfl) (by simp) ?_
                  refine AllReadyIn.cons rfl (fun K7 hK7 => ?_) ?_
                  · go_simp
                    refine hK7 _ _ ?_
                    refine wpAnyIn_done (by kernel_rfl) ?_ _
                    exact HLEAF.out
                  exact AllReadyIn.nil
                exact AllReadyIn.nil
              exact AllReadyIn.nil
            exact AllReadyIn.nil
          exact AllReadyIn.nil
        exact AllReadyIn.nil
      refine AllReadyIn.cons rfl (fun K1 hK1 => ?_) ?_
      · go_simp
        refine hK1 _ _ ?_
        refine wpAnyIn_ready (rs := [0, 1]) (by kernel_rfl) (by simp) ?_
        refine AllReadyIn.cons rfl (fun K2 hK2 => ?_) ?_
        · go_simp
          refine hK2 _ _ ?_
          refine wpAnyIn_ready (rs := [1]) (by kernel_rfl) (by simp) ?_
          refine AllReadyIn.cons rfl (fun K3 hK3 => ?_) ?_
          · go_simp
            refine hK3 _ _ ?_
            refine wpAnyIn_ready (rs := [4]) (by kernel_rfl) (by simp) ?_
            refine AllReadyIn.cons rfl (fun K4 hK4 => ?_) ?_
            · go_simp
              refine ⟨trivial, (HC.out _ (Gr.drew _)).mono ?_⟩
              rintro e u1 ⟨x, rfl, hx, hg1', hf1⟩
              obtain ⟨Ax, cx, ex, -⟩ := id hx
              subst ex
              have G1 := Lib.hid (Gr.trans (Gr.drew W) hg1')
              have HX := Lib.hid (And.intro hx (fun b hb => Nat.le_trans (Gr.drew W).size (hf1 b hb)))
              clear hx hf1 hg1' e0 e1 e2 e3 e4 d1 d2
              obtain ⟨-, d1, d2⟩ := KP.out _ G1.out
              refine hK4 _ _ ?_
              refine wpAnyIn_ready (rs := [5]) (by kernel_rfl) (by simp) ?_
              refine AllReadyIn.cons rfl (fun K5 hK5 => ?_) ?_
              · go_simp
                refine hK5 _ _ ?_
                refine wpAnyIn_ready (rs := [6]) (by kernel_rfl) (by simp) ?_
                refine AllReadyIn.cons rfl (fun K6 hK6 => ?_) ?_
                · refine stepIn_append_lies rfl _ _ 28 rfl (w.heap.size + 1) 42 i0 _ 1 24 Try.underlying28 HI.out.1 HI.out.2.1 HI.out.2.2.1 HI.out.2.2.2 rfl (by decide) op ll.length us rfl (((HB.out.2.2.2.gr elt_int G1.out).1).alloc _) ⟨u1.heap.size, 0, none⟩ 1 1 _ rfl rfl (World.news_of_block (heap_new' u1 _)) (fun u hu => by obtain rfl := List.mem_singleton.1 hu; rfl) (by decide) (by unfold maxLen; have := HLN.out; omega) (by have := HLN.out; omega) (by have := G1.out.size; have := HB.out.2.1; simp; omega) _ rfl ?_
                  intro g7 cap7 w7 hown hgrow hat hlt7
                  have hl := HL.out u1 _ g7 cap7 w7 G1.out HX.out.1 rfl HX.out.2 hown hgrow hat
                  have HLEAF := Lib.hid hl.2
                  have d3 := hl.1.cell
                  have d4 := hl.1.frozen
                  clear hown hgrow hat hlt7 hl d1 d2
                  refine hK6 _ _ ?_
                  refine wpAnyIn_ready (rs := [7]) (by kernel_rfl) (by simp) ?_
                  refine AllReadyIn.cons rfl (fun K7 hK7 => ?_) ?_
                  · go_simp
                    refine hK7 _ _ ?_
                    refine wpAnyIn_done (by kernel_rfl) ?_ _
                    exact HLEAF.out
                  exact AllReadyIn.nil
                exact AllReadyIn.nil
              exact AllReadyIn.nil
            exact AllReadyIn.nil
          exact AllReadyIn.nil
        refine AllReadyIn.cons rfl (fun K2 hK2 => ?_) ?_
        · go_simp
          refine hK2 _ _ ?_
          refine wpAnyIn_ready (rs := [0, 4]) (by kernel_rfl) (by simp) ?_
          refine AllReadyIn.cons rfl (fun K3 hK3 => ?_) ?_
          · go_simp
            refine hK3 _ _ ?_
            refine wpAnyIn_ready (rs := [4]) (by kernel_rfl) (by simp) ?_
            refine AllReadyIn.cons rfl (fun K4 hK4 => ?_) ?_
            · go_simp
              refine ⟨trivial, (HC.out _ (Gr.drew _)).mono ?_⟩
              rintro e u1 ⟨x, rfl, hx, hg1', hf1⟩
              obtain ⟨Ax, cx, ex, -⟩ := id hx
              subst ex
              have G1 := Lib.hid (Gr.trans (Gr.drew W) hg1')
              have HX := Lib.hid (And.intro hx (fun b hb => Nat.le_trans (Gr.drew W).size (hf1 b hb)))
              clear hx hf1 hg1' e0 e1 e2 e3 e4 d1 d2
              obtain ⟨-, d1, d2⟩ := KP.out _ G1.out
              refine hK4 _ _ ?_
              refine wpAnyIn_ready (rs := [5]) (by kernel_rfl) (by simp) ?_
              refine AllReadyIn.cons rfl (fun K5 hK5 => ?_) ?_
              · go_simp
                refine hK5 _ _ ?_
                refine wpAnyIn_ready (rs := [6]) (by kernel_rfl) (by simp) ?_
                refine AllReadyIn.cons rfl (fun K6 hK6 => ?_) ?_
                · refine stepIn_append_lies rfl _ _ 28 rfl (w.heap.size + 1) 42 i0 _ 1 24 Try.underlying28 HI.out.1 HI.out.2.1 HI.out.2.2.1 HI.out.2.2.2 rfl (by decide) op ll.length us rfl (((HB.out.2.2.2.gr elt_int G1.out).1).alloc _) ⟨u1.heap.size, 0, none⟩ 1 1 _ rfl rfl (World.news_of_block (heap_new' u1 _)) (fun u hu => by obtain rfl := List.mem_singleton.1 hu; rfl) (by decide) (by unfold maxLen; have := HLN.out; omega) (by have := HLN.out; omega) (by have := G1.out.size; have := HB.out.2.1; simp; omega) _ rfl ?_
                  intro g7 cap7 w7 hown hgrow hat hlt7
                  have hl := HL.out u1 _ g7 cap7 w7 G1.out HX.out.1 rfl HX.out.2 hown hgrow hat
                  have HLEAF := Lib.hid hl.2
                  have d3 := hl.1.cell
                  have d4 := hl.1.frozen
                  clear hown hgrow hat hlt7 hl d1 d2
                  refine hK6 _ _ ?_
                  refine wpAnyIn_ready (rs := [7]) (by kernel_rfl) (by simp) ?_
                  refine AllReadyIn.cons rfl (fun K7 hK7 => ?_) ?_
                  · go_simp
                    refine hK7 _ _ ?_
                    refine wpAnyIn_done (by kernel_rfl) ?_ _
                    exact HLEAF.out
                  exact AllReadyIn.nil
                exact AllReadyIn.nil
              exact AllReadyIn.nil
            exact AllReadyIn.nil
          refine AllReadyIn.cons rfl (fun K3 hK3 => ?_) ?_
          · go_simp
            refine ⟨trivial, (HC.out _ (Gr.drew _)).mono ?_⟩
            rintro e u1 ⟨x, rfl, hx, hg1', hf1⟩
            obtain ⟨Ax, cx, ex, -⟩ := id hx
            subst ex
            have G1 := Lib.hid (Gr.trans (Gr.drew W) hg1')
            have HX := Lib.hid (And.intro hx (fun b hb => Nat.le_trans (Gr.drew W).size (hf1 b hb)))
            clear hx hf1 hg1' e0 e1 e2 e3 e4 d1 d2
            obtain ⟨-, d1, d2⟩ := KP.out _ G1.out
            refine hK3 _ _ ?_
            refine wpAnyIn_ready (rs := [0, 5]) (by kernel_rfl) (by simp) ?_
            refine AllReadyIn.cons rfl (fun K4 hK4 => ?_) ?_
            · go_simp
              refine hK4 _ _ ?_
              refine wpAnyIn_ready (rs := [5]) (by kernel_rfl) (by simp) ?_
              refine AllReadyIn.cons rfl (fun K5 hK5 => ?_) ?_
              · go_simp
                refine hK5 _ _ ?_
                refine wpAnyIn_ready (rs := [6]) (by kernel_rfl) (by simp) ?_
                refine AllReadyIn.cons rfl (fun K6 hK6 => ?_) ?_
                · refine stepIn_append_lies rfl _ _ 28 rfl (w.heap.size + 1) 42 i0 _ 1 24 Try.underlying28 HI.out.1 HI.out.2.1 HI.out.2.2.1 HI.out.2.2.2 rfl (by decide) op ll.length us rfl (((HB.out.2.2.2.gr elt_int G1.out).1).alloc _) ⟨u1.heap.size, 0, none⟩ 1 1 _ rfl rfl (World.news_of_block (heap_new' u1 _)) (fun u hu => by obtain rfl := List.mem_singleton.1 hu; rfl) (by decide) (by unfold maxLen; have := HLN.out; omega) (by have := HLN.out; omega) (by have := G1.out.size; have := HB.out.2.1; simp; omega) _ rfl ?_
                  intro g7 cap7 w7 hown hgrow hat hlt7
                  have hl := HL.out u1 _ g7 cap7 w7 G1.out HX.out.1 rfl HX.out.2 hown hgrow hat
                  have HLEAF := Lib.hid hl.2
                  have d3 := hl.1.cell
                  have d4 := hl.1.frozen
                  clear hown hgrow hat hlt7 hl d1 d2
                  refine hK6 _ _ ?_
                  refine wpAnyIn_ready (rs := [7]) (by kernel_rfl) (by simp) ?_
                  refine AllReadyIn.cons rfl (fun K7 hK7 => ?_) ?_
                  · go_simp
                    refine hK7 _ _ ?_
                    refine wpAnyIn_done (by kernel_rfl) ?_ _
                    exact HLEAF.out
                  exact AllReadyIn.nil
                exact AllReadyIn.nil
              exact AllReadyIn.nil
            refine AllReadyIn.cons rfl (fun K4 hK4 => ?_) ?_
            · go_simp
              refine hK4 _ _ ?_
              refine wpAnyIn_ready (rs := [0]) (by kernel_rfl) (by simp) ?_
              refine AllReadyIn.cons rfl (fun K5 hK5 => ?_) ?_
              · have d5 := (KP.out _ (Gr.trans G1.out (bel_alloc u1 (.cells #[.slice Ax (ofN (stAt n t (k + 1))).length cx] 42)))).2.1
                go_simp
                clear d5
                refine hK5 _ _ ?_
                refine wpAnyIn_ready (rs := [6]) (by kernel_rfl) (by simp) ?_
                refine AllReadyIn.cons rfl (fun K6 hK6 => ?_) ?_
                · refine stepIn_append_lies rfl _ _ 28 rfl (w.heap.size + 1) 42 i0 _ 1 24 Try.underlying28 HI.out.1 HI.out.2.1 HI.out.2.2.1 HI.out.2.2.2 rfl (by decide) op ll.length us rfl (((HB.out.2.2.2.gr elt_int G1.out).1).alloc _) ⟨u1.heap.size, 0, none⟩ 1 1 _ rfl rfl (World.news_of_block (heap_new' u1 _)) (fun u hu => by obtain rfl := List.mem_singleton.1 hu; rfl) (by decide) (by unfold maxLen; have := HLN.out; omega) (by have := HLN.out; omega) (by have := G1.out.size; have := HB.out.2.1; simp; omega) _ rfl ?_
                  intro g7 cap7 w7 hown hgrow hat hlt7
                  have hl := HL.out u1 _ g7 cap7 w7 G1.out HX.out.1 rfl HX.out.2 hown hgrow hat
                  have HLEAF := Lib.hid hl.2
                  have d3 := hl.1.cell
                  have d4 := hl.1.frozen
                  clear hown hgrow hat hlt7 hl d1 d2
                  refine hK6 _ _ ?_
                  refine wpAnyIn_ready (rs := [7]) (by kernel_rfl) (by simp) ?_
                  refine AllReadyIn.cons rfl (fun K7 hK7 => ?_) ?_
                  · go_simp
                    refine hK7 _ _ ?_
                    refine wpAnyIn_done (by kernel_rfl) ?_ _
                    exact HLEAF.out
                  exact AllReadyIn.nil
                exact AllReadyIn.nil
              exact AllReadyIn.nil
            exact AllReadyIn.nil
          exact AllReadyIn.nil
        exact AllReadyIn.nil
      exact AllReadyIn.nil
    refine AllReadyIn.cons rfl (fun K0 hK0 => ?_) ?_
    · go_simp
      refine hK0 _ _ ?_
      refine wpAnyIn_ready (rs := [0, 1, 2]) (by kernel_rfl) (by simp) ?_
      refine AllReadyIn.cons rfl (fun K1 hK1 => ?_) ?_
      · go_simp
        refine hK1 _ _ ?_
        refine wpAnyIn_ready (rs := [1, 2]) (by kernel_rfl) (by simp) ?_
        refine AllReadyIn.cons rfl (fun K2 hK2 => ?_) ?_
        · go_simp
          refine hK2 _ _ ?_
          refine wpAnyIn_ready (rs := [2]) (by kernel_rfl) (by simp) ?_
          refine AllReadyIn.cons rfl (fun K3 hK3 => ?_) ?_
          · go_simp
            refine hK3 _ _ ?_
            refine wpAnyIn_ready (rs := [4]) (by kernel_rfl) (by simp) ?_
            refine AllReadyIn.cons rfl (fun K4 hK4 => ?_) ?_
            · go_simp
              refine ⟨trivial, (HC.out _ (Gr.drew _)).mono ?_⟩
              rintro e u1 ⟨x, rfl, hx, hg1', hf1⟩
              obtain ⟨Ax, cx, ex, -⟩ := id hx
              subst ex
              have G1 := Lib.hid (Gr.trans (Gr.drew W) hg1')
              have HX := Lib.hid (And.intro hx (fun b hb => Nat.le_trans (Gr.drew W).size (hf1 b hb)))
              clear hx hf1 hg1' e0 e1 e2 e3 e4 d1 d2
              obtain ⟨-, d1, d2⟩ := KP.out _ G1.out
              refine hK4 _ _ ?_
              refine wpAnyIn_ready (rs := [5]) (by kernel_rfl) (by simp) ?_
              refine AllReadyIn.cons rfl (fun K5 hK5 => ?_) ?_
              · go_simp
                refine hK5 _ _ ?_
                refine wpAnyIn_ready (rs := [6]) (by kernel_rfl) (by simp) ?_
                refine AllReadyIn.cons rfl (fun K6 hK6 => ?_) ?_
                · refine stepIn_append_lies rfl _ _ 28 rfl (w.heap.size + 1) 42 i0 _ 1 24 Try.underlying28 HI.out.1 HI.out.2.1 HI.out.2.2.1 HI.out.2.2.2 rfl (by decide) op ll.length us rfl (((HB.out.2.2.2.gr elt_int G1.out).1).alloc _) ⟨u1.heap.size, 0, none⟩ 1 1 _ rfl rfl (World.news_of_block (heap_new' u1 _)) (fun u hu => by obtain rfl := List.mem_singleton.1 hu; rfl) (by decide) (by unfold maxLen; have := HLN.out; omega) (by have := HLN.out; omega) (by have := G1.out.size; have := HB.out.2.1; simp; omega) _ rfl ?_
                  intro g7 cap7 w7 hown hgrow hat hlt7
                  have hl := HL.out u1 _ g7 cap7 w7 G1.out HX.out.1 rfl HX.out.2 hown hgrow hat
                  have HLEAF := Lib.hid hl.2
                  have d3 := hl.1.cell
                  have d4 := hl.1.frozen
                  clear hown hgrow hat hlt7 hl d1 d2
                  refine hK6 _ _ ?_
                  refine wpAnyIn_ready (rs := [7]) (by kernel_rfl) (by simp) ?_
                  refine AllReadyIn.cons rfl (fun K7 hK7 => ?_) ?_
                  · go_simp
                    refine hK7 _ _ ?_
                    refine wpAnyIn_done (by kernel_rfl) ?_ _
                    exact HLEAF.out
                  exact AllReadyIn.nil
                exact AllReadyIn.nil
              exact AllReadyIn.nil
            exact AllReadyIn.nil
          exact AllReadyIn.nil
        refine AllReadyIn.cons rfl (fun K2 hK2 => ?_) ?_
        · go_simp
          refine hK2 _ _ ?_
          refine wpAnyIn_ready (rs := [1]) (by kernel_rfl) (by simp) ?_
          refine AllReadyIn.cons rfl (fun K3 hK3 => ?_) ?_
          · go_simp
            refine hK3 _ _ ?_
            refine wpAnyIn_ready (rs := [4]) (by kernel_rfl) (by simp) ?_
            refine AllReadyIn.cons rfl (fun K4 hK4 => ?_) ?_
            · go_simp
              refine ⟨trivial, (HC.out _ (Gr.drew _)).mono ?_⟩
              rintro e u1 ⟨x, rfl, hx, hg1', hf1⟩
              obtain ⟨Ax, cx, ex, -⟩ := id hx
              subst ex
              have G1 := Lib.hid (Gr.trans (Gr.drew W) hg1')
              have HX := Lib.hid (And.intro hx (fun b hb => Nat.le_trans (Gr.drew W).size (hf1 b hb)))
              clear hx hf1 hg1' e0 e1 e2 e3 e4 d1 d2
              obtain ⟨-, d1, d2⟩ := KP.out _ G1.out
              refine hK4 _ _ ?_
              refine wpAnyIn_ready (rs := [5]) (by kernel_rfl) (by simp) ?_
              refine AllReadyIn.cons rfl (fun K5 hK5 => ?_) ?_
              · go_simp
                refine hK5 _ _ ?_
                refine wpAnyIn_ready (rs := [6]) (by kernel_rfl) (by simp) ?_
                refine AllReadyIn.cons rfl (fun K6 hK6 => ?_) ?_
                · refine stepIn_append_lies rfl _ _ 28 rfl (w.heap.size + 1) 42 i0 _ 1 24 Try.underlying28 HI.out.1 HI.out.2.1 HI.out.2.2.1 HI.out.2.2.2 rfl (by decide) op ll.length us rfl (((HB.out.2.2.2.gr elt_int G1.out).1).alloc _) ⟨u1.heap.size, 0, none⟩ 1 1 _ rfl rfl (World.news_of_block (heap_new' u1 _)) (fun u hu => by obtain rfl := List.mem_singleton.1 hu; rfl) (by decide) (by unfold maxLen; have := HLN.out; omega) (by have := HLN.out; omega) (by have := G1.out.size; have := HB.out.2.1; simp; omega) _ rfl ?_
                  intro g7 cap7 w7 hown hgrow hat hlt7
                  have hl := HL.out u1 _ g7 cap7 w7 G1.out HX.out.1 rfl HX.out.2 hown hgrow hat
                  have HLEAF := Lib.hid hl.2
                  have d3 := hl.1.cell
                  have d4 := hl.1.frozen
                  clear hown hgrow hat hlt7 hl d1 d2
                  refine hK6 _ _ ?_
                  refine wpAnyIn_ready (rs := [7]) (by kernel_rfl) (by simp) ?_
                  refine AllReadyIn.cons rfl (fun K7 hK7 => ?_) ?_
                  · go_simp
                    refine hK7 _ _ ?_
                    refine wpAnyIn_done (by kernel_rfl) ?_ _
                    exact HLEAF.out
                  exact AllReadyIn.nil
                exact AllReadyIn.nil
              exact AllReadyIn.nil
            exact AllReadyIn.nil
          exact AllReadyIn.nil
        exact AllReadyIn.nil
      refine AllReadyIn.cons rfl (fun K1 hK1 => ?_) ?_
      · go_simp
        refine hK1 _ _ ?_
        refine wpAnyIn_ready (rs := [0, 2]) (by kernel_rfl) (by simp) ?_
        refine AllReadyIn.cons rfl (fun K2 hK2 => ?_) ?_
        · go_simp
          refine hK2 _ _ ?_
          refine wpAnyIn_ready (rs := [2]) (by kernel_rfl) (by simp) ?_
          refine AllReadyIn.cons rfl (fun K3 hK3 => ?_) ?_
          · go_simp
            refine hK3 _ _ ?_
            refine wpAnyIn_ready (rs := [4]) (by kernel_rfl) (by simp) ?_
            refine AllReadyIn.cons rfl (fun K4 hK4 => ?_) ?_
            · go_simp
              refine ⟨trivial, (HC.out _ (Gr.drew _)).mono ?_⟩
              rintro e u1 ⟨x, rfl, hx, hg1', hf1⟩
              obtain ⟨Ax, cx, ex, -⟩ := id hx
              subst ex
              have G1 := Lib.hid (Gr.trans (Gr.drew W) hg1')
              have HX := Lib.hid (And.intro hx (fun b hb => Nat.le_trans (Gr.drew W).size (hf1 b hb)))
              clear hx hf1 hg1' e0 e1 e2 e3 e4 d1 d2
              obtain ⟨-, d1, d2⟩ := KP.out _ G1.out
              refine hK4 _ _ ?_
              refine wpAnyIn_ready (rs := [5]) (by kernel_rfl) (by simp) ?_
              refine AllReadyIn.cons rfl (fun K5 hK5 => ?_) ?_
              · go_simp
                refine hK5 _ _ ?_
                refine wpAnyIn_ready (rs := [6]) (by kernel_rfl) (by simp) ?_
                refine AllReadyIn.cons rfl (fun K6 hK6 => ?_) ?_
                · refine stepIn_append_lies rfl _ _ 28 rfl (w.heap.size + 1) 42 i0 _ 1 24 Try.underlying28 HI.out.1 HI.out.2.1 HI.out.2.2.1 HI.out.2.2.2 rfl (by decide) op ll.length us rfl (((HB.out.2.2.2.gr elt_int G1.out).1).alloc _) ⟨u1.heap.size, 0, none⟩ 1 1 _ rfl rfl (World.news_of_block (heap_new' u1 _)) (fun u hu => by obtain rfl := List.mem_singleton.1 hu; rfl) (by decide) (by unfold maxLen; have := HLN.out; omega) (by have := HLN.out; omega) (by have := G1.out.size; have := HB.out.2.1; simp; omega) _ rfl ?_
                  intro g7 cap7 w7 hown hgrow hat hlt7
                  have hl := HL.out u1 _ g7 cap7 w7 G1.out HX.out.1 rfl HX.out.2 hown hgrow hat
                  have HLEAF := Lib.hid hl.2
                  have d3 := hl.1.cell
                  have d4 := hl.1.frozen
                  clear hown hgrow hat hlt7 hl d1 d2
                  refine hK6 _ _ ?_
                  refine wpAnyIn_ready (rs := [7]) (by kernel_rfl) (by simp) ?_
                  refine AllReadyIn.cons rfl (fun K7 hK7 => ?_) ?_
                  · go_simp
                    refine hK7 _ _ ?_
                    refine wpAnyIn_done (by kernel_rfl) ?_ _
                    exact HLEAF.out
                  exact AllReadyIn.nil
                exact AllReadyIn.nil
              exact AllReadyIn.nil
            exact AllReadyIn.nil
          exact AllReadyIn.nil
        refine AllReadyIn.cons rfl (fun K2 hK2 => ?_) ?_
        · go_simp
          refine hK2 _ _ ?_
          refine wpAnyIn_ready (rs := [0, 4]) (by kernel_rfl) (by simp) ?_
          refine AllReadyIn.cons rfl (fun K3 hK3 => ?_) ?_
          · go_simp
            refine hK3 _ _ ?_
            refine wpAnyIn_ready (rs := [4]) (by kernel_rfl) (by simp) ?_
            refine AllReadyIn.cons rfl (fun K4 hK4 => ?_) ?_
            · go_simp
              refine ⟨trivial, (HC.out _ (Gr.drew _)).mono ?_⟩
              rintro e u1 ⟨x, rfl, hx, hg1', hf1⟩
              obtain ⟨Ax, cx, ex, -⟩ := id hx
              subst ex
              have G1 := Lib.hid (Gr.trans (Gr.drew W) hg1')
              have HX := Lib.hid (And.intro hx (fun b hb => Nat.le_trans (Gr.drew W).size (hf1 b hb)))
              clear hx hf1 hg1' e0 e1 e2 e3 e4 d1 d2
              obtain ⟨-, d1, d2⟩ := KP.out _ G1.out
              refine hK4 _ _ ?_
              refine wpAnyIn_ready (rs := [5]) (by kernel_rfl) (by simp) ?_
              refine AllReadyIn.cons rfl (fun K5 hK5 => ?_) ?_
              · go_simp
                refine hK5 _ _ ?_
                refine wpAnyIn_ready (rs := [6]) (by kernel_rfl) (by simp) ?_
                refine AllReadyIn.cons rfl (fun K6 hK6 => ?_) ?_
                · refine stepIn_append_lies rfl _ _ 28 rfl (w.heap.size + 1) 42 i0 _ 1 24 Try.underlying28 HI.out.1 HI.out.2.1 HI.out.2.2.1 HI.out.2.2.2 rfl (by decide) op ll.length us rfl (((HB.out.2.2.2.gr elt_int G1.out).1).alloc _) ⟨u1.heap.size, 0, none⟩ 1 1 _ rfl rfl (World.news_of_block (heap_new' u1 _)) (fun u hu => by obtain rfl := List.mem_singleton.1 hu; rfl) (by decide) (by unfold maxLen; have := HLN.out; omega) (by have := HLN.out; omega) (by have := G1.out.size; have := HB.out.2.1; simp; omega) _ rfl ?_
                  intro g7 cap7 w7 hown hgrow hat hlt7
                  have hl := HL.out u1 _ g7 cap7 w7 G1.out HX.out.1 rfl HX.out.2 hown hgrow hat
                  have HLEAF := Lib.hid hl.2
                  have d3 := hl.1.cell
                  have d4 := hl.1.frozen
                  clear hown hgrow hat hlt7 hl d1 d2
                  refine hK6 _ _ ?_
                  refine wpAnyIn_ready (rs := [7]) (by kernel_rfl) (by simp) ?_
                  refine AllReadyIn.cons rfl (fun K7 hK7 => ?_) ?_
                  · go_simp
                    refine hK7 _ _ ?_
                    refine wpAnyIn_done (by kernel_rfl) ?_ _
                    exact HLEAF.out
                  exact AllReadyIn.nil
                exact AllReadyIn.nil
              exact AllReadyIn.nil
            exact AllReadyIn.nil
          refine AllReadyIn.cons rfl (fun K3 hK3 => ?_) ?_
          · go_simp
            refine ⟨trivial, (HC.out _ (Gr.drew _)).mono ?_⟩
            rintro e u1 ⟨x, rfl, hx, hg1', hf1⟩
            obtain ⟨Ax, cx, ex, -⟩ := id hx
            subst ex
            have G1 := Lib.hid (Gr.trans (Gr.drew W) hg1')
            have HX := Lib.hid (And.intro hx (fun b hb => Nat.le_trans (Gr.drew W).size (hf1 b hb)))
            clear hx hf1 hg1' e0 e1 e2 e3 e4 d1 d2
            obtain ⟨-, d1, d2⟩ := KP.out _ G1.out
            refine hK3 _ _ ?_
            refine wpAnyIn_ready (rs := [0, 5]) (by kernel_rfl) (by simp) ?_
            refine AllReadyIn.cons rfl (fun K4 hK4 => ?_) ?_
            · go_simp
              refine hK4 _ _ ?_
              refine wpAnyIn_ready (rs := [5]) (by kernel_rfl) (by simp) ?_
              refine AllReadyIn.cons rfl (fun K5 hK5 => ?_) ?_
              · go_simp
                refine hK5 _ _ ?_
                refine wpAnyIn_ready (rs := [6]) (by kernel_rfl) (by simp) ?_
                refine AllReadyIn.cons rfl (fun K6 hK6 => ?_) ?_
                · refine stepIn_append_lies rfl _ _ 28 rfl (w.heap.size + 1) 42 i0 _ 1 24 Try.underlying28 HI.out.1 HI.out.2.1 HI.out.2.2.1 HI.out.2.2.2 rfl (by decide) op ll.length us rfl (((HB.out.2.2.2.gr elt_int G1.out).1).alloc _) ⟨u1.heap.size, 0, none⟩ 1 1 _ rfl rfl (World.news_of_block (heap_new' u1 _)) (fun u hu => by obtain rfl := List.mem_singleton.1 hu; rfl) (by decide) (by unfold maxLen; have := HLN.out; omega) (by have := HLN.out; omega) (by have := G1.out.size; have := HB.out.2.1; simp; omega) _ rfl ?_
                  intro g7 cap7 w7 hown hgrow hat hlt7
                  have hl := HL.out u1 _ g7 cap7 w7 G1.out HX.out.1 rfl HX.out.2 hown hgrow hat
                  have HLEAF := Lib.hid hl.2
                  have d3 := hl.1.cell
                  have d4 := hl.1.frozen
                  clear hown hgrow hat hlt7 hl d1 d2
                  refine hK6 _ _ ?_
                  refine wpAnyIn_ready (rs := [7]) (by kernel_rfl) (by simp) ?_
                  refine AllReadyIn.cons rfl (fun K7 hK7 => ?_) ?_
                  · go_simp
                    refine hK7 _ _ ?_
                    refine wpAnyIn_done (by kernel_rfl) ?_ _
                    exact HLEAF.out
                  exact AllReadyIn.nil
                exact AllReadyIn.nil
              exact AllReadyIn.nil
            refine AllReadyIn.cons rfl (fun K4 hK4 => ?_) ?_
            · go_simp
              refine hK4 _ _ ?_
              refine wpAnyIn_ready (rs := [0]) (by kernel_rfl) (by simp) ?_
              refine AllReadyIn.cons rfl (fun K5 hK5 => ?_) ?_
              · have d5 := (KP.out _ (Gr.trans G1.out (bel_alloc u1 (.cells #[.slice Ax (ofN (stAt n t (k + 1))).length cx] 42)))).2.1
                go_simp
                clear d5
                refine hK5 _ _ ?_
                refine wpAnyIn_ready (rs := [6]) (by kernel_rfl) (by simp) ?_
                refine AllReadyIn.cons rfl (fun K6 hK6 => ?_) ?_
                · refine stepIn_append_lies rfl _ _ 28 rfl (w.heap.size + 1) 42 i0 _ 1 24 Try.underlying28 HI.out.1 HI.out.2.1 HI.out.2.2.1 HI.out.2.2.2 rfl (by decide) op ll.length us rfl (((HB.out.2.2.2.gr elt_int G1.out).1).alloc _) ⟨u1.heap.size, 0, none⟩ 1 1 _ rfl rfl (World.news_of_block (heap_new' u1 _)) (fun u hu => by obtain rfl := List.mem_singleton.1 hu; rfl) (by decide) (by unfold maxLen; have := HLN.out; omega) (by have := HLN.out; omega) (by have := G1.out.size; have := HB.out.2.1; simp; omega) _ rfl ?_
                  intro g7 cap7 w7 hown hgrow hat hlt7
                  have hl := HL.out u1 _ g7 cap7 w7 G1.out HX.out.1 rfl HX.out.2 hown hgrow hat
                  have HLEAF := Lib.hid hl.2
                  have d3 := hl.1.cell
                  have d4 := hl.1.frozen
                  clear hown hgrow hat hlt7 hl d1 d2
                  refine hK6 _ _ ?_
                  refine wpAnyIn_ready (rs := [7]) (by kernel_rfl) (by simp) ?_
                  refine AllReadyIn.cons rfl (fun K7 hK7 => ?_) ?_
                  · go_simp
                    refine hK7 _ _ ?_
                    refine wpAnyIn_done (by kernel_rfl) ?_ _
                    exact HLEAF.out
                  exact AllReadyIn.nil
                exact AllReadyIn.nil
              exact AllReadyIn.nil
            exact AllReadyIn.nil
          exact AllReadyIn.nil
        exact AllReadyIn.nil
      refine AllReadyIn.cons rfl (fun K1 hK1 => ?_) ?_
      · go_simp
        refine hK1 _ _ ?_
        refine wpAnyIn_ready (rs := [0, 1]) (by kernel_rfl) (by simp) ?_
        refine AllReadyIn.cons rfl (fun K2 hK2 => ?_) ?_
        · go_simp
          refine hK2 _ _ ?_
          refine wpAnyIn_ready (rs := [1]) (by kernel_rfl) (by simp) ?_
          refine AllReadyIn.cons rfl (fun K3 hK3 => ?_) ?_
          · go_simp
            refine hK3 _ _ ?_
            refine wpAnyIn_ready (rs := [4]) (by kernel_rfl) (by simp) ?_
            refine AllReadyIn.cons rfl (fun K4 hK4 => ?_) ?_
            · go_simp
              refine ⟨trivial, (HC.out _ (Gr.drew _)).mono ?_⟩
              rintro e u1 ⟨x, rfl, hx, hg1', hf1⟩
              obtain ⟨Ax, cx, ex, -⟩ := id hx
              subst ex
              have G1 := Lib.hid (Gr.trans (Gr.drew W) hg1')
              have HX := Lib.hid (And.intro hx (fun b hb => Nat.le_trans (Gr.drew W).size (hf1 b hb)))
              clear hx hf1 hg1' e0 e1 e2 e3 e4 d1 d2
              obtain ⟨-, d1, d2⟩ := KP.out _ G1.out
              refine hK4 _ _ ?_
              refine wpAnyIn_ready (rs := [5]) (by kernel_rfl) (by simp) ?_
              refine AllReadyIn.cons rfl (fun K5 hK5 => ?_) ?_
              · go_simp
                refine hK5 _ _ ?_
                refine wpAnyIn_ready (rs := [6]) (by kernel_rfl) (by simp) ?_
                refine AllReadyIn.cons rfl (fun K6 hK6 => ?_) ?_
                · refine stepIn_append_lies rfl _ _ 28 rfl (w.heap.size + 1) 42 i0 _ 1 24 Try.underlying28 HI.out.1 HI.out.2.1 HI.out.2.2.1 HI.out.2.2.2 rfl (by decide) op ll.length us rfl (((HB.out.2.2.2.gr elt_int G1.out).1).alloc _) ⟨u1.heap.size, 0, none⟩ 1 1 _ rfl rfl (World.news_of_block (heap_new' u1 _)) (fun u hu => by obtain rfl := List.mem_singleton.1 hu; rfl) (by decide) (by unfold maxLen; have := HLN.out; omega) (by have := HLN.out; omega) (by have := G1.out.size; have := HB.out.2.1; simp; omega) _ rfl ?_
                  intro g7 cap7 w7 hown hgrow hat hlt7
                  have hl := HL.out u1 _ g7 cap7 w7 G1.out HX.out.1 rfl HX.out.2 hown hgrow hat
                  have HLEAF := Lib.hid hl.2
                  have d3 := hl.1.cell
                  have d4 := hl.1.frozen
                  clear hown hgrow hat hlt7 hl d1 d2
                  refine hK6 _ _ ?_
                  refine wpAnyIn_ready (rs := [7]) (by kernel_rfl) (by simp) ?_
                  refine AllReadyIn.cons rfl (fun K7 hK7 => ?_) ?_
                  · go_simp
                    refine hK7 _ _ ?_
                    refine wpAnyIn_done (by kernel_rfl) ?_ _
                    exact HLEAF.out
                  exact AllReadyIn.nil
                exact AllReadyIn.nil
              exact AllReadyIn.nil
            exact AllReadyIn.nil
          exact AllReadyIn.nil
        refine AllReadyIn.cons rfl (fun K2 hK2 => ?_) ?_
        · go_simp
          refine hK2 _ _ ?_
          refine wpAnyIn_ready (rs := [0, 4]) (by kernel_rfl) (by simp) ?_
          refine AllReadyIn.cons rfl (fun K3 hK3 => ?_) ?_
          · go_simp
            refine hK3 _ _ ?_
            refine wpAnyIn_ready (rs := [4]) (by kernel_rfl) (by simp) ?_
            refine AllReadyIn.cons rfl (fun K4 hK4 => ?_) ?_
            · go_simp
              refine ⟨trivial, (HC.out _ (Gr.drew _)).mono ?_⟩
              rintro e u1 ⟨x, rfl, hx, hg1', hf1⟩
              obtain ⟨Ax, cx, ex, -⟩ := id hx
              subst ex
              have G1 := Lib.hid (Gr.trans (Gr.drew W) hg1')
              have HX := Lib.hid (And.intro hx (fun b hb => Nat.le_trans (Gr.drew W).size (hf1 b hb)))
              clear hx hf1 hg1' e0 e1 e2 e3 e4 d1 d2
              obtain ⟨-, d1, d2⟩ := KP.out _ G1.out
              refine hK4 _ _ ?_
              refine wpAnyIn_ready (rs := [5]) (by kernel_rfl) (by simp) ?_
              refine AllReadyIn.cons rfl (fun K5 hK5 => ?_) ?_
              · go_simp
                refine hK5 _ _ ?_
                refine wpAnyIn_ready (rs := [6]) (by kernel_rfl) (by simp) ?_
                refine AllReadyIn.cons rfl (fun K6 hK6 => ?_) ?_
                · refine stepIn_append_lies rfl _ _ 28 rfl (w.heap.size + 1) 42 i0 _ 1 24 Try.underlying28 HI.out.1 HI.out.2.1 HI.out.2.2.1 HI.out.2.2.2 rfl (by decide) op ll.length us rfl (((HB.out.2.2.2.gr elt_int G1.out).1).alloc _) ⟨u1.heap.size, 0, none⟩ 1 1 _ rfl rfl (World.news_of_block (heap_new' u1 _)) (fun u hu => by obtain rfl := List.mem_singleton.1 hu; rfl) (by decide) (by unfold maxLen; have := HLN.out; omega) (by have := HLN.out; omega) (by have := G1.out.size; have := HB.out.2.1; simp; omega) _ rfl ?_
                  intro g7 cap7 w7 hown hgrow hat hlt7
                  have hl := HL.out u1 _ g7 cap7 w7 G1.out HX.out.1 rfl HX.out.2 hown hgrow hat
                  have HLEAF := Lib.hid hl.2
                  have d3 := hl.1.cell
                  have d4 := hl.1.frozen
                  clear hown hgrow hat hlt7 hl d1 d2
                  refine hK6 _ _ ?_
                  refine wpAnyIn_ready (rs := [7]) (by kernel_rfl) (by simp) ?_
                  refine AllReadyIn.cons rfl (fun K7 hK7 => ?_) ?_
                  · go_simp
                    refine hK7 _ _ ?_
                    refine wpAnyIn_done (by kernel_rfl) ?_ _
                    exact HLEAF.out
                  exact AllReadyIn.nil
                exact AllReadyIn.nil
              exact AllReadyIn.nil
            exact AllReadyIn.nil
          refine AllReadyIn.cons rfl (fun K3 hK3 => ?_) ?_
          · go_simp
            refine ⟨trivial, (HC.out _ (Gr.drew _)).mono ?_⟩
            rintro e u1 ⟨x, rfl, hx, hg1', hf1⟩
            obtain ⟨Ax, cx, ex, -⟩ := id hx
            subst ex
            have G1 := Lib.hid (Gr.trans (Gr.drew W) hg1')
            have HX := Lib.hid (And.intro hx (fun b hb => Nat.le_trans (Gr.drew W).size (hf1 b hb)))
            clear hx hf1 hg1' e0 e1 e2 e3 e4 d1 d2
            obtain ⟨-, d1, d2⟩ := KP.out _ G1.out
            refine hK3 _ _ ?_
            refine wpAnyIn_ready (rs := [0, 5]) (by kernel_rfl) (by simp) ?_
            refine AllReadyIn.cons rfl (fun K4 hK4 => ?_) ?_
            · go_simp
              refine hK4 _ _ ?_
              refine wpAnyIn_ready (rs := [5]) (by kernel_rfl) (by simp) ?_
              refine AllReadyIn.cons rfl (fun K5 hK5 => ?_) ?_
              · go_simp
                refine hK5 _ _ ?_
                refine wpAnyIn_ready (rs := [6]) (by kernel_rfl) (by simp) ?_
                refine AllReadyIn.cons rfl (fun K6 hK6 => ?_) ?_
                · refine stepIn_append_lies rfl _ _ 28 rfl (w.heap.size + 1) 42 i0 _ 1 24 Try.underlying28 HI.out.1 HI.out.2.1 HI.out.2.2.1 HI.out.2.2.2 rfl (by decide) op ll.length us rfl (((HB.out.2.2.2.gr elt_int G1.out).1).alloc _) ⟨u1.heap.size, 0, none⟩ 1 1 _ rfl rfl (World.news_of_block (heap_new' u1 _)) (fun u hu => by obtain rfl := List.mem_singleton.1 hu; rfl) (by decide) (by unfold maxLen; have := HLN.out; omega) (by have := HLN.out; omega) (by have := G1.out.size; have := HB.out.2.1; simp; omega) _ rfl ?_
                  intro g7 cap7 w7 hown hgrow hat hlt7
                  have hl := HL.out u1 _ g7 cap7 w7 G1.out HX.out.1 rfl HX.out.2 hown hgrow hat
                  have HLEAF := Lib.hid hl.2
                  have d3 := hl.1.cell
                  have d4 := hl.1.frozen
                  clear hown hgrow hat hlt7 hl d1 d2
                  refine hK6 _ _ ?_
                  refine wpAnyIn_ready (rs := [7]) (by kernel_rfl) (by simp) ?_
                  refine AllReadyIn.cons rfl (fun K7 hK7 => ?_) ?_
                  · go_simp
                    refine hK7 _ _ ?_
                    refine wpAnyIn_done (by kernel_rfl) ?_ _
                    exact HLEAF.out
                  exact AllReadyIn.nil
                exact AllReadyIn.nil
              exact AllReadyIn.nil
            refine AllReadyIn.cons rfl (fun K4 hK4 => ?_) ?_
            · go_simp
              refine hK4 _ _ ?_
              refine wpAnyIn_ready (rs := [0]) (by kernel_rfl) (by simp) ?_
              refine AllReadyIn.cons rfl (fun K5 hK5 => ?_) ?_
              · have d5 := (KP.out _ (Gr.trans G1.out (bel_alloc u1 (.cells #[.slice Ax (ofN (stAt n t (k + 1))).length cx] 42)))).2.1
                go_simp
                clear d5
                refine hK5 _ _ ?_
                refine wpAnyIn_ready (rs := [6]) (by kernel_rfl) (by simp) ?_
                refine AllReadyIn.cons rfl (fun K6 hK6 => ?_) ?_
                · refine stepIn_append_lies rfl _ _ 28 rfl (w.heap.size + 1) 42 i0 _ 1 24 Try.underlying28 HI.out.1 HI.out.2.1 HI.out.2.2.1 HI.out.2.2.2 rfl (by decide) op ll.length us rfl (((HB.out.2.2.2.gr elt_int G1.out).1).alloc _) ⟨u1.heap.size, 0, none⟩ 1 1 _ rfl rfl (World.news_of_block (heap_new' u1 _)) (fun u hu => by obtain rfl := List.mem_singleton.1 hu; rfl) (by decide) (by unfold maxLen; have := HLN.out; omega) (by have := HLN.out; omega) (by have := G1.out.size; have := HB.out.2.1; simp; omega) _ rfl ?_
                  intro g7 cap7 w7 hown hgrow hat hlt7
                  have hl := HL.out u1 _ g7 cap7 w7 G1.out HX.out.1 rfl HX.out.2 hown hgrow hat
                  have HLEAF := Lib.hid hl.2
                  have d3 := hl.1.cell
                  have d4 := hl.1.frozen
                  clear hown hgrow hat hlt7 hl d1 d2
                  refine hK6 _ _ ?_
                  refine wpAnyIn_ready (rs := [7]) (by kernel_rfl) (by simp) ?_
                  refine AllReadyIn.cons rfl (fun K7 hK7 => ?_) ?_
                  · go_simp
                    refine hK7 _ _ ?_
                    refine wpAnyIn_done (by kernel_rfl) ?_ _
                    exact HLEAF.out
                  exact AllReadyIn.nil
                exact AllReadyIn.nil
              exact AllReadyIn.nil
            exact AllReadyIn.nil
          exact AllReadyIn.nil
        exact AllReadyIn.nil
      exact AllReadyIn.nil
    exact AllReadyIn.nil
end Go.Proofs.Ytmnblcnhbafcpaa
