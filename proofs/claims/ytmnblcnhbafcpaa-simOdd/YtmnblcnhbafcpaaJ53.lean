/-
  sim's Run, WALKED.
-/
import Derived.Test.YtmnblcnhbafcpaaJ52
import Derived.Maps.OwnIn
namespace Go.Proofs.Ytmnblcnhbafcpaa
open Go.RowKit Go.Shelf
open NetM
open VecM
attribute [local go_sem] Oper.semAt_some

/-- between two rounds of Run -/
def RunI (w : World) (n : Nt) (t : List (List Nat)) (A1 A2 A3 A4 A5 At : Option Addr) (c1 c2 c3 c4 c5 ct : Nat) (k : Nat) (W : World) : Prop :=
  CycAt w (w.heap.size + 2) (w.heap.size + 3) n A1 A2 A3 A4 A5 At c1 c2 c3 c4 c5 t.length ct W ∧ BxAt W w.heap.size n A1 A2 A3 A4 A5 c1 c2 c3 c4 c5 ∧ w.heap.size + 4 ≤ W.heap.size ∧
  ∃ o us, Boxed W (w.heap.size + 1) 39 o ∧ RoV BoolR (w.heap.size + 4) 44 (fun b => b < w.heap.size + 4) o us (runL n t k) W
theorem bx_own {W U : World} {g : Nat} {n : Nt} {A1 A2 A3 A4 A5 : Option Addr} {c1 c2 c3 c4 c5 : Nat} (h : BxAt W g n A1 A2 A3 A4 A5 c1 c2 c3 c4 c5) (hk : U.heap[g]? = W.heap[g]?) : BxAt U g n A1 A2 A3 A4 A5 c1 c2 c3 c4 c5 := by
  obtain ⟨e0, e1, e2, e3, e4⟩ := h
  have k : ∀ o, U.cell? ⟨g, o, none⟩ = W.cell? ⟨g, o, none⟩ := fun o => World.cell?_of_block (a := ⟨g, o, none⟩) hk
  exact ⟨by rw [k]; exact e0, by rw [k]; exact e1, by rw [k]; exact e2, by rw [k]; exact e3, by rw [k]; exact e4⟩
theorem RunI.own (w : World) (n : Nt) (t : List (List Nat)) (A1 A2 A3 A4 A5 At : Option Addr) (c1 c2 c3 c4 c5 ct B : Nat) (hB : w.heap.size + 4 ≤ B) : OwnFrom B (RunI w n t A1 A2 A3 A4 A5 At c1 c2 c3 c4 c5 ct) := by
  rintro k W U row ⟨h1, h2, h3, o, us, h4, h5⟩ hg hr
  have hne : ∀ b, b < w.heap.size + 4 → some b ≠ row := fun b hb e => by have := (hr b e.symm).1; omega
  refine ⟨h1.own hg (fun r e => by have := (hr r e).1; omega) (by omega) (by omega), bx_own h2 (hg.block _ (by omega) (hne _ (by omega))), Nat.le_trans h3 hg.size, o, us, h4.kept hg (hne _ (by omega)), h5.own elt_bool hg (fun r e => (hr r e).2)⟩

set_option maxRecDepth 100000 in
set_option maxHeartbeats 8000000 in
theorem SRun_any (n : Nt) (v tv : Value) (t : List (List Nat)) (w : World) (hs : Sz n) (hn : Hid (NtAt w n v)) (hR : NRight n) (ht : TrOk n t) (htl : t.length ≤ 64) (htv : Hid (RwsR w tv (t.map ofN))) :
    Calls Try.prog 22 #[v, tv] w fun e w' => ∃ v', e = .returned v' ∧ BwsR w' v' (runL n t t.length) ∧ Gr w w' := by
  have hn' := hn
  have HLD := Lib.hid (fun (k : Nat) (r : List Nat) (hk : t[k]? = some r) (sv rv : Value) (u : World) (hu : Gr w u) (hsv : IntR u sv (ofN (stAt n t k))) (hrv : IntR u rv (ofN r)) => by
    have hkl := (List.getElem?_eq_some_iff.1 hk).1
    obtain ⟨hrl, hrk⟩ := ht r (List.mem_of_getElem? hk)
    have hok := ok_at hR ht k (by omega)
    have hz := hs
    unfold Sz at hz
    have hH := holds_any n v sv rv (evAll n (stAt n t k) r) u hs (Lib.hid (hn.out.gr hu)) (evL_len _ _ _ _ (Nat.le_refl _)) (props_in hR)
      (Lib.hid fun u2 hu2 => Eval_any n v sv rv (stAt n t k) r u2 hs (Lib.hid (hn.out.gr (Gr.trans hu hu2))) hR.1 (by rw [stAt_len]; omega) (by omega) (Lib.hid (hsv.gr hu2)) (Lib.hid (hrv.gr hu2)) (Lib.hid (evL_lim hR hok hrk)))
    rw [← bitsAt_row hk] at hH
    exact hH)
  obtain ⟨A1, A2, A3, A4, A5, c1, c2, c3, c4, c5, rfl, hc1, h1, h2, h3, h4, h5⟩ := hn.out
  clear h1 h2 h3 h4 h5 hc1
  obtain ⟨At, ct, rfl, hct, hrt⟩ := htv.out
  rw [List.length_map] at hct htv ⊢
  have HT := Lib.hid hrt
  clear hrt hct htv
  obtain ⟨i0, hi, hz0, hz1, hz2⟩ := info_parts info44
  have HI := Lib.hid (And.intro hi (And.intro hz0 (And.intro hz1 hz2)))
  clear hi hz0 hz1 hz2
  refine (callsIn_wide (n := 6)).1 ?_
  refine callsIn_of_wp_marks Try.func22 rfl trivial ?_ rfl
  simp only [Try.ntmps22, List.size_toArray, List.length_cons, List.length_nil, Nat.reduceAdd, Nat.reduceSub, Array.replicate_succ, Array.replicate_zero, List.push_toArray, List.append_toArray, List.nil_append, List.cons_append]
  gi_wp2_with (refine ⟨trivial, (callsIn_wide.2 (cycles_any n A1 A2 A3 A4 A5 At c1 c2 c3 c4 c5 t.length ct _)).mono ?_⟩; rintro e w2 ⟨rfl, rfl⟩)
  obtain ⟨W0, eW, GW, C0, C1, C2, C3, HZ⟩ : ∃ W0, (((w.alloc (.cells (bxC n A1 A2 A3 A4 A5 c1 c2 c3 c4 c5) 27)).alloc (.cells #[.slice none 0 0] 39)).alloc (.cells (bxC n A1 A2 A3 A4 A5 c1 c2 c3 c4 c5) 27)).alloc (.cells #[.slice At t.length ct] 28) = W0 ∧ Hid (Gr w W0) ∧ Hid (BxAt W0 w.heap.size n A1 A2 A3 A4 A5 c1 c2 c3 c4 c5) ∧ Hid (Boxed W0 (w.heap.size + 1) 39 (.slice none 0 0)) ∧ Hid (BxAt W0 (w.heap.size + 2) n A1 A2 A3 A4 A5 c1 c2 c3 c4 c5) ∧ Hid (W0.cell? ⟨w.heap.size + 3, 0, none⟩ = some (.slice At t.length ct)) ∧ Hid (W0.heap.size = w.heap.size + 4) := by
    have g1 : Gr w (w.alloc (.cells (bxC n A1 A2 A3 A4 A5 c1 c2 c3 c4 c5) 27)) := bel_alloc _ _
    have b1 := bx_new w n A1 A2 A3 A4 A5 c1 c2 c3 c4 c5
    have z1 : (w.alloc (.cells (bxC n A1 A2 A3 A4 A5 c1 c2 c3 c4 c5) 27)).heap.size = w.heap.size + 1 := by simp
    generalize w.alloc (.cells (bxC n A1 A2 A3 A4 A5 c1 c2 c3 c4 c5) 27) = X1 at g1 b1 z1 ⊢
    have g2 : Gr X1 (X1.alloc (.cells #[.slice none 0 0] 39)) := bel_alloc _ _
    have b2 := Boxed.new X1 39 (.slice none 0 0)
    have z2 : (X1.alloc (.cells #[.slice none 0 0] 39)).heap.size = w.heap.size + 2 := by simp [z1]
    generalize X1.alloc (.cells #[.slice none 0 0] 39) = X2 at g2 b2 z2 ⊢
    have g3 : Gr X2 (X2.alloc (.cells (bxC n A1 A2 A3 A4 A5 c1 c2 c3 c4 c5) 27)) := bel_alloc _ _
    have b3 := bx_new X2 n A1 A2 A3 A4 A5 c1 c2 c3 c4 c5
    have z3 : (X2.alloc (.cells (bxC n A1 A2 A3 A4 A5 c1 c2 c3 c4 c5) 27)).heap.size = w.heap.size + 3 := by simp [z2]
    generalize X2.alloc (.cells (bxC n A1 A2 A3 A4 A5 c1 c2 c3 c4 c5) 27) = X3 at g3 b3 z3 ⊢
    have b4 := Boxed.new X3 28 (.slice At t.length ct)
    have g4 : Gr X3 (X3.alloc (.cells #[.slice At t.length ct] 28)) := bel_alloc _ _
    rw [z1] at b2
    rw [z2] at b3
    rw [z3] at b4
    exact ⟨_, rfl, Lib.hid (Gr.trans g1 (Gr.trans g2 (Gr.trans g3 g4))), Lib.hid (bx_gr b1 (by omega) (Gr.trans g2 (Gr.trans g3 g4))), Lib.hid ((((Gr.trans g3 g4).block _ b2.lt).trans b2)), Lib.hid (bx_gr b3 (by omega) g4), Lib.hid b4.cell, Lib.hid (by simp [z3])⟩
  rw [eW]
  clear eW
  simp only [Nat.add_assoc, Nat.reduceAdd]
  refine cyc_range 6 (by omega) n t A1 A2 A3 A4 A5 At c1 c2 c3 c4 c5 ct (w.heap.size + 2) (w.heap.size + 3) w hs hR ht htl hn' HT rfl rfl
    (RunI w n t A1 A2 A3 A4 A5 At c1 c2 c3 c4 c5 ct) (fun _ _ _ => False) (RunI.own _ _ _ _ _ _ _ _ _ _ _ _ _ _ _ _ (by rw [HZ.out]; exact Nat.le_refl _)) (fun _ _ _ _ _ h => h.elim) (fun k U h => h.1)
    ⟨⟨GW.out, C2.out, C3.out⟩, C0.out, by rw [HZ.out]; exact Nat.le_refl _, _, [], C1.out, rov_nil _ _ _ _ _⟩
    (fun sv rv => { tmps := #[ntV A1 A2 A3 A4 A5 n.nodes.length n.ins.length n.cells.length n.props.length n.names.length c1 c2 c3 c4 c5, .slice At t.length ct, .pointer (some ⟨w.heap.size, 0, none⟩), undef, .slice none 0 0, .pointer (some ⟨w.heap.size + 1, 0, none⟩), sv, rv, ntV A1 A2 A3 A4 A5 n.nodes.length n.ins.length n.cells.length n.props.length n.names.length c1 c2 c3 c4 c5, .slice At t.length ct, .func (.func 50) #[] #[.pointer (some ⟨w.heap.size + 2, 0, none⟩), .pointer (some ⟨w.heap.size + 3, 0, none⟩)], sv, rv, undef, undef, undef, undef, undef, undef, undef, undef], defers := [] }) ?assign ?body ?done ?stop
  case assign =>
    intro l sv rv W K hK
    gi_wp2
    exact hK
  case stop => exact fun _ _ _ _ _ _ h => h.elim
  case done =>
    rintro D W hD hI hK
    have HO := RunI.own w n t A1 A2 A3 A4 A5 At c1 c2 c3 c4 c5 ct W0.heap.size (by rw [HZ.out]; exact Nat.le_refl _)
    have HF := Lib.hid (HO.putObj (.deferred none) hI hD hK rfl)
    obtain ⟨-, -, -, o, us, h4, -⟩ := hI
    have d1 := h4.cell
    have HB := Lib.hid h4
    clear h4 HO
    gi_wp2
    refine ⟨by simp, .inl ⟨_, _, rfl, run_takeDeferred hK, ?_⟩⟩
    obtain ⟨f1, -, -, o2, us2, f4, f5⟩ := HF.out
    have f6 := f4.cell
    have f7 := cell_kept HB.out.cell (grownBy_putObj' W D (.deferred none)) (fun r e => by cases e; exact ⟨_, hK, rfl⟩)
    obtain rfl : o = o2 := Option.some.inj (f7.symm.trans f6)
    exact ⟨o, by simp [results, Try.f22, go_sem], _, rfl, rov_bws f5, f1.1⟩
  case body =>
    rintro l k r sv rv Wp W hk hl hIp hIw hKc hfr hsv hrv
    have hkl := (List.getElem?_eq_some_iff.1 hk).1
    obtain ⟨ll, hll⟩ : ∃ ll, runL n t k = ll := ⟨_, rfl⟩
    have hlen : ll.length = k := by rw [← hll, runL_len]
    obtain ⟨-, -, p3, op, usp, p4, p5⟩ := hIp
    obtain ⟨h1, h2, h3, o, us, h4, h5⟩ := hIw
    obtain rfl : op = o := Option.some.inj ((hKc.2 _ _ _ p4.cell).symm.trans h4.cell)
    have hlo := p5.1.lt
    have HSEP := Lib.hid (show ∀ b, sv.ownBlock = some b → b ≠ w.heap.size + 1 ∧ some b ≠ op.ownBlock from fun b hb => ⟨by have := hfr b hb; omega, fun e2 => by have := (hlo b e2.symm).2; have := hfr b hb; omega⟩)
    clear hlo p3 p4 p5 usp hfr hKc
    have hst : runL n t (k + 1) = ll ++ [bitsAt n t k] := by rw [runL_succ, hll]
    rw [hll] at h5
    have h1g := h1.1
    have d1 := h4.cell
    have d2 := h4.frozen
    obtain ⟨e0, e1, e2, e3, e4⟩ := h2
    have HB := Lib.hid (And.intro h1 (And.intro h3 (And.intro h4 h5)))
    have HLN := Lib.hid (show ll.length < 64 by omega)
    have KP := Lib.hid (show ∀ u, Gr W u → BxAt u w.heap.size n A1 A2 A3 A4 A5 c1 c2 c3 c4 c5 ∧ u.cell? ⟨w.heap.size + 1, 0, none⟩ = some op ∧ u.frozen? ⟨w.heap.size + 1, 0, none⟩ = false from fun u hu => by
      have hbx : Boxed u (w.heap.size + 1) 39 op := (hu.block _ h4.lt).trans h4
      exact ⟨bx_gr ⟨e0, e1, e2, e3, e4⟩ (by omega) hu, hbx.cell, hbx.frozen⟩)
    have HL := Lib.hid (show ∀ (u1 : World) (x : Value) (g cap : Nat) (w7 : World), Gr W u1 → BoolR u1 x (bitsAt n t k) → x.oneCell' = true → (∀ b, x.ownBlock = some b → W.heap.size ≤ b) → w7.ownsRow (w.heap.size + 4) 44 1 (.slice (some ⟨g, 0, none⟩) (ll.length + 1) cap) (ll.length + 1) (us ++ [x]) → (u1.alloc (.cells #[x] 44)).grownBy w7 op.ownBlock → (op.ownBlock = some g ∨ g = (u1.alloc (.cells #[x] 44)).heap.size) →
        Boxed w7 (w.heap.size + 1) 39 op ∧ KeepsFrom W0.heap.size W (w7.setCell ⟨w.heap.size + 1, 0, none⟩ (.slice (some ⟨g, 0, none⟩) (ll.length + 1) cap)) ∧ IntR (w7.setCell ⟨w.heap.size + 1, 0, none⟩ (.slice (some ⟨g, 0, none⟩) (ll.length + 1) cap)) sv (ofN (stAt n t k)) ∧ RunI w n t A1 A2 A3 A4 A5 At c1 c2 c3 c4 c5 ct (k + 1) (w7.setCell ⟨w.heap.size + 1, 0, none⟩ (.slice (some ⟨g, 0, none⟩) (ll.length + 1) cap)) from fun u1 x g cap w7 hg hx h1x hfx hown hgrow hor => by
      obtain ⟨r0, r1, r2, r3, r4, r5⟩ := row_round elt_bool h5 h4 (by show w.heap.size + 1 < w.heap.size + 4; omega) (fun b hb => by have hb2 : b < w.heap.size + 4 := hb; omega) hg hx h1x hfx hown hgrow hor
      have hwlt : ∀ b, b < w.heap.size + 4 → some b ≠ op.ownBlock := fun b hb e2 => h5.2.2.1 b e2.symm hb
      refine ⟨r0, r3.from _, intr_grown (intr_grown (intr_grown hsv (grew (Gr.trans hg (bel_alloc u1 (.cells #[x] 44)))) (fun _ b _ e2 => by cases e2)) hgrow (fun _ b hb => (HSEP.out b hb).2)) (grownBy_setCell' w7 _ _) (fun _ b hb e2 => (HSEP.out b hb).1 (by cases e2; rfl)), ⟨Below.trans h1.1 (r5 w.heap.size (by omega) (by omega)), ?_, ?_⟩, ?_, ?_, ?_⟩
      · exact bx_own h1.2.1 (r4 (w.heap.size + 2) (by omega) (by omega) (hwlt _ (by omega)))
      · rw [World.cell?_of_block (a := ⟨w.heap.size + 3, 0, none⟩) (r4 (w.heap.size + 3) (by omega) (by omega) (hwlt _ (by omega)))]
        exact h1.2.2
      · exact bx_own ⟨e0, e1, e2, e3, e4⟩ (r4 w.heap.size (by omega) (by omega) (hwlt _ (by omega)))
      · exact Nat.le_trans h3 r3.size
      · exact ⟨_, _, r2, by rw [hst]; exact r1⟩)
    have HC := Lib.hid (show ∀ u, Gr W u → CallsIn Fence.wide 3 Try.prog 35 #[ntV A1 A2 A3 A4 A5 n.nodes.length n.ins.length n.cells.length n.props.length n.names.length c1 c2 c3 c4 c5, sv, rv] u (BitRet u (bitsAt n t k)) from fun u hu => callsIn_wide.2 (HLD.out k r hk sv rv u (Gr.trans h1g hu) (hsv.gr hu) (hrv.gr hu)))
    clear h1 h3 h4 h5 hsv hrv hst hlen hll HLD h1g
    obtain ⟨⟨e0, e1, e2, e3, e4⟩, d1, d2⟩ := KP.out _ (Gr.drew W)
    gi_upto_region 5 with fail
    refine wpIn_region_any (by kernel_rfl) ?_
    rw [show ({ W with drawn := W.drawn + 1 } : World) = W.drew from rfl]
    refine wpAnyIn_ready (rs := [0, 1, 2, 3]) (by kernel_rfl) (by simp) ?_
    refine AllReadyIn.cons rfl (fun K0 hK0 => ?_) ?_
    · go_simp
      refine hK0 _ _ ?_
      refine wpAnyIn_ready (rs := [1, 2, 3]) (by kernel_rfl) (by simp) ?_
      refine AllReadyIn.cons rfl (fun K1 hK1 => ?_) ?_
      · go_simp
        refine hK1 _ _ ?_
        refine wpAnyIn_ready (rs := [2, 3]) (by kernel_rfl) (by simp) ?_
        refine AllReadyIn.cons rfl (fun K2 hK2 => ?_) ?_
        · go_simp
          refine hK2 _ _ ?_
          refine wpAnyIn_ready (rs := [3]) (by kernel_rfl) (by simp) ?_
          refine AllReadyIn.cons rfl (fun K3 hK3 => ?_) ?_
          · go_simp
            refine hK3 _ _ ?_
            refine wpAnyIn_ready (rs := [4]) (by kernel_rfl) (by simp) ?_
            refine AllReadyIn.cons rfl (fun K4 hK4 => ?_) ?_
            · go_simp
              refine ⟨trivial, (HC.out _ (Gr.drew _)).mono ?_⟩
              rintro e u1 ⟨x, rfl, hx, hg1', hf1⟩
              obtain ⟨Ax, cx, ex, -⟩ := id hx
              subst ex
              have G1 := Lib.hid (Gr.trans (Gr.drew W) hg1')
              have HX := Lib.hid (And.intro hx (fun b hb => Nat.le_trans (Gr.drew W).size (hf1 b hb)))
              clear hx hf1 hg1' e0 e1 e2 e3 e4 d1 d2
              obtain ⟨-, d1, d2⟩ := KP.out _ G1.out
              refine hK4 _ _ ?_
              refine wpAnyIn_ready (rs := [5]) (by kernel_rfl) (by simp) ?_
              refine AllReadyIn.cons rfl (fun K5 hK5 => ?_) ?_
              · go_simp
                refine hK5 _ _ ?_
                refine wpAnyIn_ready (rs := [6]) (by kernel_rfl) (by simp) ?_
                refine AllReadyIn.cons rfl (fun K6 hK6 => ?_) ?_
                · refine stepIn_append_lies rfl _ _ 39 rfl (w.heap.size + 4) 44 i0 _ 1 24 Try.underlying39 HI.out.1 HI.out.2.1 HI.out.2.2.1 HI.out.2.2.2 rfl (by decide) op ll.length us rfl (((HB.out.2.2.2.gr elt_bool G1.out).1).alloc _) ⟨u1.heap.size, 0, none⟩ 1 1 _ rfl rfl (World.news_of_block (heap_new' u1 _)) (fun u hu => by obtain rfl := List.mem_singleton.1 hu; rfl) (by decide) (by unfold maxLen; have := HLN.out; omega) (by have := HLN.out; omega) (by have := G1.out.size; have := HB.out.2.1; simp; omega) _ rfl ?_
                  intro g7 cap7 w7 hown hgrow hat hlt7
                  have hl := HL.out u1 _ g7 cap7 w7 G1.out HX.out.1 rfl HX.out.2 hown hgrow hat
                  have HLEAF := Lib.hid hl.2
                  have d3 := hl.1.cell
                  have d4 := hl.1.frozen
                  clear hown hgrow hat hlt7 hl d1 d2
                  refine hK6 _ _ ?_
                  refine wpAnyIn_ready (rs := [7]) (by kernel_rfl) (by simp) ?_
                  refine AllReadyIn.cons rfl (fun K7 hK7 => ?_) ?_
                  · go_simp
                    refine hK7 _ _ ?_
                    refine wpAnyIn_done (by kernel_rfl) ?_ _
                    exact HLEAF.out
                  exact AllReadyIn.nil
                exact AllReadyIn.nil
              exact AllReadyIn.nil
            exact AllReadyIn.nil
          exact AllReadyIn.nil
        refine AllReadyIn.cons rfl (fun K2 hK2 => ?_) ?_
        · go_simp
          refine hK2 _ _ ?_
          refine wpAnyIn_ready (rs := [2]) (by kernel_rfl) (by simp) ?_
          refine AllReadyIn.cons rfl (fun K3 hK3 => ?_) ?_
          · go_simp
            refine hK3 _ _ ?_
            refine wpAnyIn_ready (rs := [4]) (by kernel_rfl) (by simp) ?_
            refine AllReadyIn.cons rfl (fun K4 hK4 => ?_) ?_
            · go_simp
              refine ⟨trivial, (HC.out _ (Gr.drew _)).mono ?_⟩
              rintro e u1 ⟨x, rfl, hx, hg1', hf1⟩
              obtain ⟨Ax, cx, ex, -⟩ := id hx
              subst ex
              have G1 := Lib.hid (Gr.trans (Gr.drew W) hg1')
              have HX := Lib.hid (And.intro hx (fun b hb => Nat.le_trans (Gr.drew W).size (hf1 b hb)))
              clear hx hf1 hg1' e0 e1 e2 e3 e4 d1 d2
              obtain ⟨-, d1, d2⟩ := KP.out _ G1.out
              refine hK4 _ _ ?_
              refine wpAnyIn_ready (rs := [5]) (by kernel_rfl) (by simp) ?_
              refine AllReadyIn.cons rfl (fun K5 hK5 => ?_) ?_
              · go_simp
                refine hK5 _ _ ?_
                refine wpAnyIn_ready (rs := [6]) (by kernel_rfl) (by simp) ?_
                refine AllReadyIn.cons rfl (fun K6 hK6 => ?_) ?_
                · refine stepIn_append_lies rfl _ _ 39 rfl (w.heap.size + 4) 44 i0 _ 1 24 Try.underlying39 HI.out.1 HI.out.2.1 HI.out.2.2.1 HI.out.2.2.2 rfl (by decide) op ll.length us rfl (((HB.out.2.2.2.gr elt_bool G1.out).1).alloc _) ⟨u1.heap.size, 0, none⟩ 1 1 _ rfl rfl (World.news_of_block (heap_new' u1 _)) (fun u hu => by obtain rfl := List.mem_singleton.1 hu; rfl) (by decide) (by unfold maxLen; have := HLN.out; omega) (by have := HLN.out; omega) (by have := G1.out.size; have := HB.out.2.1; simp; omega) _ rfl ?_
                  intro g7 cap7 w7 hown hgrow hat hlt7
                  have hl := HL.out u1 _ g7 cap7 w7 G1.out HX.out.1 rfl HX.out.2 hown hgrow hat
                  have HLEAF := Lib.hid hl.2
                  have d3 := hl.1.cell
                  have d4 := hl.1.frozen
                  clear hown hgrow hat hlt7 hl d1 d2
                  refine hK6 _ _ ?_
                  refine wpAnyIn_ready (rs := [7]) (by kernel_rfl) (by simp) ?_
                  refine AllReadyIn.cons rfl (fun K7 hK7 => ?_) ?_
                  · go_simp
                    refine hK7 _ _ ?_
                    refine wpAnyIn_done (by kernel_rfl) ?_ _
                    exact HLEAF.out
                  exact AllReadyIn.nil
                exact AllReadyIn.nil
              exact AllReadyIn.nil
            exact AllReadyIn.nil
          exact AllReadyIn.nil
        exact AllReadyIn.nil
      refine AllReadyIn.cons rfl (fun K1 hK1 => ?_) ?_
      · go_simp
        refine hK1 _ _ ?_
        refine wpAnyIn_ready (rs := [1, 3]) (by kernel_rfl) (by simp) ?_
        refine AllReadyIn.cons rfl (fun K2 hK2 => ?_) ?_
        · go_simp
          refine hK2 _ _ ?_
          refine wpAnyIn_ready (rs := [3]) (by kernel_rfl) (by simp) ?_
          refine AllReadyIn.cons rfl (fun K3 hK3 => ?_) ?_
          · go_simp
            refine hK3 _ _ ?_
            refine wpAnyIn_ready (rs := [4]) (by kernel_rfl) (by simp) ?_
            refine AllReadyIn.cons rfl (fun K4 hK4 => ?_) ?_
            · go_simp
              refine ⟨trivial, (HC.out _ (Gr.drew _)).mono ?_⟩
              rintro e u1 ⟨x, rfl, hx, hg1', hf1⟩
              obtain ⟨Ax, cx, ex, -⟩ := id hx
              subst ex
              have G1 := Lib.hid (Gr.trans (Gr.drew W) hg1')
              have HX := Lib.hid (And.intro hx (fun b hb => Nat.le_trans (Gr.drew W).size (hf1 b hb)))
              clear hx hf1 hg1' e0 e1 e2 e3 e4 d1 d2
              obtain ⟨-, d1, d2⟩ := KP.out _ G1.out
              refine hK4 _ _ ?_
              refine wpAnyIn_ready (rs := [5]) (by kernel_rfl) (by simp) ?_
              refine AllReadyIn.cons rfl (fun K5 hK5 => ?_) ?_
              · go_simp
                refine hK5 _ _ ?_
                refine wpAnyIn_ready (rs := [6]) (by kernel_rfl) (by simp) ?_
                refine AllReadyIn.cons rfl (fun K6 hK6 => ?_) ?_
                · refine stepIn_append_lies rfl _ _ 39 rfl (w.heap.size + 4) 44 i0 _ 1 24 Try.underlying39 HI.out.1 HI.out.2.1 HI.out.2.2.1 HI.out.2.2.2 rfl (by decide) op ll.length us rfl (((HB.out.2.2.2.gr elt_bool G1.out).1).alloc _) ⟨u1.heap.size, 0, none⟩ 1 1 _ rfl rfl (World.news_of_block (heap_new' u1 _)) (fun u hu => by obtain rfl := List.mem_singleton.1 hu; rfl) (by decide) (by unfold maxLen; have := HLN.out; omega) (by have := HLN.out; omega) (by have := G1.out.size; have := HB.out.2.1; simp; omega) _ rfl ?_
                  intro g7 cap7 w7 hown hgrow hat hlt7
                  have hl := HL.out u1 _ g7 cap7 w7 G1.out HX.out.1 rfl HX.out.2 hown hgrow hat
                  have HLEAF := Lib.hid hl.2
                  have d3 := hl.1.cell
                  have d4 := hl.1.frozen
                  clear hown hgrow hat hlt7 hl d1 d2
                  refine hK6 _ _ ?_
                  refine wpAnyIn_ready (rs := [7]) (by kernel_rfl) (by simp) ?_
                  refine AllReadyIn.cons rfl (fun K7 hK7 => ?_) ?_
                  · go_simp
                    refine hK7 _ _ ?_
                    refine wpAnyIn_done (by kernel_rfl) ?_ _
                    exact HLEAF.out
                  exact AllReadyIn.nil
                exact AllReadyIn.nil
              exact AllReadyIn.nil
            exact AllReadyIn.nil
          exact AllReadyIn.nil
        refine AllReadyIn.cons rfl (fun K2 hK2 => ?_) ?_
        · go_simp
          refine hK2 _ _ ?_
          refine wpAnyIn_ready (rs := [1]) (by kernel_rfl) (by simp) ?_
          refine AllReadyIn.cons rfl (fun K3 hK3 => ?_) ?_
          · go_simp
            refine hK3 _ _ ?_
            refine wpAnyIn_ready (rs := [4]) (by kernel_rfl) (by simp) ?_
            refine AllReadyIn.cons rfl (fun K4 hK4 => ?_) ?_
            · go_simp
              refine ⟨trivial, (HC.out _ (Gr.drew _)).mono ?_⟩
              rintro e u1 ⟨x, rfl, hx, hg1', hf1⟩
              obtain ⟨Ax, cx, ex, -⟩ := id hx
              subst ex
              have G1 := Lib.hid (Gr.trans (Gr.drew W) hg1')
              have HX := Lib.hid (And.intro hx (fun b hb => Nat.le_trans (Gr.drew W).size (hf1 b hb)))
              clear hx hf1 hg1' e0 e1 e2 e3 e4 d1 d2
              obtain ⟨-, d1, d2⟩ := KP.out _ G1.out
              refine hK4 _ _ ?_
              refine wpAnyIn_ready (rs := [5]) (by kernel_rfl) (by simp) ?_
              refine AllReadyIn.cons rfl (fun K5 hK5 => ?_) ?_
              · go_simp
                refine hK5 _ _ ?_
                refine wpAnyIn_ready (rs := [6]) (by kernel_rfl) (by simp) ?_
                refine AllReadyIn.cons rfl (fun K6 hK6 => ?_) ?_
                · refine stepIn_append_lies rfl _ _ 39 rfl (w.heap.size + 4) 44 i0 _ 1 24 Try.underlying39 HI.out.1 HI.out.2.1 HI.out.2.2.1 HI.out.2.2.2 rfl (by decide) op ll.length us rfl (((HB.out.2.2.2.gr elt_bool G1.out).1).alloc _) ⟨u1.heap.size, 0, none⟩ 1 1 _ rfl rfl (World.news_of_block (heap_new' u1 _)) (fun u hu => by obtain rfl := List.mem_singleton.1 hu; rfl) (by decide) (by unfold maxLen; have := HLN.out; omega) (by have := HLN.out; omega) (by have := G1.out.size; have := HB.out.2.1; simp; omega) _ rfl ?_
                  intro g7 cap7 w7 hown hgrow hat hlt7
                  have hl := HL.out u1 _ g7 cap7 w7 G1.out HX.out.1 rfl HX.out.2 hown hgrow hat
                  have HLEAF := Lib.hid hl.2
                  have d3 := hl.1.cell
                  have d4 := hl.1.frozen
                  clear hown hgrow hat hlt7 hl d1 d2
                  refine hK6 _ _ ?_
                  refine wpAnyIn_ready (rs := [7]) (by kernel_rfl) (by simp) ?_
                  refine AllReadyIn.cons rfl (fun K7 hK7 => ?_) ?_
                  · go_simp
                    refine hK7 _ _ ?_
                    refine wpAnyIn_done (by kernel_rfl) ?_ _
                    exact HLEAF.out
                  exact AllReadyIn.nil
                exact AllReadyIn.nil
              exact AllReadyIn.nil
            exact AllReadyIn.nil
          exact AllReadyIn.nil
        exact AllReadyIn.nil
      refine AllReadyIn.cons rfl (fun K1 hK1 => ?_) ?_
      · go_simp
        refine hK1 _ _ ?_
        refine wpAnyIn_ready (rs := [1, 2]) (by kernel_rfl) (by simp) ?_
        refine AllReadyIn.cons rfl (fun K2 hK2 => ?_) ?_
        · go_simp
          refine hK2 _ _ ?_
          refine wpAnyIn_ready (rs := [2]) (by kernel_rfl) (by simp) ?_
          refine AllReadyIn.cons rfl (fun K3 hK3 => ?_) ?_
          · go_simp
            refine hK3 _ _ ?_
            refine wpAnyIn_ready (rs := [4]) (by kernel_rfl) (by simp) ?_
            refine AllReadyIn.cons rfl (fun K4 hK4 => ?_) ?_
            · go_simp
              refine ⟨trivial, (HC.out _ (Gr.drew _)).mono ?_⟩
              rintro e u1 ⟨x, rfl, hx, hg1', hf1⟩
              obtain ⟨Ax, cx, ex, -⟩ := id hx
              subst ex
              have G1 := Lib.hid (Gr.trans (Gr.drew W) hg1')
              have HX := Lib.hid (And.intro hx (fun b hb => Nat.le_trans (Gr.drew W).size (hf1 b hb)))
              clear hx hf1 hg1' e0 e1 e2 e3 e4 d1 d2
              obtain ⟨-, d1, d2⟩ := KP.out _ G1.out
              refine hK4 _ _ ?_
              refine wpAnyIn_ready (rs := [5]) (by kernel_rfl) (by simp) ?_
              refine AllReadyIn.cons rfl (fun K5 hK5 => ?_) ?_
              · go_simp
                refine hK5 _ _ ?_
                refine wpAnyIn_ready (rs := [6]) (by kernel_rfl) (by simp) ?_
                refine AllReadyIn.cons rfl (fun K6 hK6 => ?_) ?_
                · refine stepIn_append_lies rfl _ _ 39 rfl (w.heap.size + 4) 44 i0 _ 1 24 Try.underlying39 HI.out.1 HI.out.2.1 HI.out.2.2.1 HI.out.2.2.2 rfl (by decide) op ll.length us rfl (((HB.out.2.2.2.gr elt_bool G1.out).1).alloc _) ⟨u1.heap.size, 0, none⟩ 1 1 _ rfl rfl (World.news_of_block (heap_new' u1 _)) (fun u hu => by obtain rfl := List.mem_singleton.1 hu; rfl) (by decide) (by unfold maxLen; have := HLN.out; omega) (by have := HLN.out; omega) (by have := G1.out.size; have := HB.out.2.1; simp; omega) _ rfl ?_
                  intro g7 cap7 w7 hown hgrow hat hlt7
                  have hl := HL.out u1 _ g7 cap7 w7 G1.out HX.out.1 rfl HX.out.2 hown hgrow hat
                  have HLEAF := Lib.hid hl.2
                  have d3 := hl.1.cell
                  have d4 := hl.1.frozen
                  clear hown hgrow hat hlt7 hl d1 d2
                  refine hK6 _ _ ?_
                  refine wpAnyIn_ready (rs := [7]) (by kernel_rfl) (by simp) ?_
                  refine AllReadyIn.cons rfl (fun K7 hK7 => ?_) ?_
                  · go_simp
                    refine hK7 _ _ ?_
                    refine wpAnyIn_done (by kernel_rfl) ?_ _
                    exact HLEAF.out
                  exact AllReadyIn.nil
                exact AllReadyIn.nil
              exact AllReadyIn.nil
            exact AllReadyIn.nil
          exact AllReadyIn.nil
        refine AllReadyIn.cons rfl (fun K2 hK2 => ?_) ?_
        · go_simp
          refine hK2 _ _ ?_
          refine wpAnyIn_ready (rs := [1]) (by kernel_rfl) (by simp) ?_
          refine AllReadyIn.cons rfl (fun K3 hK3 => ?_) ?_
          · go_simp
            refine hK3 _ _ ?_
            refine wpAnyIn_ready (rs := [4]) (by kernel_rfl) (by simp) ?_
            refine AllReadyIn.cons rfl (fun K4 hK4 => ?_) ?_
            · go_simp
              refine ⟨trivial, (HC.out _ (Gr.drew _)).mono ?_⟩
              rintro e u1 ⟨x, rfl, hx, hg1', hf1⟩
              obtain ⟨Ax, cx, ex, -⟩ := id hx
              subst ex
              have G1 := Lib.hid (Gr.trans (Gr.drew W) hg1')
              have HX := Lib.hid (And.intro hx (fun b hb => Nat.le_trans (Gr.drew W).size (hf1 b hb)))
              clear hx hf1 hg1' e0 e1 e2 e3 e4 d1 d2
              obtain ⟨-, d1, d2⟩ := KP.out _ G1.out
              refine hK4 _ _ ?_
              refine wpAnyIn_ready (rs := [5]) (by kernel_rfl) (by simp) ?_
              refine AllReadyIn.cons rfl (fun K5 hK5 => ?_) ?_
              · go_simp
                refine hK5 _ _ ?_
                refine wpAnyIn_ready (rs := [6]) (by kernel_rfl) (by simp) ?_
                refine AllReadyIn.cons rfl (fun K6 hK6 => ?_) ?_
                · refine stepIn_append_lies rfl _ _ 39 rfl (w.heap.size + 4) 44 i0 _ 1 24 Try.underlying39 HI.out.1 HI.out.2.1 HI.out.2.2.1 HI.out.2.2.2 rfl (by decide) op ll.length us rfl (((HB.out.2.2.2.gr elt_bool G1.out).1).alloc _) ⟨u1.heap.size, 0, none⟩ 1 1 _ rfl rfl (World.news_of_block (heap_new' u1 _)) (fun u hu => by obtain rfl := List.mem_singleton.1 hu; rfl) (by decide) (by unfold maxLen; have := HLN.out; omega) (by have := HLN.out; omega) (by have := G1.out.size; have := HB.out.2.1; simp; omega) _ rfl ?_
                  intro g7 cap7 w7 hown hgrow hat hlt7
                  have hl := HL.out u1 _ g7 cap7 w7 G1.out HX.out.1 rfl HX.out.2 hown hgrow hat
                  have HLEAF := Lib.hid hl.2
                  have d3 := hl.1.cell
                  have d4 := hl.1.frozen
                  clear hown hgrow hat hlt7 hl d1 d2
                  refine hK6 _ _ ?_
                  refine wpAnyIn_ready (rs := [7]) (by kernel_rfl) (by simp) ?_
                  refine AllReadyIn.cons rfl (fun K7 hK7 => ?_) ?_
                  · go_simp
                    refine hK7 _ _ ?_
                    refine wpAnyIn_done (by kernel_rfl) ?_ _
                    exact HLEAF.out
                  exact AllReadyIn.nil
                exact AllReadyIn.nil
              exact AllReadyIn.nil
            exact AllReadyIn.nil
          exact AllReadyIn.nil
        exact AllReadyIn.nil
      exact AllReadyIn.nil
    refine AllReadyIn.cons rfl (fun K0 hK0 => ?_) ?_
    · go_simp
      refine hK0 _ _ ?_
      refine wpAnyIn_ready (rs := [0, 2, 3]) (by kernel_rfl) (by simp) ?_
      refine AllReadyIn.cons rfl (fun K1 hK1 => ?_) ?_
      · go_simp
        refine hK1 _ _ ?_
        refine wpAnyIn_ready (rs := [2, 3]) (by kernel_rfl) (by simp) ?_
        refine AllReadyIn.cons rfl (fun K2 hK2 => ?_) ?_
        · go_simp
          refine hK2 _ _ ?_
          refine wpAnyIn_ready (rs := [3]) (by kernel_rfl) (by simp) ?_
          refine AllReadyIn.cons rfl (fun K3 hK3 => ?_) ?_
          · go_simp
            refine hK3 _ _ ?_
            refine wpAnyIn_ready (rs := [4]) (by kernel_rfl) (by simp) ?_
            refine AllReadyIn.cons rfl (fun K4 hK4 => ?_) ?_
            · go_simp
              refine ⟨trivial, (HC.out _ (Gr.drew _)).mono ?_⟩
              rintro e u1 ⟨x, rfl, hx, hg1', hf1⟩
              obtain ⟨Ax, cx, ex, -⟩ := id hx
              subst ex
              have G1 := Lib.hid (Gr.trans (Gr.drew W) hg1')
              have HX := Lib.hid (And.intro hx (fun b hb => Nat.le_trans (Gr.drew W).size (hf1 b hb)))
              clear hx hf1 hg1' e0 e1 e2 e3 e4 d1 d2
              obtain ⟨-, d1, d2⟩ := KP.out _ G1.out
              refine hK4 _ _ ?_
              refine wpAnyIn_ready (rs := [5]) (by kernel_rfl) (by simp) ?_
              refine AllReadyIn.cons rfl (fun K5 hK5 => ?_) ?_
              · go_simp
                refine hK5 _ _ ?_
                refine wpAnyIn_ready (rs := [6]) (by kernel_rfl) (by simp) ?_
                refine AllReadyIn.cons rfl (fun K6 hK6 => ?_) ?_
                · refine stepIn_append_lies rfl _ _ 39 rfl (w.heap.size + 4) 44 i0 _ 1 24 Try.underlying39 HI.out.1 HI.out.2.1 HI.out.2.2.1 HI.out.2.2.2 rfl (by decide) op ll.length us rfl (((HB.out.2.2.2.gr elt_bool G1.out).1).alloc _) ⟨u1.heap.size, 0, none⟩ 1 1 _ rfl rfl (World.news_of_block (heap_new' u1 _)) (fun u hu => by obtain rfl := List.mem_singleton.1 hu; rfl) (by decide) (by unfold maxLen; have := HLN.out; omega) (by have := HLN.out; omega) (by have := G1.out.size; have := HB.out.2.1; simp; omega) _ rfl ?_
                  intro g7 cap7 w7 hown hgrow hat hlt7
                  have hl := HL.out u1 _ g7 cap7 w7 G1.out HX.out.1 rfl HX.out.2 hown hgrow hat
                  have HLEAF := Lib.hid hl.2
                  have d3 := hl.1.cell
                  have d4 := hl.1.frozen
                  clear hown hgrow hat hlt7 hl d1 d2
                  refine hK6 _ _ ?_
                  refine wpAnyIn_ready (rs := [7]) (by kernel_rfl) (by simp) ?_
                  refine AllReadyIn.cons rfl (fun K7 hK7 => ?_) ?_
                  · go_simp
                    refine hK7 _ _ ?_
                    refine wpAnyIn_done (by kernel_rfl) ?_ _
                    exact HLEAF.out
                  exact AllReadyIn.nil
                exact AllReadyIn.nil
              exact AllReadyIn.nil
            exact AllReadyIn.nil
          exact AllReadyIn.nil
        refine AllReadyIn.cons rfl (fun K2 hK2 => ?_) ?_
        · go_simp
          refine hK2 _ _ ?_
          refine wpAnyIn_ready (rs := [2]) (by kernel_rfl) (by simp) ?_
          refine AllReadyIn.cons rfl (fun K3 hK3 => ?_) ?_
          · go_simp
            refine hK3 _ _ ?_
            refine wpAnyIn_ready (rs := [4]) (by kernel_rfl) (by simp) ?_
            refine AllReadyIn.cons rfl (fun K4 hK4 => ?_) ?_
            · go_simp
              refine ⟨trivial, (HC.out _ (Gr.drew _)).mono ?_⟩
              rintro e u1 ⟨x, rfl, hx, hg1', hf1⟩
              obtain ⟨Ax, cx, ex, -⟩ := id hx
              subst ex
              have G1 := Lib.hid (Gr.trans (Gr.drew W) hg1')
              have HX := Lib.hid (And.intro hx (fun b hb => Nat.le_trans (Gr.drew W).size (hf1 b hb)))
              clear hx hf1 hg1' e0 e1 e2 e3 e4 d1 d2
              obtain ⟨-, d1, d2⟩ := KP.out _ G1.out
              refine hK4 _ _ ?_
              refine wpAnyIn_ready (rs := [5]) (by kernel_rfl) (by simp) ?_
              refine AllReadyIn.cons rfl (fun K5 hK5 => ?_) ?_
              · go_simp
                refine hK5 _ _ ?_
                refine wpAnyIn_ready (rs := [6]) (by kernel_rfl) (by simp) ?_
                refine AllReadyIn.cons rfl (fun K6 hK6 => ?_) ?_
                · refine stepIn_append_lies rfl _ _ 39 rfl (w.heap.size + 4) 44 i0 _ 1 24 Try.underlying39 HI.out.1 HI.out.2.1 HI.out.2.2.1 HI.out.2.2.2 rfl (by decide) op ll.length us rfl (((HB.out.2.2.2.gr elt_bool G1.out).1).alloc _) ⟨u1.heap.size, 0, none⟩ 1 1 _ rfl rfl (World.news_of_block (heap_new' u1 _)) (fun u hu => by obtain rfl := List.mem_singleton.1 hu; rfl) (by decide) (by unfold maxLen; have := HLN.out; omega) (by have := HLN.out; omega) (by have := G1.out.size; have := HB.out.2.1; simp; omega) _ rfl ?_
                  intro g7 cap7 w7 hown hgrow hat hlt7
                  have hl := HL.out u1 _ g7 cap7 w7 G1.out HX.out.1 rfl HX.out.2 hown hgrow hat
                  have HLEAF := Lib.hid hl.2
                  have d3 := hl.1.cell
                  have d4 := hl.1.frozen
                  clear hown hgrow hat hlt7 hl d1 d2
                  refine hK6 _ _ ?_
                  refine wpAnyIn_ready (rs := [7]) (by kernel_rfl) (by simp) ?_
                  refine AllReadyIn.cons rfl (fun K7 hK7 => ?_) ?_
                  · go_simp
                    refine hK7 _ _ ?_
                    refine wpAnyIn_done (by kernel_rfl) ?_ _
                    exact HLEAF.out
                  exact AllReadyIn.nil
                exact AllReadyIn.nil
              exact AllReadyIn.nil
            exact AllReadyIn.nil
          exact AllReadyIn.nil
        exact AllReadyIn.nil
      refine AllReadyIn.cons rfl (fun K1 hK1 => ?_) ?_
      · go_simp
        refine hK1 _ _ ?_
        refine wpAnyIn_ready (rs := [0, 3]) (by kernel_rfl) (by simp) ?_
        refine AllReadyIn.cons rfl (fun K2 hK2 => ?_) ?_
        · go_simp
          refine hK2 _ _ ?_
          refine wpAnyIn_ready (rs := [3]) (by kernel_rfl) (by simp) ?_
          refine AllReadyIn.cons rfl (fun K3 hK3 => ?_) ?_
          · go_simp
            refine hK3 _ _ ?_
            refine wpAnyIn_ready (rs := [4]) (by kernel_rfl) (by simp) ?_
            refine AllReadyIn.cons rfl (fun K4 hK4 => ?_) ?_
            · go_simp
              refine ⟨trivial, (HC.out _ (Gr.drew _)).mono ?_⟩
              rintro e u1 ⟨x, rfl, hx, hg1', hf1⟩
              obtain ⟨Ax, cx, ex, -⟩ := id hx
              subst ex
              have G1 := Lib.hid (Gr.trans (Gr.drew W) hg1')
              have HX := Lib.hid (And.intro hx (fun b hb => Nat.le_trans (Gr.drew W).size (hf1 b hb)))
              clear hx hf1 hg1' e0 e1 e2 e3 e4 d1 d2
              obtain ⟨-, d1, d2⟩ := KP.out _ G1.out
              refine hK4 _ _ ?_
              refine wpAnyIn_ready (rs := [5]) (by kernel_rfl) (by simp) ?_
              refine AllReadyIn.cons rfl (fun K5 hK5 => ?_) ?_
              · go_simp
                refine hK5 _ _ ?_
                refine wpAnyIn_ready (rs := [6]) (by kernel_rfl) (by simp) ?_
                refine AllReadyIn.cons rfl (fun K6 hK6 => ?_) ?_
                · refine stepIn_append_lies rfl _ _ 39 rfl (w.heap.size + 4) 44 i0 _ 1 24 Try.underlying39 HI.out.1 HI.out.2.1 HI.out.2.2.1 HI.out.2.2.2 rfl (by decide) op ll.length us rfl (((HB.out.2.2.2.gr elt_bool G1.out).1).alloc _) ⟨u1.heap.size, 0, none⟩ 1 1 _ rfl rfl (World.news_of_block (heap_new' u1 _)) (fun u hu => by obtain rfl := List.mem_singleton.1 hu; rfl) (by decide) (by unfold maxLen; have := HLN.out; omega) (by have := HLN.out; omega) (by have := G1.out.size; have := HB.out.2.1; simp; omega) _ rfl ?_
                  intro g7 cap7 w7 hown hgrow hat hlt7
                  have hl := HL.out u1 _ g7 cap7 w7 G1.out HX.out.1 rfl HX.out.2 hown hgrow hat
                  have HLEAF := Lib.hid hl.2
                  have d3 := hl.1.cell
                  have d4 := hl.1.frozen
                  clear hown hgrow hat hlt7 hl d1 d2
                  refine hK6 _ _ ?_
                  refine wpAnyIn_ready (rs := [7]) (by kernel_rfl) (by simp) ?_
                  refine AllReadyIn.cons rfl (fun K7 hK7 => ?_) ?_
                  · go_simp
                    refine hK7 _ _ ?_
                    refine wpAnyIn_done (by kernel_rfl) ?_ _
                    exact HLEAF.out
                  exact AllReadyIn.nil
                exact AllReadyIn.nil
              exact AllReadyIn.nil
            exact AllReadyIn.nil
          exact AllReadyIn.nil
        refine AllReadyIn.cons rfl (fun K2 hK2 => ?_) ?_
        · go_simp
          refine hK2 _ _ ?_
          refine wpAnyIn_ready (rs := [0, 4]) (by kernel_rfl) (by simp) ?_
          refine AllReadyIn.cons rfl (fun K3 hK3 => ?_) ?_
          · go_simp
            refine hK3 _ _ ?_
            refine wpAnyIn_ready (rs := [4]) (by kernel_rfl) (by simp) ?_
            refine AllReadyIn.cons rfl (fun K4 hK4 => ?_) ?_
            · go_simp
              refine ⟨trivial, (HC.out _ (Gr.drew _)).mono ?_⟩
              rintro e u1 ⟨x, rfl, hx, hg1', hf1⟩
              obtain ⟨Ax, cx, ex, -⟩ := id hx
              subst ex
              have G1 := Lib.hid (Gr.trans (Gr.drew W) hg1')
              have HX := Lib.hid (And.intro hx (fun b hb => Nat.le_trans (Gr.drew W).size (hf1 b hb)))
              clear hx hf1 hg1' e0 e1 e2 e3 e4 d1 d2
              obtain ⟨-, d1, d2⟩ := KP.out _ G1.out
              refine hK4 _ _ ?_
              refine wpAnyIn_ready (rs := [5]) (by kernel_rfl) (by simp) ?_
              refine AllReadyIn.cons rfl (fun K5 hK5 => ?_) ?_
              · go_simp
                refine hK5 _ _ ?_
                refine wpAnyIn_ready (rs := [6]) (by kernel_rfl) (by simp) ?_
                refine AllReadyIn.cons rfl (fun K6 hK6 => ?_) ?_
                · refine stepIn_append_lies rfl _ _ 39 rfl (w.heap.size + 4) 44 i0 _ 1 24 Try.underlying39 HI.out.1 HI.out.2.1 HI.out.2.2.1 HI.out.2.2.2 rfl (by decide) op ll.length us rfl (((HB.out.2.2.2.gr elt_bool G1.out).1).alloc _) ⟨u1.heap.size, 0, none⟩ 1 1 _ rfl rfl (World.news_of_block (heap_new' u1 _)) (fun u hu => by obtain rfl := List.mem_singleton.1 hu; rfl) (by decide) (by unfold maxLen; have := HLN.out; omega) (by have := HLN.out; omega) (by have := G1.out.size; have := HB.out.2.1; simp; omega) _ rfl ?_
                  intro g7 cap7 w7 hown hgrow hat hlt7
                  have hl := HL.out u1 _ g7 cap7 w7 G1.out HX.out.1 rfl HX.out.2 hown hgrow hat
                  have HLEAF := Lib.hid hl.2
                  have d3 := hl.1.cell
                  have d4 := hl.1.frozen
                  clear hown hgrow hat hlt7 hl d1 d2
                  refine hK6 _ _ ?_
                  refine wpAnyIn_ready (rs := [7]) (by kernel_rfl) (by simp) ?_
                  refine AllReadyIn.cons rfl (fun K7 hK7 => ?_) ?_
                  · go_simp
                    refine hK7 _ _ ?_
                    refine wpAnyIn_done (by kernel_rfl) ?_ _
                    exact HLEAF.out
                  exact AllReadyIn.nil
                exact AllReadyIn.nil
              exact AllReadyIn.nil
            exact AllReadyIn.nil
          refine AllReadyIn.cons rfl (fun K3 hK3 => ?_) ?_
          · go_simp
            refine ⟨trivial, (HC.out _ (Gr.drew _)).mono ?_⟩
            rintro e u1 ⟨x, rfl, hx, hg1', hf1⟩
            obtain ⟨Ax, cx, ex, -⟩ := id hx
            subst ex
            have G1 := Lib.hid (Gr.trans (Gr.drew W) hg1')
            have HX := Lib.hid (And.intro hx (fun b hb => Nat.le_trans (Gr.drew W).size (hf1 b hb)))
            clear hx hf1 hg1' e0 e1 e2 e3 e4 d1 d2
            obtain ⟨-, d1, d2⟩ := KP.out _ G1.out
            refine hK3 _ _ ?_
            refine wpAnyIn_ready (rs := [0, 5]) (by kernel_rfl) (by simp) ?_
            refine AllReadyIn.cons rfl (fun K4 hK4 => ?_) ?_
            · go_simp
              refine hK4 _ _ ?_
              refine wpAnyIn_ready (rs := [5]) (by kernel_rfl) (by simp) ?_
              refine AllReadyIn.cons rfl (fun K5 hK5 => ?_) ?_
              · go_simp
                refine hK5 _ _ ?_
                refine wpAnyIn_ready (rs := [6]) (by kernel_rfl) (by simp) ?_
                refine AllReadyIn.cons rfl (fun K6 hK6 => ?_) ?_
                · refine stepIn_append_lies rfl _ _ 39 rfl (w.heap.size + 4) 44 i0 _ 1 24 Try.underlying39 HI.out.1 HI.out.2.1 HI.out.2.2.1 HI.out.2.2.2 rfl (by decide) op ll.length us rfl (((HB.out.2.2.2.gr elt_bool G1.out).1).alloc _) ⟨u1.heap.size, 0, none⟩ 1 1 _ rfl rfl (World.news_of_block (heap_new' u1 _)) (fun u hu => by obtain rfl := List.mem_singleton.1 hu; rfl) (by decide) (by unfold maxLen; have := HLN.out; omega) (by have := HLN.out; omega) (by have := G1.out.size; have := HB.out.2.1; simp; omega) _ rfl ?_
                  intro g7 cap7 w7 hown hgrow hat hlt7
                  have hl := HL.out u1 _ g7 cap7 w7 G1.out HX.out.1 rfl HX.out.2 hown hgrow hat
                  have HLEAF := Lib.hid hl.2
                  have d3 := hl.1.cell
                  have d4 := hl.1.frozen
                  clear hown hgrow hat hlt7 hl d1 d2
                  refine hK6 _ _ ?_
                  refine wpAnyIn_ready (rs := [7]) (by kernel_rfl) (by simp) ?_
                  refine AllReadyIn.cons rfl (fun K7 hK7 => ?_) ?_
                  · go_simp
                    refine hK7 _ _ ?_
                    refine wpAnyIn_done (by kernel_rfl) ?_ _
                    exact HLEAF.out
                  exact AllReadyIn.nil
                exact AllReadyIn.nil
              exact AllReadyIn.nil
            refine AllReadyIn.cons rfl (fun K4 hK4 => ?_) ?_
            · go_simp
              refine hK4 _ _ ?_
              refine wpAnyIn_ready (rs := [0]) (by kernel_rfl) (by simp) ?_
              refine AllReadyIn.cons rfl (fun K5 hK5 => ?_) ?_
              · have d5 := (KP.out _ (Gr.trans G1.out (bel_alloc u1 (.cells #[.slice Ax (bitsAt n t k).length cx] 44)))).2.1
                go_simp
                clear d5
                refine hK5 _ _ ?_
                refine wpAnyIn_ready (rs := [6]) (by kernel_rfl) (by simp) ?_
                refine AllReadyIn.cons rfl (fun K6 hK6 => ?_) ?_
                · refine stepIn_append_lies rfl _ _ 39 rfl (w.heap.size + 4) 44 i0 _ 1 24 Try.underlying39 HI.out.1 HI.out.2.1 HI.out.2.2.1 HI.out.2.2.2 rfl (by decide) op ll.length us rfl (((HB.out.2.2.2.gr elt_bool G1.out).1).alloc _) ⟨u1.heap.size, 0, none⟩ 1 1 _ rfl rfl (World.news_of_block (heap_new' u1 _)) (fun u hu => by obtain rfl := List.mem_singleton.1 hu; rfl) (by decide) (by unfold maxLen; have := HLN.out; omega) (by have := HLN.out; omega) (by have := G1.out.size; have := HB.out.2.1; simp; omega) _ rfl ?_
                  intro g7 cap7 w7 hown hgrow hat hlt7
                  have hl := HL.out u1 _ g7 cap7 w7 G1.out HX.out.1 rfl HX.out.2 hown hgrow hat
                  have HLEAF := Lib.hid hl.2
                  have d3 := hl.1.cell
                  have d4 := hl.1.frozen
                  clear hown hgrow hat hlt7 hl d1 d2
                  refine hK6 _ _ ?_
                  refine wpAnyIn_ready (rs := [7]) (by kernel_rfl) (by simp) ?_
                  refine AllReadyIn.cons rfl (fun K7 hK7 => ?_) ?_
                  · go_simp
                    refine hK7 _ _ ?_
                    refine wpAnyIn_done (by kernel_rfl) ?_ _
                    exact HLEAF.out
                  exact AllReadyIn.nil
                exact AllReadyIn.nil
              exact AllReadyIn.nil
            exact AllReadyIn.nil
          exact AllReadyIn.nil
        exact AllReadyIn.nil
      refine AllReadyIn.cons rfl (fun K1 hK1 => ?_) ?_
      · go_simp
        refine hK1 _ _ ?_
        refine wpAnyIn_ready (rs := [0, 2]) (by kernel_rfl) (by simp) ?_
        refine AllReadyIn.cons rfl (fun K2 hK2 => ?_) ?_
        · go_simp
          refine hK2 _ _ ?_
          refine wpAnyIn_ready (rs := [2]) (by kernel_rfl) (by simp) ?_
          refine AllReadyIn.cons rfl (fun K3 hK3 => ?_) ?_
          · go_simp
            refine hK3 _ _ ?_
            refine wpAnyIn_ready (rs := [4]) (by kernel_rfl) (by simp) ?_
            refine AllReadyIn.cons rfl (fun K4 hK4 => ?_) ?_
            · go_simp
              refine ⟨trivial, (HC.out _ (Gr.drew _)).mono ?_⟩
              rintro e u1 ⟨x, rfl, hx, hg1', hf1⟩
              obtain ⟨Ax, cx, ex, -⟩ := id hx
              subst ex
              have G1 := Lib.hid (Gr.trans (Gr.drew W) hg1')
              have HX := Lib.hid (And.intro hx (fun b hb => Nat.le_trans (Gr.drew W).size (hf1 b hb)))
              clear hx hf1 hg1' e0 e1 e2 e3 e4 d1 d2
              obtain ⟨-, d1, d2⟩ := KP.out _ G1.out
              refine hK4 _ _ ?_
              refine wpAnyIn_ready (rs := [5]) (by kernel_rfl) (by simp) ?_
              refine AllReadyIn.cons rfl (fun K5 hK5 => ?_) ?_
              · go_simp
                refine hK5 _ _ ?_
                refine wpAnyIn_ready (rs := [6]) (by kernel_rfl) (by simp) ?_
                refine AllReadyIn.cons rfl (fun K6 hK6 => ?_) ?_
                · refine stepIn_append_lies rfl _ _ 39 rfl (w.heap.size + 4) 44 i0 _ 1 24 Try.underlying39 HI.out.1 HI.out.2.1 HI.out.2.2.1 HI.out.2.2.2 rfl (by decide) op ll.length us rfl (((HB.out.2.2.2.gr elt_bool G1.out).1).alloc _) ⟨u1.heap.size, 0, none⟩ 1 1 _ rfl rfl (World.news_of_block (heap_new' u1 _)) (fun u hu => by obtain rfl := List.mem_singleton.1 hu; rfl) (by decide) (by unfold maxLen; have := HLN.out; omega) (by have := HLN.out; omega) (by have := G1.out.size; have := HB.out.2.1; simp; omega) _ rfl ?_
                  intro g7 cap7 w7 hown hgrow hat hlt7
                  have hl := HL.out u1 _ g7 cap7 w7 G1.out HX.out.1 rfl HX.out.2 hown hgrow hat
                  have HLEAF := Lib.hid hl.2
                  have d3 := hl.1.cell
                  have d4 := hl.1.frozen
                  clear hown hgrow hat hlt7 hl d1 d2
                  refine hK6 _ _ ?_
                  refine wpAnyIn_ready (rs := [7]) (by kernel_rfl) (by simp) ?_
                  refine AllReadyIn.cons rfl (fun K7 hK7 => ?_) ?_
                  · go_simp
                    refine hK7 _ _ ?_
                    refine wpAnyIn_done (by kernel_rfl) ?_ _
                    exact HLEAF.out
                  exact AllReadyIn.nil
                exact AllReadyIn.nil
              exact AllReadyIn.nil
            exact AllReadyIn.nil
          exact AllReadyIn.nil
        refine AllReadyIn.cons rfl (fun K2 hK2 => ?_) ?_
        · go_simp
          refine hK2 _ _ ?_
          refine wpAnyIn_ready (rs := [0, 4]) (by kernel_rfl) (by simp) ?_
          refine AllReadyIn.cons rfl (fun K3 hK3 => ?_) ?_
          · go_simp
            refine hK3 _ _ ?_
            refine wpAnyIn_ready (rs := [4]) (by kernel_rfl) (by simp) ?_
            refine AllReadyIn.cons rfl (fun K4 hK4 => ?_) ?_
            · go_simp
              refine ⟨trivial, (HC.out _ (Gr.drew _)).mono ?_⟩
              rintro e u1 ⟨x, rfl, hx, hg1', hf1⟩
              obtain ⟨Ax, cx, ex, -⟩ := id hx
              subst ex
              have G1 := Lib.hid (Gr.trans (Gr.drew W) hg1')
              have HX := Lib.hid (And.intro hx (fun b hb => Nat.le_trans (Gr.drew W).size (hf1 b hb)))
              clear hx hf1 hg1' e0 e1 e2 e3 e4 d1 d2
              obtain ⟨-, d1, d2⟩ := KP.out _ G1.out
              refine hK4 _ _ ?_
              refine wpAnyIn_ready (rs := [5]) (by kernel_rfl) (by simp) ?_
              refine AllReadyIn.cons rfl (fun K5 hK5 => ?_) ?_
              · go_simp
                refine hK5 _ _ ?_
                refine wpAnyIn_ready (rs := [6]) (by kernel_rfl) (by simp) ?_
                refine AllReadyIn.cons rfl (fun K6 hK6 => ?_) ?_
                · refine stepIn_append_lies rfl _ _ 39 rfl (w.heap.size + 4) 44 i0 _ 1 24 Try.underlying39 HI.out.1 HI.out.2.1 HI.out.2.2.1 HI.out.2.2.2 rfl (by decide) op ll.length us rfl (((HB.out.2.2.2.gr elt_bool G1.out).1).alloc _) ⟨u1.heap.size, 0, none⟩ 1 1 _ rfl rfl (World.news_of_block (heap_new' u1 _)) (fun u hu => by obtain rfl := List.mem_singleton.1 hu; rfl) (by decide) (by unfold maxLen; have := HLN.out; omega) (by have := HLN.out; omega) (by have := G1.out.size; have := HB.out.2.1; simp; omega) _ rfl ?_
                  intro g7 cap7 w7 hown hgrow hat hlt7
                  have hl := HL.out u1 _ g7 cap7 w7 G1.out HX.out.1 rfl HX.out.2 hown hgrow hat
                  have HLEAF := Lib.hid hl.2
                  have d3 := hl.1.cell
                  have d4 := hl.1.frozen
                  clear hown hgrow hat hlt7 hl d1 d2
                  refine hK6 _ _ ?_
                  refine wpAnyIn_ready (rs := [7]) (by kernel_rfl) (by simp) ?_
                  refine AllReadyIn.cons rfl (fun K7 hK7 => ?_) ?_
                  · go_simp
                    refine hK7 _ _ ?_
                    refine wpAnyIn_done (by kernel_rfl) ?_ _
                    exact HLEAF.out
                  exact AllReadyIn.nil
                exact AllReadyIn.nil
              exact AllReadyIn.nil
            exact AllReadyIn.nil
          refine AllReadyIn.cons rfl (fun K3 hK3 => ?_) ?_
          · go_simp
            refine ⟨trivial, (HC.out _ (Gr.drew _)).mono ?_⟩
            rintro e u1 ⟨x, rfl, hx, hg1', hf1⟩
            obtain ⟨Ax, cx, ex, -⟩ := id hx
            subst ex
            have G1 := Lib.hid (Gr.trans (Gr.drew W) hg1')
            have HX := Lib.hid (And.intro hx (fun b hb => Nat.le_trans (Gr.drew W).size (hf1 b hb)))
            clear hx hf1 hg1' e0 e1 e2 e3 e4 d1 d2
            obtain ⟨-, d1, d2⟩ := KP.out _ G1.out
            refine hK3 _ _ ?_
            refine wpAnyIn_ready (rs := [0, 5]) (by kernel_rfl) (by simp) ?_
            refine AllReadyIn.cons rfl (fun K4 hK4 => ?_) ?_
            · go_simp
              refine hK4 _ _ ?_
              refine wpAnyIn_ready (rs := [5]) (by kernel_rfl) (by simp) ?_
              refine AllReadyIn.cons rfl (fun K5 hK5 => ?_) ?_
              · go_simp
                refine hK5 _ _ ?_
                refine wpAnyIn_ready (rs := [6]) (by kernel_rfl) (by simp) ?_
                refine AllReadyIn.cons rfl (fun K6 hK6 => ?_) ?_
                · refine stepIn_append_lies rfl _ _ 39 rfl (w.heap.size + 4) 44 i0 _ 1 24 Try.underlying39 HI.out.1 HI.out.2.1 HI.out.2.2.1 HI.out.2.2.2 rfl (by decide) op ll.length us rfl (((HB.out.2.2.2.gr elt_bool G1.out).1).alloc _) ⟨u1.heap.size, 0, none⟩ 1 1 _ rfl rfl (World.news_of_block (heap_new' u1 _)) (fun u hu => by obtain rfl := List.mem_singleton.1 hu; rfl) (by decide) (by unfold maxLen; have := HLN.out; omega) (by have := HLN.out; omega) (by have := G1.out.size; have := HB.out.2.1; simp; omega) _ rfl ?_
                  intro g7 cap7 w7 hown hgrow hat hlt7
                  have hl := HL.out u1 _ g7 cap7 w7 G1.out HX.out.1 rfl HX.out.2 hown hgrow hat
                  have HLEAF := Lib.hid hl.2
                  have d3 := hl.1.cell
                  have d4 := hl.1.frozen
                  clear hown hgrow hat hlt7 hl d1 d2
                  refine hK6 _ _ ?_
                  refine wpAnyIn_ready (rs := [7]) (by kernel_rfl) (by simp) ?_
                  refine AllReadyIn.cons rfl (fun K7 hK7 => ?_) ?_
                  · go_simp
                    refine hK7 _ _ ?_
                    refine wpAnyIn_done (by kernel_rfl) ?_ _
                    exact HLEAF.out
                  exact AllReadyIn.nil
                exact AllReadyIn.nil
              exact AllReadyIn.nil
            refine AllReadyIn.cons rfl (fun K4 hK4 => ?_) ?_
            · go_simp
              refine hK4 _ _ ?_
              refine wpAnyIn_ready (rs := [0]) (by kernel_rfl) (by simp) ?_
              refine AllReadyIn.cons rfl (fun K5 hK5 => ?_) ?_
              · have d5 := (KP.out _ (Gr.trans G1.out (bel_alloc u1 (.cells #[.slice Ax (bitsAt n t k).length cx] 44)))).2.1
                go_simp
                clear d5
                refine hK5 _ _ ?_
                refine wpAnyIn_ready (rs := [6]) (by kernel_rfl) (by simp) ?_
                refine AllReadyIn.cons rfl (fun K6 hK6 => ?_) ?_
                · refine stepIn_append_lies rfl _ _ 39 rfl (w.heap.size + 4) 44 i0 _ 1 24 Try.underlying39 HI.out.1 HI.out.2.1 HI.out.2.2.1 HI.out.2.2.2 rfl (by decide) op ll.length us rfl (((HB.out.2.2.2.gr elt_bool G1.out).1).alloc _) ⟨u1.heap.size, 0, none⟩ 1 1 _ rfl rfl (World.news_of_block (heap_new' u1 _)) (fun u hu => by obtain rfl := List.mem_singleton.1 hu; rfl) (by decide) (by unfold maxLen; have := HLN.out; omega) (by have := HLN.out; omega) (by have := G1.out.size; have := HB.out.2.1; simp; omega) _ rfl ?_
                  intro g7 cap7 w7 hown hgrow hat hlt7
                  have hl := HL.out u1 _ g7 cap7 w7 G1.out HX.out.1 rfl HX.out.2 hown hgrow hat
                  have HLEAF := Lib.hid hl.2
                  have d3 := hl.1.cell
                  have d4 := hl.1.frozen
                  clear hown hgrow hat hlt7 hl d1 d2
                  refine hK6 _ _ ?_
                  refine wpAnyIn_ready (rs := [7]) (by kernel_rfl) (by simp) ?_
                  refine AllReadyIn.cons rfl (fun K7 hK7 => ?_) ?_
                  · go_simp
                    refine hK7 _ _ ?_
                    refine wpAnyIn_done (by kernel_rfl) ?_ _
                    exact HLEAF.out
                  exact AllReadyIn.nil
                exact AllReadyIn.nil
              exact AllReadyIn.nil
            exact AllReadyIn.nil
          exact AllReadyIn.nil
        exact AllReadyIn.nil
      exact AllReadyIn.nil
    refine AllReadyIn.cons rfl (fun K0 hK0 => ?_) ?_
    · go_simp
      refine hK0 _ _ ?_
      refine wpAnyIn_ready (rs := [0, 1, 3]) (by kernel_rfl) (by simp) ?_
      refine AllReadyIn.cons rfl (fun K1 hK1 => ?_) ?_
      · go_simp
        refine hK1 _ _ ?_
        refine wpAnyIn_ready (rs := [1, 3]) (by kernel_rfl) (by simp) ?_
        refine AllReadyIn.cons rfl (fun K2 hK2 => ?_) ?_
        · go_simp
          refine hK2 _ _ ?_
          refine wpAnyIn_ready (rs := [3]) (by kernel_rfl) (by simp) ?_
          refine AllReadyIn.cons rfl (fun K3 hK3 => ?_) ?_
          · go_simp
            refine hK3 _ _ ?_
            refine wpAnyIn_ready (rs := [4]) (by kernel_rfl) (by simp) ?_
            refine AllReadyIn.cons rfl (fun K4 hK4 => ?_) ?_
            · go_simp
              refine ⟨trivial, (HC.out _ (Gr.drew _)).mono ?_⟩
              rintro e u1 ⟨x, rfl, hx, hg1', hf1⟩
              obtain ⟨Ax, cx, ex, -⟩ := id hx
              subst ex
              have G1 := Lib.hid (Gr.trans (Gr.drew W) hg1')
              have HX := Lib.hid (And.intro hx (fun b hb => Nat.le_trans (Gr.drew W).size (hf1 b hb)))
              clear hx hf1 hg1' e0 e1 e2 e3 e4 d1 d2
              obtain ⟨-, d1, d2⟩ := KP.out _ G1.out
              refine hK4 _ _ ?_
              refine wpAnyIn_ready (rs := [5]) (by kernel_rfl) (by simp) ?_
              refine AllReadyIn.cons rfl (fun K5 hK5 => ?_) ?_
              · go_simp
                refine hK5 _ _ ?_
                refine wpAnyIn_ready (rs := [6]) (by kernel_rfl) (by simp) ?_
                refine AllReadyIn.cons rfl (fun K6 hK6 => ?_) ?_
                · refine stepIn_append_lies rfl _ _ 39 rfl (w.heap.size + 4) 44 i0 _ 1 24 Try.underlying39 HI.out.1 HI.out.2.1 HI.out.2.2.1 HI.out.2.2.2 rfl (by decide) op ll.length us rfl (((HB.out.2.2.2.gr elt_bool G1.out).1).alloc _) ⟨u1.heap.size, 0, none⟩ 1 1 _ rfl rfl (World.news_of_block (heap_new' u1 _)) (fun u hu => by obtain rfl := List.mem_singleton.1 hu; rfl) (by decide) (by unfold maxLen; have := HLN.out; omega) (by have := HLN.out; omega) (by have := G1.out.size; have := HB.out.2.1; simp; omega) _ rfl ?_
                  intro g7 cap7 w7 hown hgrow hat hlt7
                  have hl := HL.out u1 _ g7 cap7 w7 G1.out HX.out.1 rfl HX.out.2 hown hgrow hat
                  have HLEAF := Lib.hid hl.2
                  have d3 := hl.1.cell
                  have d4 := hl.1.frozen
                  clear hown hgrow hat hlt7 hl d1 d2
                  refine hK6 _ _ ?_
                  refine wpAnyIn_ready (rs := [7]) (by kernel_rfl) (by simp) ?_
                  refine AllReadyIn.cons rfl (fun K7 hK7 => ?_) ?_
                  · go_simp
                    refine hK7 _ _ ?_
                    refine wpAnyIn_done (by kernel_rfl) ?_ _
                    exact HLEAF.out
                  exact AllReadyIn.nil
                exact AllReadyIn.nil
              exact AllReadyIn.nil
            exact AllReadyIn.nil
          exact AllReadyIn.nil
        refine AllReadyIn.cons rfl (fun K2 hK2 => ?_) ?_
        · go_simp
          refine hK2 _ _ ?_
          refine wpAnyIn_ready (rs := [1]) (by kernel_rfl) (by simp) ?_
          refine AllReadyIn.cons rfl (fun K3 hK3 => ?_) ?_
          · go_simp
            refine hK3 _ _ ?_
            refine wpAnyIn_ready (rs := [4]) (by kernel_rfl) (by simp) ?_
            refine AllReadyIn.cons rfl (fun K4 hK4 => ?_) ?_
            · go_simp
              refine ⟨trivial, (HC.out _ (Gr.drew _)).mono ?_⟩
              rintro e u1 ⟨x, rfl, hx, hg1', hf1⟩
              obtain ⟨Ax, cx, ex, -⟩ := id hx
              subst ex
              have G1 := Lib.hid (Gr.trans (Gr.drew W) hg1')
              have HX := Lib.hid (And.intro hx (fun b hb => Nat.le_trans (Gr.drew W).size (hf1 b hb)))
              clear hx hf1 hg1' e0 e1 e2 e3 e4 d1 d2
              obtain ⟨-, d1, d2⟩ := KP.out _ G1.out
              refine hK4 _ _ ?_
              refine wpAnyIn_ready (rs := [5]) (by kernel_rfl) (by simp) ?_
              refine AllReadyIn.cons rfl (fun K5 hK5 => ?_) ?_
              · go_simp
                refine hK5 _ _ ?_
                refine wpAnyIn_ready (rs := [6]) (by kernel_rfl) (by simp) ?_
                refine AllReadyIn.cons rfl (fun K6 hK6 => ?_) ?_
                · refine stepIn_append_lies rfl _ _ 39 rfl (w.heap.size + 4) 44 i0 _ 1 24 Try.underlying39 HI.out.1 HI.out.2.1 HI.out.2.2.1 HI.out.2.2.2 rfl (by decide) op ll.length us rfl (((HB.out.2.2.2.gr elt_bool G1.out).1).alloc _) ⟨u1.heap.size, 0, none⟩ 1 1 _ rfl rfl (World.news_of_block (heap_new' u1 _)) (fun u hu => by obtain rfl := List.mem_singleton.1 hu; rfl) (by decide) (by unfold maxLen; have := HLN.out; omega) (by have := HLN.out; omega) (by have := G1.out.size; have := HB.out.2.1; simp; omega) _ rfl ?_
                  intro g7 cap7 w7 hown hgrow hat hlt7
                  have hl := HL.out u1 _ g7 cap7 w7 G1.out HX.out.1 rfl HX.out.2 hown hgrow hat
                  have HLEAF := Lib.hid hl.2
                  have d3 := hl.1.cell
                  have d4 := hl.1.frozen
                  clear hown hgrow hat hlt7 hl d1 d2
                  refine hK6 _ _ ?_
                  refine wpAnyIn_ready (rs := [7]) (by kernel_rfl) (by simp) ?_
                  refine AllReadyIn.cons rfl (fun K7 hK7 => ?_) ?_
                  · go_simp
                    refine hK7 _ _ ?_
                    refine wpAnyIn_done (by kernel_rfl) ?_ _
                    exact HLEAF.out
                  exact AllReadyIn.nil
                exact AllReadyIn.nil
              exact AllReadyIn.nil
            exact AllReadyIn.nil
          exact AllReadyIn.nil
        exact AllReadyIn.nil
      refine AllReadyIn.cons rfl (fun K1 hK1 => ?_) ?_
      · go_simp
        refine hK1 _ _ ?_
        refine wpAnyIn_ready (rs := [0, 3]) (by kernel_rfl) (by simp) ?_
        refine AllReadyIn.cons rfl (fun K2 hK2 => ?_) ?_
        · go_simp
          refine hK2 _ _ ?_
          refine wpAnyIn_ready (rs := [3]) (by kernel_rfl) (by simp) ?_
          refine AllReadyIn.cons rfl (fun K3 hK3 => ?_) ?_
          · go_simp
            refine hK3 _ _ ?_
            refine wpAnyIn_ready (rs := [4]) (by kernel_rfl) (by simp) ?_
            refine AllReadyIn.cons rfl (fun K4 hK4 => ?_) ?_
            · go_simp
              refine ⟨trivial, (HC.out _ (Gr.drew _)).mono ?_⟩
              rintro e u1 ⟨x, rfl, hx, hg1', hf1⟩
              obtain ⟨Ax, cx, ex, -⟩ := id hx
              subst ex
              have G1 := Lib.hid (Gr.trans (Gr.drew W) hg1')
              have HX := Lib.hid (And.intro hx (fun b hb => Nat.le_trans (Gr.drew W).size (hf1 b hb)))
              clear hx hf1 hg1' e0 e1 e2 e3 e4 d1 d2
              obtain ⟨-, d1, d2⟩ := KP.out _ G1.out
              refine hK4 _ _ ?_
              refine wpAnyIn_ready (rs := [5]) (by kernel_rfl) (by simp) ?_
              refine AllReadyIn.cons rfl (fun K5 hK5 => ?_) ?_
              · go_simp
                refine hK5 _ _ ?_
                refine wpAnyIn_ready (rs := [6]) (by kernel_rfl) (by simp) ?_
                refine AllReadyIn.cons rfl (fun K6 hK6 => ?_) ?_
                · refine stepIn_append_lies rfl _ _ 39 rfl (w.heap.size + 4) 44 i0 _ 1 24 Try.underlying39 HI.out.1 HI.out.2.1 HI.out.2.2.1 HI.out.2.2.2 rfl (by decide) op ll.length us rfl (((HB.out.2.2.2.gr elt_bool G1.out).1).alloc _) ⟨u1.heap.size, 0, none⟩ 1 1 _ rfl rfl (World.news_of_block (heap_new' u1 _)) (fun u hu => by obtain rfl := List.mem_singleton.1 hu; rfl) (by decide) (by unfold maxLen; have := HLN.out; omega) (by have := HLN.out; omega) (by have := G1.out.size; have := HB.out.2.1; simp; omega) _ rfl ?_
                  intro g7 cap7 w7 hown hgrow hat hlt7
                  have hl := HL.out u1 _ g7 cap7 w7 G1.out HX.out.1 rfl HX.out.2 hown hgrow hat
                  have HLEAF := Lib.hid hl.2
                  have d3 := hl.1.cell
                  have d4 := hl.1.frozen
                  clear hown hgrow hat hlt7 hl d1 d2
                  refine hK6 _ _ ?_
                  refine wpAnyIn_ready (rs := [7]) (by kernel_rfl) (by simp) ?_
                  refine AllReadyIn.cons rfl (fun K7 hK7 => ?_) ?_
                  · go_simp
                    refine hK7 _ _ ?_
                    refine wpAnyIn_done (by kernel_rfl) ?_ _
                    exact HLEAF.out
                  exact AllReadyIn.nil
                exact AllReadyIn.nil
              exact AllReadyIn.nil
            exact AllReadyIn.nil
          exact AllReadyIn.nil
        refine AllReadyIn.cons rfl (fun K2 hK2 => ?_) ?_
        · go_simp
          refine hK2 _ _ ?_
          refine wpAnyIn_ready (rs := [0, 4]) (by kernel_rfl) (by simp) ?_
          refine AllReadyIn.cons rfl (fun K3 hK3 => ?_) ?_
          · go_simp
            refine hK3 _ _ ?_
            refine wpAnyIn_ready (rs := [4]) (by kernel_rfl) (by simp) ?_
            refine AllReadyIn.cons rfl (fun K4 hK4 => ?_) ?_
            · go_simp
              refine ⟨trivial, (HC.out _ (Gr.drew _)).mono ?_⟩
              rintro e u1 ⟨x, rfl, hx, hg1', hf1⟩
              obtain ⟨Ax, cx, ex, -⟩ := id hx
              subst ex
              have G1 := Lib.hid (Gr.trans (Gr.drew W) hg1')
              have HX := Lib.hid (And.intro hx (fun b hb => Nat.le_trans (Gr.drew W).size (hf1 b hb)))
              clear hx hf1 hg1' e0 e1 e2 e3 e4 d1 d2
              obtain ⟨-, d1, d2⟩ := KP.out _ G1.out
              refine hK4 _ _ ?_
              refine wpAnyIn_ready (rs := [5]) (by kernel_rfl) (by simp) ?_
              refine AllReadyIn.cons rfl (fun K5 hK5 => ?_) ?_
              · go_simp
                refine hK5 _ _ ?_
                refine wpAnyIn_ready (rs := [6]) (by kernel_rfl) (by simp) ?_
                refine AllReadyIn.cons rfl (fun K6 hK6 => ?_) ?_
                · refine stepIn_append_lies rfl _ _ 39 rfl (w.heap.size + 4) 44 i0 _ 1 24 Try.underlying39 HI.out.1 HI.out.2.1 HI.out.2.2.1 HI.out.2.2.2 rfl (by decide) op ll.length us rfl (((HB.out.2.2.2.gr elt_bool G1.out).1).alloc _) ⟨u1.heap.size, 0, none⟩ 1 1 _ rfl rfl (World.news_of_block (heap_new' u1 _)) (fun u hu => by obtain rfl := List.mem_singleton.1 hu; rfl) (by decide) (by unfold maxLen; have := HLN.out; omega) (by have := HLN.out; omega) (by have := G1.out.size; have := HB.out.2.1; simp; omega) _ rfl ?_
                  intro g7 cap7 w7 hown hgrow hat hlt7
                  have hl := HL.out u1 _ g7 cap7 w7 G1.out HX.out.1 rfl HX.out.2 hown hgrow hat
                  have HLEAF := Lib.hid hl.2
                  have d3 := hl.1.cell
                  have d4 := hl.1.frozen
                  clear hown hgrow hat hlt7 hl d1 d2
                  refine hK6 _ _ ?_
                  refine wpAnyIn_ready (rs := [7]) (by kernel_rfl) (by simp) ?_
                  refine AllReadyIn.cons rfl (fun K7 hK7 => ?_) ?_
                  · go_simp
                    refine hK7 _ _ ?_
                    refine wpAnyIn_done (by kernel_rfl) ?_ _
                    exact HLEAF.out
                  exact AllReadyIn.nil
                exact AllReadyIn.nil
              exact AllReadyIn.nil
            exact AllReadyIn.nil
          refine AllReadyIn.cons rfl (fun K3 hK3 => ?_) ?_
          · go_simp
            refine ⟨trivial, (HC.out _ (Gr.drew _)).mono ?_⟩
            rintro e u1 ⟨x, rfl, hx, hg1', hf1⟩
            obtain ⟨Ax, cx, ex, -⟩ := id hx
            subst ex
            have G1 := Lib.hid (Gr.trans (Gr.drew W) hg1')
            have HX := Lib.hid (And.intro hx (fun b hb => Nat.le_trans (Gr.drew W).size (hf1 b hb)))
            clear hx hf1 hg1' e0 e1 e2 e3 e4 d1 d2
            obtain ⟨-, d1, d2⟩ := KP.out _ G1.out
            refine hK3 _ _ ?_
            refine wpAnyIn_ready (rs := [0, 5]) (by kernel_rfl) (by simp) ?_
            refine AllReadyIn.cons rfl (fun K4 hK4 => ?_) ?_
            · go_simp
              refine hK4 _ _ ?_
              refine wpAnyIn_ready (rs := [5]) (by kernel_rfl) (by simp) ?_
              refine AllReadyIn.cons rfl (fun K5 hK5 => ?_) ?_
              · go_simp
                refine hK5 _ _ ?_
                refine wpAnyIn_ready (rs := [6]) (by kernel_rfl) (by simp) ?_
                refine AllReadyIn.cons rfl (fun K6 hK6 => ?_) ?_
                · refine stepIn_append_lies rfl _ _ 39 rfl (w.heap.size + 4) 44 i0 _ 1 24 Try.underlying39 HI.out.1 HI.out.2.1 HI.out.2.2.1 HI.out.2.2.2 rfl (by decide) op ll.length us rfl (((HB.out.2.2.2.gr elt_bool G1.out).1).alloc _) ⟨u1.heap.size, 0, none⟩ 1 1 _ rfl rfl (World.news_of_block (heap_new' u1 _)) (fun u hu => by obtain rfl := List.mem_singleton.1 hu; rfl) (by decide) (by unfold maxLen; have := HLN.out; omega) (by have := HLN.out; omega) (by have := G1.out.size; have := HB.out.2.1; simp; omega) _ rfl ?_
                  intro g7 cap7 w7 hown hgrow hat hlt7
                  have hl := HL.out u1 _ g7 cap7 w7 G1.out HX.out.1 rfl HX.out.2 hown hgrow hat
                  have HLEAF := Lib.hid hl.2
                  have d3 := hl.1.cell
                  have d4 := hl.1.frozen
                  clear hown hgrow hat hlt7 hl d1 d2
                  refine hK6 _ _ ?_
                  refine wpAnyIn_ready (rs := [7]) (by kernel_rfl) (by simp) ?_
                  refine AllReadyIn.cons rfl (fun K7 hK7 => ?_) ?_
                  · go_simp
                    refine hK7 _ _ ?_
                    refine wpAnyIn_done (by kernel_rfl) ?_ _
                    exact HLEAF.out
                  exact AllReadyIn.nil
                exact AllReadyIn.nil
              exact AllReadyIn.nil
            refine AllReadyIn.cons rfl (fun K4 hK4 => ?_) ?_
            · go_simp
              refine hK4 _ _ ?_
              refine wpAnyIn_ready (rs := [0]) (by kernel_rfl) (by simp) ?_
              refine AllReadyIn.cons rfl (fun K5 hK5 => ?_) ?_
              · have d5 := (KP.out _ (Gr.trans G1.out (bel_alloc u1 (.cells #[.slice Ax (bitsAt n t k).length cx] 44)))).2.1
                go_simp
                clear d5
                refine hK5 _ _ ?_
                refine wpAnyIn_ready (rs := [6]) (by kernel_rfl) (by simp) ?_
                refine AllReadyIn.cons rfl (fun K6 hK6 => ?_) ?_
                · refine stepIn_append_lies rfl _ _ 39 rfl (w.heap.size + 4) 44 i0 _ 1 24 Try.underlying39 HI.out.1 HI.out.2.1 HI.out.2.2.1 HI.out.2.2.2 rfl (by decide) op ll.length us rfl (((HB.out.2.2.2.gr elt_bool G1.out).1).alloc _) ⟨u1.heap.size, 0, none⟩ 1 1 _ rfl rfl (World.news_of_block (heap_new' u1 _)) (fun u hu => by obtain rfl := List.mem_singleton.1 hu; rfl) (by decide) (by unfold maxLen; have := HLN.out; omega) (by have := HLN.out; omega) (by have := G1.out.size; have := HB.out.2.1; simp; omega) _ rfl ?_
                  intro g7 cap7 w7 hown hgrow hat hlt7
                  have hl := HL.out u1 _ g7 cap7 w7 G1.out HX.out.1 rfl HX.out.2 hown hgrow hat
                  have HLEAF := Lib.hid hl.2
                  have d3 := hl.1.cell
                  have d4 := hl.1.frozen
                  clear hown hgrow hat hlt7 hl d1 d2
                  refine hK6 _ _ ?_
                  refine wpAnyIn_ready (rs := [7]) (by kernel_rfl) (by simp) ?_
                  refine AllReadyIn.cons rfl (fun K7 hK7 => ?_) ?_
                  · go_simp
                    refine hK7 _ _ ?_
                    refine wpAnyIn_done (by kernel_rfl) ?_ _
                    exact HLEAF.out
                  exact AllReadyIn.nil
                exact AllReadyIn.nil
              exact AllReadyIn.nil
            exact AllReadyIn.nil
          exact AllReadyIn.nil
        exact AllReadyIn.nil
      refine AllReadyIn.cons rfl (fun K1 hK1 => ?_) ?_
      · go_simp
        refine hK1 _ _ ?_
        refine wpAnyIn_ready (rs := [0, 1]) (by kernel_rfl) (by simp) ?_
        refine AllReadyIn.cons rfl (fun K2 hK2 => ?_) ?_
        · go_simp
          refine hK2 _ _ ?_
          refine wpAnyIn_ready (rs := [1]) (by kernel_rfl) (by simp) ?_
          refine AllReadyIn.cons rfl (fun K3 hK3 => ?_) ?_
          · go_simp
            refine hK3 _ _ ?_
            refine wpAnyIn_ready (rs := [4]) (by kernel_rfl) (by simp) ?_
            refine AllReadyIn.cons rfl (fun K4 hK4 => ?_) ?_
            · go_simp
              refine ⟨trivial, (HC.out _ (Gr.drew _)).mono ?_⟩
              rintro e u1 ⟨x, rfl, hx, hg1', hf1⟩
              obtain ⟨Ax, cx, ex, -⟩ := id hx
              subst ex
              have G1 := Lib.hid (Gr.trans (Gr.drew W) hg1')
              have HX := Lib.hid (And.intro hx (fun b hb => Nat.le_trans (Gr.drew W).size (hf1 b hb)))
              clear hx hf1 hg1' e0 e1 e2 e3 e4 d1 d2
              obtain ⟨-, d1, d2⟩ := KP.out _ G1.out
              refine hK4 _ _ ?_
              refine wpAnyIn_ready (rs := [5]) (by kernel_rfl) (by simp) ?_
              refine AllReadyIn.cons rfl (fun K5 hK5 => ?_) ?_
              · go_simp
                refine hK5 _ _ ?_
                refine wpAnyIn_ready (rs := [6]) (by kernel_rfl) (by simp) ?_
                refine AllReadyIn.cons rfl (fun K6 hK6 => ?_) ?_
                · refine stepIn_append_lies rfl _ _ 39 rfl (w.heap.size + 4) 44 i0 _ 1 24 Try.underlying39 HI.out.1 HI.out.2.1 HI.out.2.2.1 HI.out.2.2.2 rfl (by decide) op ll.length us rfl (((HB.out.2.2.2.gr elt_bool G1.out).1).alloc _) ⟨u1.heap.size, 0, none⟩ 1 1 _ rfl rfl (World.news_of_block (heap_new' u1 _)) (fun u hu => by obtain rfl := List.mem_singleton.1 hu; rfl) (by decide) (by unfold maxLen; have := HLN.out; omega) (by have := HLN.out; omega) (by have := G1.out.size; have := HB.out.2.1; simp; omega) _ rfl ?_
                  intro g7 cap7 w7 hown hgrow hat hlt7
                  have hl := HL.out u1 _ g7 cap7 w7 G1.out HX.out.1 rfl HX.out.2 hown hgrow hat
                  have HLEAF := Lib.hid hl.2
                  have d3 := hl.1.cell
                  have d4 := hl.1.frozen
                  clear hown hgrow hat hlt7 hl d1 d2
                  refine hK6 _ _ ?_
                  refine wpAnyIn_ready (rs := [7]) (by kernel_rfl) (by simp) ?_
                  refine AllReadyIn.cons rfl (fun K7 hK7 => ?_) ?_
                  · go_simp
                    refine hK7 _ _ ?_
                    refine wpAnyIn_done (by kernel_rfl) ?_ _
                    exact HLEAF.out
                  exact AllReadyIn.nil
                exact AllReadyIn.nil
              exact AllReadyIn.nil
            exact AllReadyIn.nil
          exact AllReadyIn.nil
        refine AllReadyIn.cons rfl (fun K2 hK2 => ?_) ?_
        · go_simp
          refine hK2 _ _ ?_
          refine wpAnyIn_ready (rs := [0, 4]) (by kernel_rfl) (by simp) ?_
          refine AllReadyIn.cons rfl (fun K3 hK3 => ?_) ?_
          · go_simp
            refine hK3 _ _ ?_
            refine wpAnyIn_ready (rs := [4]) (by kernel_rfl) (by simp) ?_
            refine AllReadyIn.cons rfl (fun K4 hK4 => ?_) ?_
            · go_simp
              refine ⟨trivial, (HC.out _ (Gr.drew _)).mono ?_⟩
              rintro e u1 ⟨x, rfl, hx, hg1', hf1⟩
              obtain ⟨Ax, cx, ex, -⟩ := id hx
              subst ex
              have G1 := Lib.hid (Gr.trans (Gr.drew W) hg1')
              have HX := Lib.hid (And.intro hx (fun b hb => Nat.le_trans (Gr.drew W).size (hf1 b hb)))
              clear hx hf1 hg1' e0 e1 e2 e3 e4 d1 d2
              obtain ⟨-, d1, d2⟩ := KP.out _ G1.out
              refine hK4 _ _ ?_
              refine wpAnyIn_ready (rs := [5]) (by kernel_rfl) (by simp) ?_
              refine AllReadyIn.cons rfl (fun K5 hK5 => ?_) ?_
              · go_simp
                refine hK5 _ _ ?_
                refine wpAnyIn_ready (rs := [6]) (by kernel_rfl) (by simp) ?_
                refine AllReadyIn.cons rfl (fun K6 hK6 => ?_) ?_
                · refine stepIn_append_lies rfl _ _ 39 rfl (w.heap.size + 4) 44 i0 _ 1 24 Try.underlying39 HI.out.1 HI.out.2.1 HI.out.2.2.1 HI.out.2.2.2 rfl (by decide) op ll.length us rfl (((HB.out.2.2.2.gr elt_bool G1.out).1).alloc _) ⟨u1.heap.size, 0, none⟩ 1 1 _ rfl rfl (World.news_of_block (heap_new' u1 _)) (fun u hu => by obtain rfl := List.mem_singleton.1 hu; rfl) (by decide) (by unfold maxLen; have := HLN.out; omega) (by have := HLN.out; omega) (by have := G1.out.size; have := HB.out.2.1; simp; omega) _ rfl ?_
                  intro g7 cap7 w7 hown hgrow hat hlt7
                  have hl := HL.out u1 _ g7 cap7 w7 G1.out HX.out.1 rfl HX.out.2 hown hgrow hat
                  have HLEAF := Lib.hid hl.2
                  have d3 := hl.1.cell
                  have d4 := hl.1.frozen
                  clear hown hgrow hat hlt7 hl d1 d2
                  refine hK6 _ _ ?_
                  refine wpAnyIn_ready (rs := [7]) (by kernel_rfl) (by simp) ?_
                  refine AllReadyIn.cons rfl (fun K7 hK7 => ?_) ?_
                  · go_simp
                    refine hK7 _ _ ?_
                    refine wpAnyIn_done (by kernel_rfl) ?_ _
                    exact HLEAF.out
                  exact AllReadyIn.nil
                exact AllReadyIn.nil
              exact AllReadyIn.nil
            exact AllReadyIn.nil
          refine AllReadyIn.cons rfl (fun K3 hK3 => ?_) ?_
          · go_simp
            refine ⟨trivial, (HC.out _ (Gr.drew _)).mono ?_⟩
            rintro e u1 ⟨x, rfl, hx, hg1', hf1⟩
            obtain ⟨Ax, cx, ex, -⟩ := id hx
            subst ex
            have G1 := Lib.hid (Gr.trans (Gr.drew W) hg1')
            have HX := Lib.hid (And.intro hx (fun b hb => Nat.le_trans (Gr.drew W).size (hf1 b hb)))
            clear hx hf1 hg1' e0 e1 e2 e3 e4 d1 d2
            obtain ⟨-, d1, d2⟩ := KP.out _ G1.out
            refine hK3 _ _ ?_
            refine wpAnyIn_ready (rs := [0, 5]) (by kernel_rfl) (by simp) ?_
            refine AllReadyIn.cons rfl (fun K4 hK4 => ?_) ?_
            · go_simp
              refine hK4 _ _ ?_
              refine wpAnyIn_ready (rs := [5]) (by kernel_rfl) (by simp) ?_
              refine AllReadyIn.cons rfl (fun K5 hK5 => ?_) ?_
              · go_simp
                refine hK5 _ _ ?_
                refine wpAnyIn_ready (rs := [6]) (by kernel_rfl) (by simp) ?_
                refine AllReadyIn.cons rfl (fun K6 hK6 => ?_) ?_
                · refine stepIn_append_lies rfl _ _ 39 rfl (w.heap.size + 4) 44 i0 _ 1 24 Try.underlying39 HI.out.1 HI.out.2.1 HI.out.2.2.1 HI.out.2.2.2 rfl (by decide) op ll.length us rfl (((HB.out.2.2.2.gr elt_bool G1.out).1).alloc _) ⟨u1.heap.size, 0, none⟩ 1 1 _ rfl rfl (World.news_of_block (heap_new' u1 _)) (fun u hu => by obtain rfl := List.mem_singleton.1 hu; rfl) (by decide) (by unfold maxLen; have := HLN.out; omega) (by have := HLN.out; omega) (by have := G1.out.size; have := HB.out.2.1; simp; omega) _ rfl ?_
                  intro g7 cap7 w7 hown hgrow hat hlt7
                  have hl := HL.out u1 _ g7 cap7 w7 G1.out HX.out.1 rfl HX.out.2 hown hgrow hat
                  have HLEAF := Lib.hid hl.2
                  have d3 := hl.1.cell
                  have d4 := hl.1.frozen
                  clear hown hgrow hat hlt7 hl d1 d2
                  refine hK6 _ _ ?_
                  refine wpAnyIn_ready (rs := [7]) (by kernel_rfl) (by simp) ?_
                  refine AllReadyIn.cons rfl (fun K7 hK7 => ?_) ?_
                  · go_simp
                    refine hK7 _ _ ?_
                    refine wpAnyIn_done (by kernel_rfl) ?_ _
                    exact HLEAF.out
                  exact AllReadyIn.nil
                exact AllReadyIn.nil
              exact AllReadyIn.nil
            refine AllReadyIn.cons rfl (fun K4 hK4 => ?_) ?_
            · go_simp
              refine hK4 _ _ ?_
              refine wpAnyIn_ready (rs := [0]) (by kernel_rfl) (by simp) ?_
              refine AllReadyIn.cons rfl (fun K5 hK5 => ?_) ?_
              · have d5 := (KP.out _ (Gr.trans G1.out (bel_alloc u1 (.cells #[.slice Ax (bitsAt n t k).length cx] 44)))).2.1
                go_simp
                clear d5
                refine hK5 _ _ ?_
                refine wpAnyIn_ready (rs := [6]) (by kernel_rfl) (by simp) ?_
                refine AllReadyIn.cons rfl (fun K6 hK6 => ?_) ?_
                · refine stepIn_append_lies rfl _ _ 39 rfl (w.heap.size + 4) 44 i0 _ 1 24 Try.underlying39 HI.out.1 HI.out.2.1 HI.out.2.2.1 HI.out.2.2.2 rfl (by decide) op ll.length us rfl (((HB.out.2.2.2.gr elt_bool G1.out).1).alloc _) ⟨u1.heap.size, 0, none⟩ 1 1 _ rfl rfl (World.news_of_block (heap_new' u1 _)) (fun u hu => by obtain rfl := List.mem_singleton.1 hu; rfl) (by decide) (by unfold maxLen; have := HLN.out; omega) (by have := HLN.out; omega) (by have := G1.out.size; have := HB.out.2.1; simp; omega) _ rfl ?_
                  intro g7 cap7 w7 hown hgrow hat hlt7
                  have hl := HL.out u1 _ g7 cap7 w7 G1.out HX.out.1 rfl HX.out.2 hown hgrow hat
                  have HLEAF := Lib.hid hl.2
                  have d3 := hl.1.cell
                  have d4 := hl.1.frozen
                  clear hown hgrow hat hlt7 hl d1 d2
                  refine hK6 _ _ ?_
                  refine wpAnyIn_ready (rs := [7]) (by kernel_rfl) (by simp) ?_
                  refine AllReadyIn.cons rfl (fun K7 hK7 => ?_) ?_
                  · go_simp
                    refine hK7 _ _ ?_
                    refine wpAnyIn_done (by kernel_rfl) ?_ _
                    exact HLEAF.out
                  exact AllReadyIn.nil
                exact AllReadyIn.nil
              exact AllReadyIn.nil
            exact AllReadyIn.nil
          exact AllReadyIn.nil
        exact AllReadyIn.nil
      exact AllReadyIn.nil
    refine AllReadyIn.cons rfl (fun K0 hK0 => ?_) ?_
    · go_simp
      refine hK0 _ _ ?_
      refine wpAnyIn_ready (rs := [0, 1, 2]) (by kernel_rfl) (by simp) ?_
      refine AllReadyIn.cons rfl (fun K1 hK1 => ?_) ?_
      · go_simp
        refine hK1 _ _ ?_
        refine wpAnyIn_ready (rs := [1, 2]) (by kernel_rfl) (by simp) ?_
        refine AllReadyIn.cons rfl (fun K2 hK2 => ?_) ?_
        · go_simp
          refine hK2 _ _ ?_
          refine wpAnyIn_ready (rs := [2]) (by kernel_rfl) (by simp) ?_
          refine AllReadyIn.cons rfl (fun K3 hK3 => ?_) ?_
          · go_simp
            refine hK3 _ _ ?_
            refine wpAnyIn_ready (rs := [4]) (by kernel_rfl) (by simp) ?_
            refine AllReadyIn.cons rfl (fun K4 hK4 => ?_) ?_
            · go_simp
              refine ⟨trivial, (HC.out _ (Gr.drew _)).mono ?_⟩
              rintro e u1 ⟨x, rfl, hx, hg1', hf1⟩
              obtain ⟨Ax, cx, ex, -⟩ := id hx
              subst ex
              have G1 := Lib.hid (Gr.trans (Gr.drew W) hg1')
              have HX := Lib.hid (And.intro hx (fun b hb => Nat.le_trans (Gr.drew W).size (hf1 b hb)))
              clear hx hf1 hg1' e0 e1 e2 e3 e4 d1 d2
              obtain ⟨-, d1, d2⟩ := KP.out _ G1.out
              refine hK4 _ _ ?_
              refine wpAnyIn_ready (rs := [5]) (by kernel_rfl) (by simp) ?_
              refine AllReadyIn.cons rfl (fun K5 hK5 => ?_) ?_
              · go_simp
                refine hK5 _ _ ?_
                refine wpAnyIn_ready (rs := [6]) (by kernel_rfl) (by simp) ?_
                refine AllReadyIn.cons rfl (fun K6 hK6 => ?_) ?_
                · refine stepIn_append_lies rfl _ _ 39 rfl (w.heap.size + 4) 44 i0 _ 1 24 Try.underlying39 HI.out.1 HI.out.2.1 HI.out.2.2.1 HI.out.2.2.2 rfl (by decide) op ll.length us rfl (((HB.out.2.2.2.gr elt_bool G1.out).1).alloc _) ⟨u1.heap.size, 0, none⟩ 1 1 _ rfl rfl (World.news_of_block (heap_new' u1 _)) (fun u hu => by obtain rfl := List.mem_singleton.1 hu; rfl) (by decide) (by unfold maxLen; have := HLN.out; omega) (by have := HLN.out; omega) (by have := G1.out.size; have := HB.out.2.1; simp; omega) _ rfl ?_
                  intro g7 cap7 w7 hown hgrow hat hlt7
                  have hl := HL.out u1 _ g7 cap7 w7 G1.out HX.out.1 rfl HX.out.2 hown hgrow hat
                  have HLEAF := Lib.hid hl.2
                  have d3 := hl.1.cell
                  have d4 := hl.1.frozen
                  clear hown hgrow hat hlt7 hl d1 d2
                  refine hK6 _ _ ?_
                  refine wpAnyIn_ready (rs := [7]) (by kernel_rfl) (by simp) ?_
                  refine AllReadyIn.cons rfl (fun K7 hK7 => ?_) ?_
                  · go_simp
                    refine hK7 _ _ ?_
                    refine wpAnyIn_done (by kernel_rfl) ?_ _
                    exact HLEAF.out
                  exact AllReadyIn.nil
                exact AllReadyIn.nil
              exact AllReadyIn.nil
            exact AllReadyIn.nil
          exact AllReadyIn.nil
        refine AllReadyIn.cons rfl (fun K2 hK2 => ?_) ?_
        · go_simp
          refine hK2 _ _ ?_
          refine wpAnyIn_ready (rs := [1]) (by kernel_rfl) (by simp) ?_
          refine AllReadyIn.cons rfl (fun K3 hK3 => ?_) ?_
          · go_simp
            refine hK3 _ _ ?_
            refine wpAnyIn_ready (rs := [4]) (by kernel_rfl) (by simp) ?_
            refine AllReadyIn.cons rfl (fun K4 hK4 => ?_) ?_
            · go_simp
              refine ⟨trivial, (HC.out _ (Gr.drew _)).mono ?_⟩
              rintro e u1 ⟨x, rfl, hx, hg1', hf1⟩
              obtain ⟨Ax, cx, ex, -⟩ := id hx
              subst ex
              have G1 := Lib.hid (Gr.trans (Gr.drew W) hg1')
              have HX := Lib.hid (And.intro hx (fun b hb => Nat.le_trans (Gr.drew W).size (hf1 b hb)))
              clear hx hf1 hg1' e0 e1 e2 e3 e4 d1 d2
              obtain ⟨-, d1, d2⟩ := KP.out _ G1.out
              refine hK4 _ _ ?_
              refine wpAnyIn_ready (rs := [5]) (by kernel_rfl) (by simp) ?_
              refine AllReadyIn.cons rfl (fun K5 hK5 => ?_) ?_
              · go_simp
                refine hK5 _ _ ?_
                refine wpAnyIn_ready (rs := [6]) (by kernel_rfl) (by simp) ?_
                refine AllReadyIn.cons rfl (fun K6 hK6 => ?_) ?_
                · refine stepIn_append_lies rfl _ _ 39 rfl (w.heap.size + 4) 44 i0 _ 1 24 Try.underlying39 HI.out.1 HI.out.2.1 HI.out.2.2.1 HI.out.2.2.2 rfl (by decide) op ll.length us rfl (((HB.out.2.2.2.gr elt_bool G1.out).1).alloc _) ⟨u1.heap.size, 0, none⟩ 1 1 _ rfl rfl (World.news_of_block (heap_new' u1 _)) (fun u hu => by obtain rfl := List.mem_singleton.1 hu; rfl) (by decide) (by unfold maxLen; have := HLN.out; omega) (by have := HLN.out; omega) (by have := G1.out.size; have := HB.out.2.1; simp; omega) _ rfl ?_
                  intro g7 cap7 w7 hown hgrow hat hlt7
                  have hl := HL.out u1 _ g7 cap7 w7 G1.out HX.out.1 rfl HX.out.2 hown hgrow hat
                  have HLEAF := Lib.hid hl.2
                  have d3 := hl.1.cell
                  have d4 := hl.1.frozen
                  clear hown hgrow hat hlt7 hl d1 d2
                  refine hK6 _ _ ?_
                  refine wpAnyIn_ready (rs := [7]) (by kernel_rfl) (by simp) ?_
                  refine AllReadyIn.cons rfl (fun K7 hK7 => ?_) ?_
                  · go_simp
                    refine hK7 _ _ ?_
                    refine wpAnyIn_done (by kernel_rfl) ?_ _
                    exact HLEAF.out
                  exact AllReadyIn.nil
                exact AllReadyIn.nil
              exact AllReadyIn.nil
            exact AllReadyIn.nil
          exact AllReadyIn.nil
        exact AllReadyIn.nil
      refine AllReadyIn.cons rfl (fun K1 hK1 => ?_) ?_
      · go_simp
        refine hK1 _ _ ?_
        refine wpAnyIn_ready (rs := [0, 2]) (by kernel_rfl) (by simp) ?_
        refine AllReadyIn.cons rfl (fun K2 hK2 => ?_) ?_
        · go_simp
          refine hK2 _ _ ?_
          refine wpAnyIn_ready (rs := [2]) (by kernel_rfl) (by simp) ?_
          refine AllReadyIn.cons rfl (fun K3 hK3 => ?_) ?_
          · go_simp
            refine hK3 _ _ ?_
            refine wpAnyIn_ready (rs := [4]) (by kernel_rfl) (by simp) ?_
            refine AllReadyIn.cons rfl (fun K4 hK4 => ?_) ?_
            · go_simp
              refine ⟨trivial, (HC.out _ (Gr.drew _)).mono ?_⟩
              rintro e u1 ⟨x, rfl, hx, hg1', hf1⟩
              obtain ⟨Ax, cx, ex, -⟩ := id hx
              subst ex
              have G1 := Lib.hid (Gr.trans (Gr.drew W) hg1')
              have HX := Lib.hid (And.intro hx (fun b hb => Nat.le_trans (Gr.drew W).size (hf1 b hb)))
              clear hx hf1 hg1' e0 e1 e2 e3 e4 d1 d2
              obtain ⟨-, d1, d2⟩ := KP.out _ G1.out
              refine hK4 _ _ ?_
              refine wpAnyIn_ready (rs := [5]) (by kernel_rfl) (by simp) ?_
              refine AllReadyIn.cons rfl (fun K5 hK5 => ?_) ?_
              · go_simp
                refine hK5 _ _ ?_
                refine wpAnyIn_ready (rs := [6]) (by kernel_rfl) (by simp) ?_
                refine AllReadyIn.cons rfl (fun K6 hK6 => ?_) ?_
                · refine stepIn_append_lies rfl _ _ 39 rfl (w.heap.size + 4) 44 i0 _ 1 24 Try.underlying39 HI.out.1 HI.out.2.1 HI.out.2.2.1 HI.out.2.2.2 rfl (by decide) op ll.length us rfl (((HB.out.2.2.2.gr elt_bool G1.out).1).alloc _) ⟨u1.heap.size, 0, none⟩ 1 1 _ rfl rfl (World.news_of_block (heap_new' u1 _)) (fun u hu => by obtain rfl := List.mem_singleton.1 hu; rfl) (by decide) (by unfold maxLen; have := HLN.out; omega) (by have := HLN.out; omega) (by have := G1.out.size; have := HB.out.2.1; simp; omega) _ rfl ?_
                  intro g7 cap7 w7 hown hgrow hat hlt7
                  have hl := HL.out u1 _ g7 cap7 w7 G1.out HX.out.1 rfl HX.out.2 hown hgrow hat
                  have HLEAF := Lib.hid hl.2
                  have d3 := hl.1.cell
                  have d4 := hl.1.frozen
                  clear hown hgrow hat hlt7 hl d1 d2
                  refine hK6 _ _ ?_
                  refine wpAnyIn_ready (rs := [7]) (by kernel_rfl) (by simp) ?_
                  refine AllReadyIn.cons rfl (fun K7 hK7 => ?_) ?_
                  · go_simp
                    refine hK7 _ _ ?_
                    refine wpAnyIn_done (by kernel_rfl) ?_ _
                    exact HLEAF.out
                  exact AllReadyIn.nil
                exact AllReadyIn.nil
              exact AllReadyIn.nil
            exact AllReadyIn.nil
          exact AllReadyIn.nil
        refine AllReadyIn.cons rfl (fun K2 hK2 => ?_) ?_
        · go_simp
          refine hK2 _ _ ?_
          refine wpAnyIn_ready (rs := [0, 4]) (by kernel_rfl) (by simp) ?_
          refine AllReadyIn.cons rfl (fun K3 hK3 => ?_) ?_
          · go_simp
            refine hK3 _ _ ?_
            refine wpAnyIn_ready (rs := [4]) (by kernel_rfl) (by simp) ?_
            refine AllReadyIn.cons rfl (fun K4 hK4 => ?_) ?_
            · go_simp
              refine ⟨trivial, (HC.out _ (Gr.drew _)).mono ?_⟩
              rintro e u1 ⟨x, rfl, hx, hg1', hf1⟩
              obtain ⟨Ax, cx, ex, -⟩ := id hx
              subst ex
              have G1 := Lib.hid (Gr.trans (Gr.drew W) hg1')
              have HX := Lib.hid (And.intro hx (fun b hb => Nat.le_trans (Gr.drew W).size (hf1 b hb)))
              clear hx hf1 hg1' e0 e1 e2 e3 e4 d1 d2
              obtain ⟨-, d1, d2⟩ := KP.out _ G1.out
              refine hK4 _ _ ?_
              refine wpAnyIn_ready (rs := [5]) (by kernel_rfl) (by simp) ?_
              refine AllReadyIn.cons rfl (fun K5 hK5 => ?_) ?_
              · go_simp
                refine hK5 _ _ ?_
                refine wpAnyIn_ready (rs := [6]) (by kernel_rfl) (by simp) ?_
                refine AllReadyIn.cons rfl (fun K6 hK6 => ?_) ?_
                · refine stepIn_append_lies rfl _ _ 39 rfl (w.heap.size + 4) 44 i0 _ 1 24 Try.underlying39 HI.out.1 HI.out.2.1 HI.out.2.2.1 HI.out.2.2.2 rfl (by decide) op ll.length us rfl (((HB.out.2.2.2.gr elt_bool G1.out).1).alloc _) ⟨u1.heap.size, 0, none⟩ 1 1 _ rfl rfl (World.news_of_block (heap_new' u1 _)) (fun u hu => by obtain rfl := List.mem_singleton.1 hu; rfl) (by decide) (by unfold maxLen; have := HLN.out; omega) (by have := HLN.out; omega) (by have := G1.out.size; have := HB.out.2.1; simp; omega) _ rfl ?_
                  intro g7 cap7 w7 hown hgrow hat hlt7
                  have hl := HL.out u1 _ g7 cap7 w7 G1.out HX.out.1 rfl HX.out.2 hown hgrow hat
                  have HLEAF := Lib.hid hl.2
                  have d3 := hl.1.cell
                  have d4 := hl.1.frozen
                  clear hown hgrow hat hlt7 hl d1 d2
                  refine hK6 _ _ ?_
                  refine wpAnyIn_ready (rs := [7]) (by kernel_rfl) (by simp) ?_
                  refine AllReadyIn.cons rfl (fun K7 hK7 => ?_) ?_
                  · go_simp
                    refine hK7 _ _ ?_
                    refine wpAnyIn_done (by kernel_rfl) ?_ _
                    exact HLEAF.out
                  exact AllReadyIn.nil
                exact AllReadyIn.nil
              exact AllReadyIn.nil
            exact AllReadyIn.nil
          refine AllReadyIn.cons rfl (fun K3 hK3 => ?_) ?_
          · go_simp
            refine ⟨trivial, (HC.out _ (Gr.drew _)).mono ?_⟩
            rintro e u1 ⟨x, rfl, hx, hg1', hf1⟩
            obtain ⟨Ax, cx, ex, -⟩ := id hx
            subst ex
            have G1 := Lib.hid (Gr.trans (Gr.drew W) hg1')
            have HX := Lib.hid (And.intro hx (fun b hb => Nat.le_trans (Gr.drew W).size (hf1 b hb)))
            clear hx hf1 hg1' e0 e1 e2 e3 e4 d1 d2
            obtain ⟨-, d1, d2⟩ := KP.out _ G1.out
            refine hK3 _ _ ?_
            refine wpAnyIn_ready (rs := [0, 5]) (by kernel_rfl) (by simp) ?_
            refine AllReadyIn.cons rfl (fun K4 hK4 => ?_) ?_
            · go_simp
              refine hK4 _ _ ?_
              refine wpAnyIn_ready (rs := [5]) (by kernel_rfl) (by simp) ?_
              refine AllReadyIn.cons rfl (fun K5 hK5 => ?_) ?_
              · go_simp
                refine hK5 _ _ ?_
                refine wpAnyIn_ready (rs := [6]) (by kernel_rfl) (by simp) ?_
                refine AllReadyIn.cons rfl (fun K6 hK6 => ?_) ?_
                · refine stepIn_append_lies rfl _ _ 39 rfl (w.heap.size + 4) 44 i0 _ 1 24 Try.underlying39 HI.out.1 HI.out.2.1 HI.out.2.2.1 HI.out.2.2.2 rfl (by decide) op ll.length us rfl (((HB.out.2.2.2.gr elt_bool G1.out).1).alloc _) ⟨u1.heap.size, 0, none⟩ 1 1 _ rfl rfl (World.news_of_block (heap_new' u1 _)) (fun u hu => by obtain rfl := List.mem_singleton.1 hu; rfl) (by decide) (by unfold maxLen; have := HLN.out; omega) (by have := HLN.out; omega) (by have := G1.out.size; have := HB.out.2.1; simp; omega) _ rfl ?_
                  intro g7 cap7 w7 hown hgrow hat hlt7
                  have hl := HL.out u1 _ g7 cap7 w7 G1.out HX.out.1 rfl HX.out.2 hown hgrow hat
                  have HLEAF := Lib.hid hl.2
                  have d3 := hl.1.cell
                  have d4 := hl.1.frozen
                  clear hown hgrow hat hlt7 hl d1 d2
                  refine hK6 _ _ ?_
                  refine wpAnyIn_ready (rs := [7]) (by kernel_rfl) (by simp) ?_
                  refine AllReadyIn.cons rfl (fun K7 hK7 => ?_) ?_
                  · go_simp
                    refine hK7 _ _ ?_
                    refine wpAnyIn_done (by kernel_rfl) ?_ _
                    exact HLEAF.out
                  exact AllReadyIn.nil
                exact AllReadyIn.nil
              exact AllReadyIn.nil
            refine AllReadyIn.cons rfl (fun K4 hK4 => ?_) ?_
            · go_simp
              refine hK4 _ _ ?_
              refine wpAnyIn_ready (rs := [0]) (by kernel_rfl) (by simp) ?_
              refine AllReadyIn.cons rfl (fun K5 hK5 => ?_) ?_
              · have d5 := (KP.out _ (Gr.trans G1.out (bel_alloc u1 (.cells #[.slice Ax (bitsAt n t k).length cx] 44)))).2.1
                go_simp
                clear d5
                refine hK5 _ _ ?_
                refine wpAnyIn_ready (rs := [6]) (by kernel_rfl) (by simp) ?_
                refine AllReadyIn.cons rfl (fun K6 hK6 => ?_) ?_
                · refine stepIn_append_lies rfl _ _ 39 rfl (w.heap.size + 4) 44 i0 _ 1 24 Try.underlying39 HI.out.1 HI.out.2.1 HI.out.2.2.1 HI.out.2.2.2 rfl (by decide) op ll.length us rfl (((HB.out.2.2.2.gr elt_bool G1.out).1).alloc _) ⟨u1.heap.size, 0, none⟩ 1 1 _ rfl rfl (World.news_of_block (heap_new' u1 _)) (fun u hu => by obtain rfl := List.mem_singleton.1 hu; rfl) (by decide) (by unfold maxLen; have := HLN.out; omega) (by have := HLN.out; omega) (by have := G1.out.size; have := HB.out.2.1; simp; omega) _ rfl ?_
                  intro g7 cap7 w7 hown hgrow hat hlt7
                  have hl := HL.out u1 _ g7 cap7 w7 G1.out HX.out.1 rfl HX.out.2 hown hgrow hat
                  have HLEAF := Lib.hid hl.2
                  have d3 := hl.1.cell
                  have d4 := hl.1.frozen
                  clear hown hgrow hat hlt7 hl d1 d2
                  refine hK6 _ _ ?_
                  refine wpAnyIn_ready (rs := [7]) (by kernel_rfl) (by simp) ?_
                  refine AllReadyIn.cons rfl (fun K7 hK7 => ?_) ?_
                  · go_simp
                    refine hK7 _ _ ?_
                    refine wpAnyIn_done (by kernel_rfl) ?_ _
                    exact HLEAF.out
                  exact AllReadyIn.nil
                exact AllReadyIn.nil
              exact AllReadyIn.nil
            exact AllReadyIn.nil
          exact AllReadyIn.nil
        exact AllReadyIn.nil
      refine AllReadyIn.cons rfl (fun K1 hK1 => ?_) ?_
      · go_simp
        refine hK1 _ _ ?_
        refine wpAnyIn_ready (rs := [0, 1]) (by kernel_rfl) (by simp) ?_
        refine AllReadyIn.cons rfl (fun K2 hK2 => ?_) ?_
        · go_simp
          refine hK2 _ _ ?_
          refine wpAnyIn_ready (rs := [1]) (by kernel_rfl) (by simp) ?_
          refine AllReadyIn.cons rfl (fun K3 hK3 => ?_) ?_
          · go_simp
            refine hK3 _ _ ?_
            refine wpAnyIn_ready (rs := [4]) (by kernel_rfl) (by simp) ?_
            refine AllReadyIn.cons rfl (fun K4 hK4 => ?_) ?_
            · go_simp
              refine ⟨trivial, (HC.out _ (Gr.drew _)).mono ?_⟩
              rintro e u1 ⟨x, rfl, hx, hg1', hf1⟩
              obtain ⟨Ax, cx, ex, -⟩ := id hx
              subst ex
              have G1 := Lib.hid (Gr.trans (Gr.drew W) hg1')
              have HX := Lib.hid (And.intro hx (fun b hb => Nat.le_trans (Gr.drew W).size (hf1 b hb)))
              clear hx hf1 hg1' e0 e1 e2 e3 e4 d1 d2
              obtain ⟨-, d1, d2⟩ := KP.out _ G1.out
              refine hK4 _ _ ?_
              refine wpAnyIn_ready (rs := [5]) (by kernel_rfl) (by simp) ?_
              refine AllReadyIn.cons rfl (fun K5 hK5 => ?_) ?_
              · go_simp
                refine hK5 _ _ ?_
                refine wpAnyIn_ready (rs := [6]) (by kernel_rfl) (by simp) ?_
                refine AllReadyIn.cons rfl (fun K6 hK6 => ?_) ?_
                · refine stepIn_append_lies rfl _ _ 39 rfl (w.heap.size + 4) 44 i0 _ 1 24 Try.underlying39 HI.out.1 HI.out.2.1 HI.out.2.2.1 HI.out.2.2.2 rfl (by decide) op ll.length us rfl (((HB.out.2.2.2.gr elt_bool G1.out).1).alloc _) ⟨u1.heap.size, 0, none⟩ 1 1 _ rfl rfl (World.news_of_block (heap_new' u1 _)) (fun u hu => by obtain rfl := List.mem_singleton.1 hu; rfl) (by decide) (by unfold maxLen; have := HLN.out; omega) (by have := HLN.out; omega) (by have := G1.out.size; have := HB.out.2.1; simp; omega) _ rfl ?_
                  intro g7 cap7 w7 hown hgrow hat hlt7
                  have hl := HL.out u1 _ g7 cap7 w7 G1.out HX.out.1 rfl HX.out.2 hown hgrow hat
                  have HLEAF := Lib.hid hl.2
                  have d3 := hl.1.cell
                  have d4 := hl.1.frozen
                  clear hown hgrow hat hlt7 hl d1 d2
                  refine hK6 _ _ ?_
                  refine wpAnyIn_ready (rs := [7]) (by kernel_rfl) (by simp) ?_
                  refine AllReadyIn.cons rfl (fun K7 hK7 => ?_) ?_
                  · go_simp
                    refine hK7 _ _ ?_
                    refine wpAnyIn_done (by kernel_rfl) ?_ _
                    exact HLEAF.out
                  exact AllReadyIn.nil
                exact AllReadyIn.nil
              exact AllReadyIn.nil
            exact AllReadyIn.nil
          exact AllReadyIn.nil
        refine AllReadyIn.cons rfl (fun K2 hK2 => ?_) ?_
        · go_simp
          refine hK2 _ _ ?_
          refine wpAnyIn_ready (rs := [0, 4]) (by kernel_rfl) (by simp) ?_
          refine AllReadyIn.cons rfl (fun K3 hK3 => ?_) ?_
          · go_simp
            refine hK3 _ _ ?_
            refine wpAnyIn_ready (rs := [4]) (by kernel_rfl) (by simp) ?_
            refine AllReadyIn.cons rfl (fun K4 hK4 => ?_) ?_
            · go_simp
              refine ⟨trivial, (HC.out _ (Gr.drew _)).mono ?_⟩
              rintro e u1 ⟨x, rfl, hx, hg1', hf1⟩
              obtain ⟨Ax, cx, ex, -⟩ := id hx
              subst ex
              have G1 := Lib.hid (Gr.trans (Gr.drew W) hg1')
              have HX := Lib.hid (And.intro hx (fun b hb => Nat.le_trans (Gr.drew W).size (hf1 b hb)))
              clear hx hf1 hg1' e0 e1 e2 e3 e4 d1 d2
              obtain ⟨-, d1, d2⟩ := KP.out _ G1.out
              refine hK4 _ _ ?_
              refine wpAnyIn_ready (rs := [5]) (by kernel_rfl) (by simp) ?_
              refine AllReadyIn.cons rfl (fun K5 hK5 => ?_) ?_
              · go_simp
                refine hK5 _ _ ?_
                refine wpAnyIn_ready (rs := [6]) (by kernel_rfl) (by simp) ?_
                refine AllReadyIn.cons rfl (fun K6 hK6 => ?_) ?_
                · refine stepIn_append_lies rfl _ _ 39 rfl (w.heap.size + 4) 44 i0 _ 1 24 Try.underlying39 HI.out.1 HI.out.2.1 HI.out.2.2.1 HI.out.2.2.2 rfl (by decide) op ll.length us rfl (((HB.out.2.2.2.gr elt_bool G1.out).1).alloc _) ⟨u1.heap.size, 0, none⟩ 1 1 _ rfl rfl (World.news_of_block (heap_new' u1 _)) (fun u hu => by obtain rfl := List.mem_singleton.1 hu; rfl) (by decide) (by unfold maxLen; have := HLN.out; omega) (by have := HLN.out; omega) (by have := G1.out.size; have := HB.out.2.1; simp; omega) _ rfl ?_
                  intro g7 cap7 w7 hown hgrow hat hlt7
                  have hl := HL.out u1 _ g7 cap7 w7 G1.out HX.out.1 rfl HX.out.2 hown hgrow hat
                  have HLEAF := Lib.hid hl.2
                  have d3 := hl.1.cell
                  have d4 := hl.1.frozen
                  clear hown hgrow hat hlt7 hl d1 d2
                  refine hK6 _ _ ?_
                  refine wpAnyIn_ready (rs := [7]) (by kernel_rfl) (by simp) ?_
                  refine AllReadyIn.cons rfl (fun K7 hK7 => ?_) ?_
                  · go_simp
                    refine hK7 _ _ ?_
                    refine wpAnyIn_done (by kernel_rfl) ?_ _
                    exact HLEAF.out
                  exact AllReadyIn.nil
                exact AllReadyIn.nil
              exact AllReadyIn.nil
            exact AllReadyIn.nil
          refine AllReadyIn.cons rfl (fun K3 hK3 => ?_) ?_
          · go_simp
            refine ⟨trivial, (HC.out _ (Gr.drew _)).mono ?_⟩
            rintro e u1 ⟨x, rfl, hx, hg1', hf1⟩
            obtain ⟨Ax, cx, ex, -⟩ := id hx
            subst ex
            have G1 := Lib.hid (Gr.trans (Gr.drew W) hg1')
            have HX := Lib.hid (And.intro hx (fun b hb => Nat.le_trans (Gr.drew W).size (hf1 b hb)))
            clear hx hf1 hg1' e0 e1 e2 e3 e4 d1 d2
            obtain ⟨-, d1, d2⟩ := KP.out _ G1.out
            refine hK3 _ _ ?_
            refine wpAnyIn_ready (rs := [0, 5]) (by kernel_rfl) (by simp) ?_
            refine AllReadyIn.cons rfl (fun K4 hK4 => ?_) ?_
            · go_simp
              refine hK4 _ _ ?_
              refine wpAnyIn_ready (rs := [5]) (by kernel_rfl) (by simp) ?_
              refine AllReadyIn.cons rfl (fun K5 hK5 => ?_) ?_
              · go_simp
                refine hK5 _ _ ?_
                refine wpAnyIn_ready (rs := [6]) (by kernel_rfl) (by simp) ?_
                refine AllReadyIn.cons rfl (fun K6 hK6 => ?_) ?_
                · refine stepIn_append_lies rfl _ _ 39 rfl (w.heap.size + 4) 44 i0 _ 1 24 Try.underlying39 HI.out.1 HI.out.2.1 HI.out.2.2.1 HI.out.2.2.2 rfl (by decide) op ll.length us rfl (((HB.out.2.2.2.gr elt_bool G1.out).1).alloc _) ⟨u1.heap.size, 0, none⟩ 1 1 _ rfl rfl (World.news_of_block (heap_new' u1 _)) (fun u hu => by obtain rfl := List.mem_singleton.1 hu; rfl) (by decide) (by unfold maxLen; have := HLN.out; omega) (by have := HLN.out; omega) (by have := G1.out.size; have := HB.out.2.1; simp; omega) _ rfl ?_
                  intro g7 cap7 w7 hown hgrow hat hlt7
                  have hl := HL.out u1 _ g7 cap7 w7 G1.out HX.out.1 rfl HX.out.2 hown hgrow hat
                  have HLEAF := Lib.hid hl.2
                  have d3 := hl.1.cell
                  have d4 := hl.1.frozen
                  clear hown hgrow hat hlt7 hl d1 d2
                  refine hK6 _ _ ?_
                  refine wpAnyIn_ready (rs := [7]) (by kernel_rfl) (by simp) ?_
                  refine AllReadyIn.cons rfl (fun K7 hK7 => ?_) ?_
                  · go_simp
                    refine hK7 _ _ ?_
                    refine wpAnyIn_done (by kernel_rfl) ?_ _
                    exact HLEAF.out
                  exact AllReadyIn.nil
                exact AllReadyIn.nil
              exact AllReadyIn.nil
            refine AllReadyIn.cons rfl (fun K4 hK4 => ?_) ?_
            · go_simp
              refine hK4 _ _ ?_
              refine wpAnyIn_ready (rs := [0]) (by kernel_rfl) (by simp) ?_
              refine AllReadyIn.cons rfl (fun K5 hK5 => ?_) ?_
              · have d5 := (KP.out _ (Gr.trans G1.out (bel_alloc u1 (.cells #[.slice Ax (bitsAt n t k).length cx] 44)))).2.1
                go_simp
                clear d5
                refine hK5 _ _ ?_
                refine wpAnyIn_ready (rs := [6]) (by kernel_rfl) (by simp) ?_
                refine AllReadyIn.cons rfl (fun K6 hK6 => ?_) ?_
                · refine stepIn_append_lies rfl _ _ 39 rfl (w.heap.size + 4) 44 i0 _ 1 24 Try.underlying39 HI.out.1 HI.out.2.1 HI.out.2.2.1 HI.out.2.2.2 rfl (by decide) op ll.length us rfl (((HB.out.2.2.2.gr elt_bool G1.out).1).alloc _) ⟨u1.heap.size, 0, none⟩ 1 1 _ rfl rfl (World.news_of_block (heap_new' u1 _)) (fun u hu => by obtain rfl := List.mem_singleton.1 hu; rfl) (by decide) (by unfold maxLen; have := HLN.out; omega) (by have := HLN.out; omega) (by have := G1.out.size; have := HB.out.2.1; simp; omega) _ rfl ?_
                  intro g7 cap7 w7 hown hgrow hat hlt7
                  have hl := HL.out u1 _ g7 cap7 w7 G1.out HX.out.1 rfl HX.out.2 hown hgrow hat
                  have HLEAF := Lib.hid hl.2
                  have d3 := hl.1.cell
                  have d4 := hl.1.frozen
                  clear hown hgrow hat hlt7 hl d1 d2
                  refine hK6 _ _ ?_
                  refine wpAnyIn_ready (rs := [7]) (by kernel_rfl) (by simp) ?_
                  refine AllReadyIn.cons rfl (fun K7 hK7 => ?_) ?_
                  · go_simp
                    refine hK7 _ _ ?_
                    refine wpAnyIn_done (by kernel_rfl) ?_ _
                    exact HLEAF.out
                  exact AllReadyIn.nil
                exact AllReadyIn.nil
              exact AllReadyIn.nil
            exact AllReadyIn.nil
          exact AllReadyIn.nil
        exact AllReadyIn.nil
      exact AllReadyIn.nil
    exact AllReadyIn.nil
end Go.Proofs.Ytmnblcnhbafcpaa
