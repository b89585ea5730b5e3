/-
  THE MODULE THAT IS BEING READ, its parser's box of older make: params and ports.
-/
import Derived.Test.YtccjbpghpoblhaaDoorK25
namespace Go.Proofs.YtccjbpghpoblhaaDoor
open Go.RowKit

/-- the module that is being read: its block, and the parser's box -/
def MhRepB (P : Pr) (w0 : World) (gm gp : Nat) (m : Mh) (w : World) : Prop :=
  w0.heap.size ≤ gm ∧ gp ≠ P.b ∧ w.heap[gp]? = some (.cells #[.pointer (some ⟨P.b, 0, none⟩)] 65 (0, 0)) ∧
  ∃ pv qv, w.heap[gm]? = some (.cells #[.string (str m.name), pv, qv, .slice none 0 0] 48 (0, 0)) ∧ ParamsAt w (New w0) m.params pv ∧ PortsAt w (New w0) m.ports qv
theorem MhRepB.fr {P : Pr} {w0 w w' : World} {gm gp : Nat} {m : Mh} (h : MhRepB P w0 gm gp m w) (hf : Fr P.b w w') (hlt : P.b < w0.heap.size) : MhRepB P w0 gm gp m w' := by
  obtain ⟨h1, h2, h3, pv, qv, h4, h5, h6⟩ := h
  have hk : ∀ g o, New w0 g → w.heap[g]? = some o → w'.heap[g]? = some o := fun g o hg ho => hf.keep ho (by unfold New at hg; omega)
  exact ⟨h1, h2, hf.keep h3 h2, pv, qv, hk _ _ h1 h4, h5.keep (fun _ h => h) hk, h6.keep (fun _ h => h) hk⟩
theorem MhRepB.pcell {P : Pr} {w0 w : World} {gm gp : Nat} {m : Mh} (h : MhRepB P w0 gm gp m w) : w.cell? ⟨gp, 0, none⟩ = some (.pointer (some ⟨P.b, 0, none⟩)) := by
  rw [cell_at h.2.2.1]; rfl

set_option maxRecDepth 100000 in
set_option maxHeartbeats 2000000 in
theorem paramB_any (P : Pr) (V : Va) (w0 : World) (gm gp : Nat) (m : Mh) (n : Nat) (w : World) (hlt : P.b < w0.heap.size) (hB : P.B ≤ w0.heap.size) (hlen : m.params.length ≤ 16) (h : Hid (St P V n w)) (hf0 : Hid (Fr P.b w0 w)) (hr : Hid (MhRepB P w0 gm gp m w)) :
    Calls Tryd.prog 58 #[.pointer (some ⟨gm, 0, none⟩), .pointer (some ⟨gp, 0, none⟩)] w (Got P V w0 (qParam P.T m n) (vRep (MhRepB P w0 gm gp))) := by
  obtain ⟨i0, hi, hz0, hz1, hz2⟩ := info_parts info9
  have HI := Lib.hid (And.intro hi (And.intro hz0 (And.intro hz1 hz2)))
  clear hi hz0 hz1 hz2
  obtain ⟨r1, r2, r3, pv, qv, r4, r5, r6⟩ := hr.out
  obtain ⟨A, c0, rfl⟩ := row_form r5
  have b0 : w.cell? ⟨gp, 0, none⟩ = some (.pointer (some ⟨P.b, 0, none⟩)) := by rw [cell_at r3]; rfl
  have b1 : w.cell? ⟨gm, 1, none⟩ = some (.slice A m.params.length c0) := by rw [cell_at r4]; rfl
  have hgmb : gm ≠ P.b := by omega
  have hgpb : gp ≠ P.b := r2
  have HR := Lib.hid (And.intro r3 (And.intro r4 (And.intro r5 r6)))
  clear r3 r4 r5 r6
  rcases hN : pName P.T n with x | ⟨l, n1⟩
  · have E1 := Lib.hid hN
    clear hN
    go_enter Tryd.func58, Tryd.ntmps58
    go_wp2_with fail
    refine wp_region_any (by kernel_rfl) ?_
    change wpAny _ _ _ _ _ _ _ (World.drew _)
    refine wpAny_take (i := 0) (v := .pointer (some ⟨gm, 1, none⟩)) rfl (by kernel_rfl) (by kernel_rfl) (by kernel_rfl) (fun _ _ _ h => h) (Or.inl ⟨by rfl, by intro w; go_simp⟩) ?_
    refine wpAny_ready (rs := [1, 2]) (by kernel_rfl) (by simp) ?_
    refine AllReady.cons rfl (fun K hK => ?_) (AllReady.cons rfl (fun K hK => ?_) AllReady.nil)
    · go_simp
      refine hK _ _ ?_
      clear hK K
      refine wpAny_ready (rs := [2]) (by kernel_rfl) (by simp) ?_
      refine AllReady.cons rfl (fun K hK => ?_) AllReady.nil
      go_simp
      refine hK _ _ ?_
      clear hK K
      refine wpAny_ready (rs := [3]) (by kernel_rfl) (by simp) ?_
      refine AllReady.cons rfl (fun K hK => ?_) AllReady.nil
      go_simp
      refine (name_bad (Lib.hid h.out.drew) E1.out).mono ?_
      rintro e w3 ⟨rfl, hf3, m4, hs4⟩
      go_simp
      refine ⟨rfl, ?_⟩
      exact got_bad (by unfold qParam; rw [E1.out, thn_err]) (hf0.out.draw.trans hf3) hs4 rfl
    · go_simp
      refine hK _ _ ?_
      clear hK K
      refine wpAny_ready (rs := [1, 3]) (by kernel_rfl) (by simp) ?_
      refine AllReady.cons rfl (fun K hK => ?_) (AllReady.cons rfl (fun K hK => ?_) AllReady.nil)
      · go_simp
        refine hK _ _ ?_
        clear hK K
        refine wpAny_ready (rs := [3]) (by kernel_rfl) (by simp) ?_
        refine AllReady.cons rfl (fun K hK => ?_) AllReady.nil
        go_simp
        refine (name_bad (Lib.hid h.out.drew) E1.out).mono ?_
        rintro e w3 ⟨rfl, hf3, m4, hs4⟩
        go_simp
        refine ⟨rfl, ?_⟩
        exact got_bad (by unfold qParam; rw [E1.out, thn_err]) (hf0.out.draw.trans hf3) hs4 rfl
      · go_simp
        refine (name_bad (Lib.hid h.out.drew) E1.out).mono ?_
        rintro e w3 ⟨rfl, hf3, m4, hs4⟩
        go_simp
        refine ⟨rfl, ?_⟩
        exact got_bad (by unfold qParam; rw [E1.out, thn_err]) (hf0.out.draw.trans hf3) hs4 rfl
  · have E1 := Lib.hid hN
    clear hN
    go_enter Tryd.func58, Tryd.ntmps58
    go_wp2_with fail
    go_region_law (first
      | ((refine step_append_lies _ (by rfl) _ _ _ (by rfl) 0 9 i0 _ 1 16 Tryd.underlying44 HI.out.1 HI.out.2.1 HI.out.2.2.1 HI.out.2.2.2 rfl (by omega) (.slice A m.params.length c0) m.params.length (m.params.map fun l => Value.string (str l)) (by rfl) (HO3.out.alloc _)
            ⟨w3.heap.size, 0, none⟩ 1 1 [.string (str l)] (by rfl) (by rfl) (World.news_of_block (cs := #[.string (str l)]) (t := 9) (fr := (0, 0)) (heap_alloc_new w3 _)) (by simp [Value.oneCell']) (by omega) (by unfold maxLen; omega) (by omega) (by simp) (w3.heap.size + 1) (by simp) ?_; intro g cap w5 hown5 hgrow5 hat5 hlt5;
          have R := Lib.hid (app_rep (off := 1) HS3.out HF3.out hB r1 HB3.out (by decide) HW3.out hgrow5 hown5 hat5); have K5 := app_cell HB3.out (by decide) HW3.out hgrow5; have k5 := cell_at (o := 1) K5; have z5 := frozen_at (o := 1) K5; clear K5))
      | ((go_simp; go_at_call 55; refine (name_ok (Lib.hid h.out.drew) E1.out).mono ?_; rintro e w3 ⟨rfl, hf3, hs3⟩;
          have HF3 := Lib.hid (hf0.out.draw.trans hf3); have HS3 := Lib.hid hs3; have HB3 := Lib.hid (hf3.keep (w := w.drew) HR.out.2.1 hgmb); have HW3 := Lib.hid (RowAt.keep (w := w) HR.out.2.2.1 (fun _ h => h) (fun g o hg ho => hf3.keep (w := w.drew) ho (by unfold New at hg; omega)));
          have HO3 := Lib.hid HW3.out.1; have d1 : w3.cell? ⟨gm, 1, none⟩ = some (.slice A m.params.length c0) := (by rw [cell_at HB3.out]; rfl); have hgl3 : gm < w3.heap.size := heap_lt HB3.out)))
    all_goals
      go_wp2_with fail
      go_end0
      refine got_ok (a := { m with params := m.params ++ [l] }) (m := n1) (by unfold qParam; rw [E1.out, thn_ok]) R.out.1 R.out.2.1 ⟨rfl, r1, r2, ?_, .slice (some ⟨g, 0, none⟩) (m.params.length + 1) cap, qv, ?_, ?_, ?_⟩
      · exact R.out.2.2.2.2 _ _ _ _ (hf3.keep (w := w.drew) HR.out.1 hgpb) (by decide) (by decide)
      · exact R.out.2.2.1
      · have := R.out.2.2.2.1
        unfold ParamsAt
        simpa using this
      · exact (RowAt.keep (w := w) HR.out.2.2.2 (fun _ h => h) (fun g o hg ho => hf3.keep (w := w.drew) ho (by unfold New at hg; omega))).ty R.out.2.2.2.2 (by decide) (by decide)

set_option maxRecDepth 100000 in
set_option maxHeartbeats 2000000 in
theorem portB_any (P : Pr) (V : Va) (w0 : World) (gm gp : Nat) (m : Mh) (n : Nat) (w : World) (hlt : P.b < w0.heap.size) (hB : P.B ≤ w0.heap.size) (hlen : m.ports.length ≤ 16) (h : Hid (St P V n w)) (hf0 : Hid (Fr P.b w0 w)) (hr : Hid (MhRepB P w0 gm gp m w)) :
    Calls Tryd.prog 59 #[.pointer (some ⟨gm, 0, none⟩), .pointer (some ⟨gp, 0, none⟩)] w (Got P V w0 (qPort P.T m n) (vRep (MhRepB P w0 gm gp))) := by
  obtain ⟨i0, hi, hz0, hz1, hz2⟩ := info_parts info64
  have HI := Lib.hid (And.intro hi (And.intro hz0 (And.intro hz1 hz2)))
  clear hi hz0 hz1 hz2
  obtain ⟨r1, r2, r3, pv, qv, r4, r5, r6⟩ := hr.out
  obtain ⟨A, c0, rfl⟩ := row_form r6
  have b0 : w.cell? ⟨gp, 0, none⟩ = some (.pointer (some ⟨P.b, 0, none⟩)) := by rw [cell_at r3]; rfl
  have b1 : w.cell? ⟨gm, 2, none⟩ = some (.slice A m.ports.length c0) := by rw [cell_at r4]; rfl
  have hgmb : gm ≠ P.b := by omega
  have hgpb : gp ≠ P.b := r2
  have HR := Lib.hid (And.intro r3 (And.intro r4 (And.intro r5 r6)))
  clear r3 r4 r5 r6
  rcases hN : pPort P.T n with x | ⟨l, n1⟩
  · have E1 := Lib.hid hN
    clear hN
    go_enter Tryd.func59, Tryd.ntmps59
    go_wp2_with fail
    refine wp_region_any (by kernel_rfl) ?_
    change wpAny _ _ _ _ _ _ _ (World.drew _)
    refine wpAny_take (i := 0) (v := .pointer (some ⟨gm, 2, none⟩)) rfl (by kernel_rfl) (by kernel_rfl) (by kernel_rfl) (fun _ _ _ h => h) (Or.inl ⟨by rfl, by intro w; go_simp⟩) ?_
    refine wpAny_ready (rs := [1, 2]) (by kernel_rfl) (by simp) ?_
    refine AllReady.cons rfl (fun K hK => ?_) (AllReady.cons rfl (fun K hK => ?_) AllReady.nil)
    · go_simp
      refine hK _ _ ?_
      clear hK K
      refine wpAny_ready (rs := [2]) (by kernel_rfl) (by simp) ?_
      refine AllReady.cons rfl (fun K hK => ?_) AllReady.nil
      go_simp
      refine hK _ _ ?_
      clear hK K
      refine wpAny_ready (rs := [3]) (by kernel_rfl) (by simp) ?_
      refine AllReady.cons rfl (fun K hK => ?_) AllReady.nil
      go_simp
      refine (port_bad (Lib.hid h.out.drew) E1.out).mono ?_
      rintro e w3 ⟨rfl, hf3, m4, hs4⟩
      go_simp
      refine ⟨rfl, ?_⟩
      exact got_bad (by unfold qPort; rw [E1.out, thn_err]) (hf0.out.draw.trans hf3) hs4 rfl
    · go_simp
      refine hK _ _ ?_
      clear hK K
      refine wpAny_ready (rs := [1, 3]) (by kernel_rfl) (by simp) ?_
      refine AllReady.cons rfl (fun K hK => ?_) (AllReady.cons rfl (fun K hK => ?_) AllReady.nil)
      · go_simp
        refine hK _ _ ?_
        clear hK K
        refine wpAny_ready (rs := [3]) (by kernel_rfl) (by simp) ?_
        refine AllReady.cons rfl (fun K hK => ?_) AllReady.nil
        go_simp
        refine (port_bad (Lib.hid h.out.drew) E1.out).mono ?_
        rintro e w3 ⟨rfl, hf3, m4, hs4⟩
        go_simp
        refine ⟨rfl, ?_⟩
        exact got_bad (by unfold qPort; rw [E1.out, thn_err]) (hf0.out.draw.trans hf3) hs4 rfl
      · go_simp
        refine (port_bad (Lib.hid h.out.drew) E1.out).mono ?_
        rintro e w3 ⟨rfl, hf3, m4, hs4⟩
        go_simp
        refine ⟨rfl, ?_⟩
        exact got_bad (by unfold qPort; rw [E1.out, thn_err]) (hf0.out.draw.trans hf3) hs4 rfl
  · have E1 := Lib.hid hN
    clear hN
    go_enter Tryd.func59, Tryd.ntmps59
    go_wp2_with fail
    go_region_law (first
      | ((refine step_append_lies _ (by rfl) _ _ _ (by rfl) 0 64 i0 _ 4 48 Tryd.underlying45 HI.out.1 HI.out.2.1 HI.out.2.2.1 HI.out.2.2.2 rfl (by omega) (.slice A m.ports.length c0) m.ports.length (m.ports.flatMap portCells) (by rfl) (HO3.out.alloc _)
            ⟨w3.heap.size, 0, none⟩ 1 1 [.bool l.1, .string (str l.2.1), .string (str l.2.2.1), .int .i64 (l.2.2.2 : Nat)] (by rfl) (by rfl) (World.news_of_block (cs := #[.bool l.1, .string (str l.2.1), .string (str l.2.2.1), .int .i64 (l.2.2.2 : Nat)]) (t := 64) (fr := (0, 0)) (heap_alloc_new w3 _)) (by simp [Value.oneCell']) (by omega) (by unfold maxLen; omega) (by omega) (by simp) (w3.heap.size + 1) (by simp) ?_; intro g cap w5 hown5 hgrow5 hat5 hlt5;
          have R := Lib.hid (app_rep (off := 2) HS3.out HF3.out hB r1 HB3.out (by decide) HW3.out hgrow5 hown5 hat5); have K5 := app_cell HB3.out (by decide) HW3.out hgrow5; have k5 := cell_at (o := 2) K5; have z5 := frozen_at (o := 2) K5; clear K5))
      | ((go_simp; go_at_call 60; refine (port_ok (Lib.hid h.out.drew) E1.out).mono ?_; rintro e w3 ⟨rfl, hf3, hs3⟩;
          have HF3 := Lib.hid (hf0.out.draw.trans hf3); have HS3 := Lib.hid hs3; have HB3 := Lib.hid (hf3.keep (w := w.drew) HR.out.2.1 hgmb); have HW3 := Lib.hid (RowAt.keep (w := w) HR.out.2.2.2 (fun _ h => h) (fun g o hg ho => hf3.keep (w := w.drew) ho (by unfold New at hg; omega)));
          have HO3 := Lib.hid HW3.out.1; have d1 : w3.cell? ⟨gm, 2, none⟩ = some (.slice A m.ports.length c0) := (by rw [cell_at HB3.out]; rfl); have hgl3 : gm < w3.heap.size := heap_lt HB3.out)))
    all_goals
      go_wp2_with fail
      go_end0
      refine got_ok (a := { m with ports := m.ports ++ [l] }) (m := n1) (by unfold qPort; rw [E1.out, thn_ok]) R.out.1 R.out.2.1 ⟨rfl, r1, r2, ?_, pv, .slice (some ⟨g, 0, none⟩) (m.ports.length + 1) cap, ?_, ?_, ?_⟩
      · exact R.out.2.2.2.2 _ _ _ _ (hf3.keep (w := w.drew) HR.out.1 hgpb) (by decide) (by decide)
      · exact R.out.2.2.1
      · exact (RowAt.keep (w := w) HR.out.2.2.1 (fun _ h => h) (fun g o hg ho => hf3.keep (w := w.drew) ho (by unfold New at hg; omega))).ty R.out.2.2.2.2 (by decide) (by decide)
      · have := R.out.2.2.2.1
        unfold PortsAt
        simpa [portCells] using this


end Go.Proofs.YtccjbpghpoblhaaDoor

