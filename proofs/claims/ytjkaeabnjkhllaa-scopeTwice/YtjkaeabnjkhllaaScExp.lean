/-
  The checker's expr, WALKED.
-/
import Derived.Test.YtjkaeabnjkhllaaScExc
namespace Go.Proofs.Ytjkaeabnjkhllaa
open Go.RowKit Go.Shelf
attribute [local go_sem] Oper.semAt_some

theorem at_frame {F : Fence} {n : Nat} {P : Program} {c : Code} {Q : Exit → Act → World → Prop} {a a' : Act} {w : World} (h : a = a') (hq : c.wpIn F n P Q a' w) : c.wpIn F n P Q a w := h ▸ hq
theorem kids_len : ∀ ks : List Ex, ks.length ≤ exsSize ks
  | [] => Nat.le_refl _
  | e :: r => by
    have := kids_len r
    have := exSize_kids e
    rw [exsSize, List.length_cons]
    omega
/-- all kids are on top -/
theorem ei_of_bi {w : World} {ck : Array Value} {B Bn : Nat} {ks : List (Addr × Nat)} {sl : Value} {css : List (List Value)} {Ds : List Nat} {xs : List Kc} {e : Ex} {r : List Ex} {Y W : World} {v0 : Value} (hy : EI w ck Y r ks v0 css) (hn : ExAll SmallName e) (hl : xs.length = e.kids.length) (hk : ∀ (j : Nat) (t : Ex) (x : Kc), e.kids[j]? = some t → xs[j]? = some x → ExAt w t (kcCells x))
    (h : BI w ck B Bn ks sl r.length css Ds xs.reverse W) : ∃ v, EI w ck W (e.kids ++ r) ks v (css ++ xs.reverse.map kcCells) := by
  obtain ⟨A, c, h4, ho⟩ := h.row
  have hlen : r.length + xs.reverse.length = (e.kids ++ r).length := by simp; omega
  rw [hlen] at h4 ho
  refine ⟨_, h.gr, h4, h.chk, h.map, ho, fun d hd => ?_, ?_, fun j t d ht hd => ?_, fun t ht => ?_, hy.keys⟩
  · rcases List.mem_append.1 hd with hd | hd
    · exact hy.l11 d hd
    · obtain ⟨x, _, rfl⟩ := List.mem_map.1 hd
      rfl
  · have := hy.len
    simp
    omega
  · rw [List.reverse_append] at ht
    have hcl : css.length = r.reverse.length := by have := hy.len; simp; omega
    rcases Nat.lt_or_ge j css.length with hj | hj
    · rw [List.getElem?_append_left hj] at hd
      rw [List.getElem?_append_left (by omega)] at ht
      exact hy.trees j t d ht hd
    · rw [List.getElem?_append_right hj] at hd
      rw [List.getElem?_append_right (by omega), ← hcl] at ht
      have hjt := (List.getElem?_eq_some_iff.1 ht).1
      rw [List.length_reverse] at hjt
      rw [List.getElem?_reverse hjt] at ht
      rw [List.getElem?_map] at hd
      rw [List.getElem?_reverse (by omega)] at hd
      obtain ⟨x, hx, rfl⟩ := Option.map_eq_some_iff.1 hd
      rw [hl] at hx
      exact hk _ t x ht hx
  · rcases List.mem_append.1 ht with ht | ht
    · exact hn.kids t ht
    · exact hy.names t ht

set_option maxRecDepth 100000 in
set_option maxHeartbeats 4000000 in
theorem expr_any (ms : List Mo) (i : Nat) (m : Mo) (t0 : Ex) (h : Hd) (kA : Option Addr) (kn kC : Nat) (mA fA : Option Addr) (mn mC fn fC fb tb : Nat) (w : World) (hm : Hid (ms[i]? = some m)) (hck : Hid (CkAt w ms (.slice mA mn mC) fb (.slice fA fn fC) tb))
    (hml : Hid (∃ x : Int, w.cell? ⟨0, 0, none⟩ = some (.int .i64 x))) (ht : Hid (ExAt w t0 (hdCells h (.slice kA kn kC)))) (hsm : Hid (ExAll SmallName t0)) (hsz : exSize t0 ≤ 100000) :
    Calls Try.prog 45 #[.agg #[.slice mA mn mC, .map (some fb), .slice fA fn fC, .map (some tb)], .int .i64 (i : Nat), .agg #[.int .i64 h.op, .string h.val.1, .int .i64 h.val.2, .string h.wid.1, .int .i64 h.wid.2, .string h.hi.1, .int .i64 h.hi.2, .string h.lo.1, .int .i64 h.lo.2, .string h.name, .slice kA kn kC]] w (ExpRet w ms m t0) := by
  have hmm := @run_makeMap Try.prog
  have HSZ := Lib.hid hsz
  clear hsz
  refine (callsIn_wide (n := 9)).1 ?_
  refine callsIn_of_wp_marks Try.func45 rfl trivial ?_ rfl
  simp only [Try.ntmps45, List.size_toArray, List.length_cons, List.length_nil, Nat.reduceAdd, Nat.reduceSub, Array.replicate_succ, Array.replicate_zero, List.push_toArray, List.append_toArray, List.nil_append, List.cons_append]
  gi_upto_region 2 with fail
  refine wpIn_loop_ghost_k (fun gh a wr => ∃ (u : Nat → Value) (Ds : List Nat) (st : List Ex) (ks : List (Addr × Nat)) (v : Value) (css : List (List Value)), a = FrE w #[.slice mA mn mC, .map (some fb), .slice fA fn fC, .map (some tb)] (.int .i64 (i : Nat)) #[.int .i64 h.op, .string h.val.1, .int .i64 h.val.2, .string h.wid.1, .int .i64 h.wid.2, .string h.hi.1, .int .i64 h.hi.2, .string h.lo.1, .int .i64 h.lo.2, .string h.name, .slice kA kn kC] u Ds ∧ (exsSize st = gh ∧ gh ≤ 100000) ∧ MarksAt wr w.heap.size Ds ∧ EI w #[.slice mA mn mC, .map (some fb), .slice fA fn fC, .map (some tb)] wr st ks v css ∧ RI w ms m t0 st ks) (exsSize [t0]) ?start (fun gh a wr hI J K hJ hK => ?round)
  case start =>
    refine ⟨_, [], [t0], [], .slice (some ⟨w.heap.size + 2, 0, none⟩) 1 1, [hdCells h (.slice kA kn kC)], fre _ [] rfl, ⟨rfl, ?_⟩, ⟨by simp, by simp⟩, ⟨?_, ?_, ?_, ?_, ?_, ?_, ?_, ?_, ?_, ?_⟩, ?_⟩
    · rw [exsSize, exsSize]; have := HSZ.out; omega
    · exact ((((Gr.alloc _ _).trans (Gr.alloc _ _)).trans (Gr.alloc _ _)).trans (Gr.alloc _ _)).trans (Gr.alloc _ _)
    · have h4 := new_at ((((w.alloc (.cells #[.slice mA mn mC, .map (some fb), .slice fA fn fC, .map (some tb)] 70)).alloc (.cells #[.int .i64 h.op, .string h.val.1, .int .i64 h.val.2, .string h.wid.1, .int .i64 h.wid.2, .string h.hi.1, .int .i64 h.hi.2, .string h.lo.1, .int .i64 h.lo.2, .string h.name, .slice kA kn kC] 47)).alloc (.cells #[.int .i64 h.op, .string h.val.1, .int .i64 h.val.2, .string h.wid.1, .int .i64 h.wid.2, .string h.hi.1, .int .i64 h.hi.2, .string h.lo.1, .int .i64 h.lo.2, .string h.name, .slice kA kn kC] 47)).alloc (.map #[] 0)) (.cells #[.slice (some ⟨w.heap.size + 2, 0, none⟩) 1 1] 45)
      simp only [World.size_alloc] at h4
      exact h4
    · exact ((((Gr.alloc _ _).trans (Gr.alloc _ _)).trans (Gr.alloc _ _)).trans (Gr.alloc _ _)).keep (new_at w _)
    · have h3 := MetAt.new (((w.alloc (.cells #[.slice mA mn mC, .map (some fb), .slice fA fn fC, .map (some tb)] 70)).alloc (.cells #[.int .i64 h.op, .string h.val.1, .int .i64 h.val.2, .string h.wid.1, .int .i64 h.wid.2, .string h.hi.1, .int .i64 h.hi.2, .string h.lo.1, .int .i64 h.lo.2, .string h.name, .slice kA kn kC] 47)).alloc (.cells #[.int .i64 h.op, .string h.val.1, .int .i64 h.val.2, .string h.wid.1, .int .i64 h.wid.2, .string h.hi.1, .int .i64 h.hi.2, .string h.lo.1, .int .i64 h.lo.2, .string h.name, .slice kA kn kC] 47))
      simp only [World.size_alloc] at h3
      exact h3.gr (Gr.alloc _ _)
    · refine ⟨rfl, .inr ⟨w.heap.size + 2, 1, #[.int .i64 h.op, .string h.val.1, .int .i64 h.val.2, .string h.wid.1, .int .i64 h.wid.2, .string h.hi.1, .int .i64 h.hi.2, .string h.lo.1, .int .i64 h.lo.2, .string h.name, .slice kA kn kC], rfl, Nat.le_refl _, ?_, by simp, by unfold maxLen; omega, rfl, by simp [hdCells]⟩⟩
      have h2 := new_at ((w.alloc (.cells #[.slice mA mn mC, .map (some fb), .slice fA fn fC, .map (some tb)] 70)).alloc (.cells #[.int .i64 h.op, .string h.val.1, .int .i64 h.val.2, .string h.wid.1, .int .i64 h.wid.2, .string h.hi.1, .int .i64 h.hi.2, .string h.lo.1, .int .i64 h.lo.2, .string h.name, .slice kA kn kC] 47)) (.cells #[.int .i64 h.op, .string h.val.1, .int .i64 h.val.2, .string h.wid.1, .int .i64 h.wid.2, .string h.hi.1, .int .i64 h.hi.2, .string h.lo.1, .int .i64 h.lo.2, .string h.name, .slice kA kn kC] 47)
      simp only [World.size_alloc] at h2
      exact ((Gr.alloc _ _).trans (Gr.alloc _ _)).keep h2
    · intro c hc
      rw [List.mem_singleton] at hc
      subst hc
      rfl
    · rfl
    · intro j t c ht' hc
      match j, ht', hc with
      | 0, ht', hc => cases ht'; cases hc; exact ht.out
      | j + 1, ht', hc => simp at hc
    · intro t ht'
      rw [List.mem_singleton] at ht'
      subst ht'
      exact hsm.out
    · simp
    · intro c
      refine ⟨fun t ht' => ?_, ?_, by simp⟩
      · rw [List.mem_singleton] at ht'
        subst ht'
        exact c
      · rw [exsErr, exsErr]
        split
        · rfl
        · simp_all
  case round =>
    obtain ⟨u, Ds, st, ks, v, css, rfl, hgh, hmk, hei, hri⟩ := hI
    have HEI := Lib.hid hei
    have HX := Lib.hid (And.intro hgh (And.intro hmk hri))
    have HJ := Lib.hid hJ
    clear hgh hmk hei hri hJ
    obtain ⟨vA, vC, rfl⟩ := HEI.out.form
    have b4 : wr.cell? ⟨w.heap.size + 4, 0, none⟩ = some (.slice vA st.length vC) := by rw [cell_at HEI.out.box]; rfl
    unfold FrE
    cases st with
    | nil =>
      simp only [List.length_nil] at b4
      have hd1 : ¬ ((0 : Int) < ((0 : Nat) : Int)) := by omega
      gi_wp2
      refine leaves_marks (w := w) (fun W' hg => ?_) Ds wr HEI.out.gr HX.out.2.1
      exact ⟨_, results_tmp rfl _ _ _, 0, rfl, fun c => by rw [(HX.out.2.2 c).2.1, exsErr], hg⟩
    | cons e r =>
      obtain ⟨g, cap, eA, eC, css', hv, rfl, hrg, hex, hcap, hmax, hg4, hg2, hgl⟩ := HEI.out.top
      simp only [List.length_cons] at hv b4
      cases hv
      have hd1 : (0 : Int) < ((r.length + 1 : Nat) : Int) := by omega
      have hsub : ((r.length + 1 : Nat) : Int) - 1 = (r.length : Int) := by omega
      have hr0 : (0 : Int) ≤ (r.length : Int) := by omega
      have hr1 : (r.length : Int) < ((r.length + 1 : Nat) : Int) := by omega
      have c0 := hrg 0 _ rfl
      have c1 := hrg 1 _ rfl
      have c2 := hrg 2 _ rfl
      have c3 := hrg 3 _ rfl
      have c4 := hrg 4 _ rfl
      have c5 := hrg 5 _ rfl
      have c6 := hrg 6 _ rfl
      have c7 := hrg 7 _ rfl
      have c8 := hrg 8 _ rfl
      have c9 := hrg 9 _ rfl
      have c10 := hrg 10 _ rfl
      rw [Nat.add_zero] at c0
      have hbd : r.length + 1 ≤ maxLen := Nat.le_trans hcap hmax
      unfold maxLen at hbd
      have hnm := (HEI.out.names e (by simp)).hd
      have hen : e.kids.length ≤ maxLen := by
        obtain ⟨y, z, q1, q2, q3, _⟩ := hex.open
        rw [← q3]
        exact q2.1
      have HG := Lib.hid (And.intro hex (And.intro hg4 (And.intro hnm hen)))
      clear hrg hex hmax hg2 hgl hnm hen
      have lt4 := heap_lt HEI.out.box
      have fz : wr.frozen? ⟨w.heap.size + 4, 0, none⟩ = false := frozen_at HEI.out.box
      have hcp : (r.length : Int) ≤ (vC : Int) := by omega
      gi_upto_region 5 with fail
      clear c0 c1 c2 c3 c4 c5 c6 c7 c8 c9 c10 b4 fz hd1 hsub
      obtain ⟨V, eV, EV, NX, MK⟩ : ∃ V, ((wr.setCell ⟨w.heap.size + 4, 0, none⟩ (.slice (some ⟨g, 0, none⟩) r.length vC)).alloc (.cells #[.int .i64 e.hd.op, .string e.hd.val.1, .int .i64 e.hd.val.2, .string e.hd.wid.1, .int .i64 e.hd.wid.2, .string e.hd.hi.1, .int .i64 e.hd.hi.2, .string e.hd.lo.1, .int .i64 e.hd.lo.2, .string e.hd.name, .slice eA e.kids.length eC] 47)) = V ∧ Hid (EI w #[.slice mA mn mC, .map (some fb), .slice fA fn fC, .map (some tb)] V r ks (.slice (some ⟨g, 0, none⟩) r.length vC) css') ∧ Hid (V.heap[wr.heap.size]? = some (.cells #[.int .i64 e.hd.op, .string e.hd.val.1, .int .i64 e.hd.val.2, .string e.hd.wid.1, .int .i64 e.hd.wid.2, .string e.hd.hi.1, .int .i64 e.hd.hi.2, .string e.hd.lo.1, .int .i64 e.hd.lo.2, .string e.hd.name, .slice eA e.kids.length eC] 47 (0, 0))) ∧ Hid (MarksAt V w.heap.size Ds) :=
        ⟨_, rfl, Lib.hid ((HEI.out.pop HG.out.2.1).gr' (Gr.alloc _ _)), Lib.hid (by have h := new_at (wr.setCell ⟨w.heap.size + 4, 0, none⟩ (.slice (some ⟨g, 0, none⟩) r.length vC)) (.cells #[.int .i64 e.hd.op, .string e.hd.val.1, .int .i64 e.hd.val.2, .string e.hd.wid.1, .int .i64 e.hd.wid.2, .string e.hd.hi.1, .int .i64 e.hd.hi.2, .string e.hd.lo.1, .int .i64 e.hd.lo.2, .string e.hd.name, .slice eA e.kids.length eC] 47); simpa [World.setCell] using h), Lib.hid ((HX.out.2.1.set HEI.out.box).gr (Gr.alloc _ _))⟩
      rw [eV]
      clear eV
      have x0 : V.cell? ⟨w.heap.size, 0, none⟩ = some (.slice mA mn mC) := by rw [cell_at EV.out.chk]; rfl
      have x1 : V.cell? ⟨w.heap.size, 1, none⟩ = some (.map (some fb)) := by rw [cell_at EV.out.chk]; rfl
      have x2 : V.cell? ⟨w.heap.size, 2, none⟩ = some (.slice fA fn fC) := by rw [cell_at EV.out.chk]; rfl
      have x3 : V.cell? ⟨w.heap.size, 3, none⟩ = some (.map (some tb)) := by rw [cell_at EV.out.chk]; rfl
      have y0 : V.cell? ⟨wr.heap.size, 0, none⟩ = some (.int .i64 e.hd.op) := by rw [cell_at NX.out]; rfl
      have y1 : V.cell? ⟨wr.heap.size, 1, none⟩ = some (.string e.hd.val.1) := by rw [cell_at NX.out]; rfl
      have y2 : V.cell? ⟨wr.heap.size, 2, none⟩ = some (.int .i64 e.hd.val.2) := by rw [cell_at NX.out]; rfl
      have y3 : V.cell? ⟨wr.heap.size, 3, none⟩ = some (.string e.hd.wid.1) := by rw [cell_at NX.out]; rfl
      have y4 : V.cell? ⟨wr.heap.size, 4, none⟩ = some (.int .i64 e.hd.wid.2) := by rw [cell_at NX.out]; rfl
      have y5 : V.cell? ⟨wr.heap.size, 5, none⟩ = some (.string e.hd.hi.1) := by rw [cell_at NX.out]; rfl
      have y6 : V.cell? ⟨wr.heap.size, 6, none⟩ = some (.int .i64 e.hd.hi.2) := by rw [cell_at NX.out]; rfl
      have y7 : V.cell? ⟨wr.heap.size, 7, none⟩ = some (.string e.hd.lo.1) := by rw [cell_at NX.out]; rfl
      have y8 : V.cell? ⟨wr.heap.size, 8, none⟩ = some (.int .i64 e.hd.lo.2) := by rw [cell_at NX.out]; rfl
      have y9 : V.cell? ⟨wr.heap.size, 9, none⟩ = some (.string e.hd.name) := by rw [cell_at NX.out]; rfl
      have y10 : V.cell? ⟨wr.heap.size, 10, none⟩ = some (.slice eA e.kids.length eC) := by rw [cell_at NX.out]; rfl
      have IT := Lib.hid (itself_any ms i m e.hd eA e.kids.length eC mA fA mn mC fn fC fb tb V hm HG.out.2.2.2 (Lib.hid (hck.out.gr EV.out.gr)) (Lib.hid (fun u hu => ref_any ms i m e.hd.name mA fA mn mC fn fC fb tb u HG.out.2.2.1 hm (Lib.hid (hck.out.gr (EV.out.gr.trans hu))) (Lib.hid (by obtain ⟨z, hz⟩ := hml.out; exact ⟨z, gr_cell (EV.out.gr.trans hu) (World.block_lt_of_cell? _ _ hz) hz⟩)))))
      by_cases hit : itself ms m e.hd e.kids.length = 0
      case neg =>
        have q : (((itself ms m e.hd e.kids.length : Nat) : Int) != 0) = true := by simp; omega
        have HIT := Lib.hid hit
        clear hit
        gi_wp2_with (refine ⟨trivial, ?_⟩; gi_at_call 59; refine (callsIn_wide.2 IT.out).mono ?_; rintro e w2 ⟨rfl, hg2⟩; have G2 := Lib.hid hg2; clear hg2)
        refine leaves_marks (w := w) (fun W' hg => ?_) Ds _ (EV.out.gr.trans G2.out) (MK.out.gr G2.out)
        exact ⟨_, results_tmp rfl _ _ _, _, rfl, fun c => by rw [(HX.out.2.2 c).2.1, exsErr, exErr_self HIT.out, if_pos HIT.out], hg⟩
      have q : (((itself ms m e.hd e.kids.length : Nat) : Int) != 0) = false := by rw [hit]; rfl
      have HIT := Lib.hid hit
      clear hit
      gi_upto_region 8 with (refine ⟨trivial, ?_⟩; gi_at_call 59; refine (callsIn_wide.2 IT.out).mono ?_; rintro e w2 ⟨rfl, hg2⟩; have G2 := Lib.hid hg2; clear hg2)
      clear x0 x1 x2 x3 y0 y1 y2 y3 y4 y5 y6 y7 y8 y9 y10 q
      have E2 := Lib.hid (EV.out.gr' G2.out)
      have M2 := Lib.hid (MK.out.gr G2.out)
      have y10 : w2.cell? ⟨wr.heap.size, 10, none⟩ = some (.slice eA e.kids.length eC) := by rw [cell_at (G2.out.keep NX.out)]; rfl
      rcases Nat.eq_zero_or_pos e.kids.length with hz | hpos
      · have q : ((e.kids.length : Int) == 0) = true := by rw [hz]; rfl
        have HZ := Lib.hid hz
        clear hz
        gi_quiet (fail)
        gi_wp2
        refine Handed.intro (exsSize r) (by rw [← HX.out.1.1, exsSize, exSize_kids]; omega) (HJ.out _ _ _ ⟨_, Ds, r, ks, _, css', fre _ Ds rfl, ⟨rfl, by have := HX.out.1; rw [exsSize, exSize_kids] at this; omega⟩, M2.out.gr (Gr.drewN _ _), E2.out.gr' (Gr.drewN _ _), ri_skip HX.out.2.2 HIT.out (fun _ => by rw [List.eq_nil_of_length_eq_zero HZ.out, exsErr])⟩)
      obtain ⟨g1, o1, rfl, hca, hka⟩ := kids_at HG.out.1 hpos
      obtain ⟨rb, kk, hlk, hcl⟩ := look_row (w := w2.drew) (E2.out.map.gr (Gr.drew w2)) ⟨g1, o1, none⟩ e.kids.length (hca.gr (E2.out.gr.trans (Gr.drew w2))) (fun x hx => (E2.out.keys x hx).gr (E2.out.gr.trans (Gr.drew w2)))
      unfold keyV at hlk
      have HC := Lib.hid (And.intro hca (And.intro hka hcl))
      have q : ((e.kids.length : Int) == 0) = false := by rw [beq_eq_false_iff_ne]; omega
      have hd1 : (0 : Int) < (e.kids.length : Int) := by omega
      clear hca hka hcl
      apply merge
      case hr =>
        intro hq
        gi_region_with (fail)
        all_goals exact NoPanic.normal hq
      have GX := Lib.hid (show Gr w2 (w2.drewN (1 + kk)) from Gr.drewN _ _)
      generalize w2.drewN (1 + kk) = X at GX ⊢
      simp only [List.getElem_toArray, List.getElem_cons_succ, List.getElem_cons_zero, Act.put]
      rcases rb with _ | _
      case true =>
        gi_wp2
        refine Handed.intro (exsSize r) (by rw [← HX.out.1.1, exsSize, exSize_kids]; omega) (HJ.out _ _ _ ⟨_, Ds, r, ks, _, css', fre _ Ds rfl, ⟨rfl, by have := HX.out.1; rw [exsSize, exSize_kids] at this; omega⟩, M2.out.gr GX.out, E2.out.gr' GX.out, ri_skip HX.out.2.2 HIT.out (fun c => ?_)⟩)
        have hcl := (HX.out.2.2 c).1 e (by simp)
        refine ri_met HX.out.2.2 c (HC.out.2.1 hcl).2 ?_
        have := HC.out.2.2 ((HC.out.2.1 hcl).1.gr (E2.out.gr.trans (Gr.drew w2))) (fun x hx => ((HX.out.2.2 c).2.2 x hx).1.gr (E2.out.gr.trans (Gr.drew w2)))
        simpa using this.symm
      have E3 := Lib.hid (E2.out.gr' GX.out)
      have M3 := Lib.hid (M2.out.gr GX.out)
      have y10 := gr_cell GX.out (World.block_lt_of_cell? _ _ y10) y10
      gi_upto_region 9 with fail
      obtain ⟨k2, o2, ks', hput, hmt, hsub, _⟩ := put_row (w := X.drew) (E3.out.map.gr (Gr.drew X)) ⟨g1, o1, none⟩ e.kids.length (HC.out.1.gr (E3.out.gr.trans (Gr.drew X))) (fun x hx => (E3.out.keys x hx).gr (E3.out.gr.trans (Gr.drew X)))
      unfold keyV at hput
      have HP := Lib.hid (And.intro hmt hsub)
      clear hmt hsub
      apply merge
      case hr =>
        intro hq
        gi_region_with (fail)
        all_goals exact NoPanic.normal hq
      obtain ⟨Y, eY, EY, MY, y10⟩ : ∃ Y, (X.drewN (1 + k2)).putObj (w.heap.size + 3) o2 = Y ∧ Hid (EI w #[.slice mA mn mC, .map (some fb), .slice fA fn fC, .map (some tb)] Y r ks' (.slice (some ⟨g, 0, none⟩) r.length vC) css') ∧ Hid (MarksAt Y w.heap.size Ds) ∧ Y.cell? ⟨wr.heap.size, 10, none⟩ = some (.slice (some ⟨g1, o1, none⟩) e.kids.length eC) := by
        have hme := HP.out.1
        rw [show X.drew.drewN k2 = X.drewN (1 + k2) from World.drewN_drewN X 1 k2] at hme
        refine ⟨_, rfl, Lib.hid (E3.out.put _ _ hme (fun x hx => ?_)), Lib.hid (M3.out.put E3.out _ _), ?_⟩
        · rcases HP.out.2 x hx with hx | rfl
          · exact E3.out.keys x hx
          · exact HC.out.1
        · obtain ⟨es, cl, q1, _⟩ := E3.out.map
          exact (Kn.putObj (n := wr.heap.size + 1) (X.drewN (1 + k2)) (w.heap.size + 3) _ o2 q1 rfl).2.1 _ _ _ (Nat.lt_succ_self _) y10
      rw [eY]
      clear eY
      gi_wp2_with (refine ⟨trivial, ?_⟩; gi_at_call 60; refine (callsIn_wide.2 (back_any _ _ _ _)).mono ?_; rintro e w4 ⟨rfl, rfl⟩)
      obtain ⟨xs, hxl, hxr, hxi, hxt⟩ := kc_of HG.out.1
      rw [← hxl]
      obtain ⟨Z, eZ, GZ, BZ⟩ : ∃ Z, Y.alloc (.cells #[.slice (some ⟨g1, o1, none⟩) xs.length eC] 45) = Z ∧ Hid (Gr Y Z) ∧ Hid (Z.heap[Y.heap.size]? = some (.cells #[.slice (some ⟨g1, o1, none⟩) xs.length eC] 45 (0, 0))) := ⟨_, rfl, Lib.hid (Gr.alloc _ _), Lib.hid (new_at _ _)⟩
      rw [eZ]
      have HZS := Lib.hid (show Z.heap.size = Y.heap.size + 1 by rw [← eZ]; simp)
      clear eZ
      refine at_frame (fre _ Ds rfl) ?_
      generalize hu : (fun n => Array.getD _ n undef) = u2
      have H62 := Lib.hid (show u2 62 = .func (.func 69) #[] #[.pointer (some ⟨Y.heap.size, 0, none⟩)] by rw [← hu]; rfl)
      clear hu
      have hYs := heap_lt EY.out.box
      have HST := Lib.hid (back1_stops 8 (by omega) Y.heap.size (some ⟨g1, o1, none⟩) eC xs w Z (Kn.of_gr (EY.out.gr.trans GZ.out)) (by rw [cell_at BZ.out]; rfl) (Lib.hid hxr) (Lib.hid hxi))
      have HXS := Lib.hid (And.intro hxl hxt)
      clear hxl hxr hxi hxt
      have hD : ∀ D ∈ Ds, D < Z.heap.size := fun D hD => by have := heap_lt (MY.out.2 D hD).2; have := HZS.out; omega
      have hB : w.heap.size + 4 < Z.heap.size := by have := HZS.out; omega
      have hbn : Y.heap.size ≠ w.heap.size + 4 := by omega
      have hst : BI w #[.slice mA mn mC, .map (some fb), .slice fA fn fC, .map (some tb)] Z.heap.size Y.heap.size ks' (.slice (some ⟨g1, o1, none⟩) xs.length eC) r.length css' Ds [] Z := by
        have hz := EY.out.gr' GZ.out
        exact ⟨hz.gr, Nat.le_refl _, ⟨_, _, by simpa using hz.box, by simpa using hz.row⟩, hz.chk, BZ.out, hz.map, MY.out.gr GZ.out⟩
      unfold FrE
      refine wpIn_rangeFunc_ownH (w0 := Z) rfl (by omega) (gf := 69) (lb := #[.pointer (some ⟨Y.heap.size, 0, none⟩)]) (show u2 62 = _ from H62.out) trivial (enters_of Try.func69 (by kernel_rfl) rfl) HST.out (fun h k => h.trans k) (fun W l o o' _ h1 h2 _ => KB.putObj W l o o' h1 h2) (Below.refl _ _) (fun _ => rfl)
        (BI w #[.slice mA mn mC, .map (some fb), .slice fA fn fC, .map (some tb)] Z.heap.size Y.heap.size ks' (.slice (some ⟨g1, o1, none⟩) xs.length eC) r.length css' Ds) (fun _ _ _ => False) (BI.own hB hD) (fun c _ _ _ _ hs _ _ => hs) hst
        (KX3 0 (FrK w #[.slice mA mn mC, .map (some fb), .slice fA fn fC, .map (some tb)] (.int .i64 (i : Nat)) #[.int .i64 h.op, .string h.val.1, .int .i64 h.val.2, .string h.wid.1, .int .i64 h.wid.2, .string h.hi.1, .int .i64 h.hi.2, .string h.lo.1, .int .i64 h.lo.2, .string h.name, .slice kA kn kC] u2)) (fun x a' => KX3.own _ _ x a' _) ?assign ?body ?done ?stop
      case assign =>
        rintro l pre x W K hi hK
        dsimp only [kcVals]
        gi_wp2
        exact hK _ _ ((KeepsOthers.alloc _ _).from _) (KB.of_gr (Gr.alloc _ _)) ((BI.own hB hD).alloc _ hi) ⟨W.heap.size, Nat.zero_le _, new_at _ _, rfl⟩
      case body =>
        rintro l pre x a' W hl ⟨rec, hrec⟩ hbi ⟨Bx, hBx, hx, rfl⟩ hlt
        have hbd : r.length + pre.length + 1 ≤ 200000 := by
          have h1 := HX.out.1
          rw [exsSize, exSize_kids] at h1
          have h2 := kids_len r
          have h3 := kids_len e.kids
          have h4 := HXS.out.1
          omega
        gi_upto_region 12 with fail
        exact region12 _ _ l w W #[.slice mA mn mC, .map (some fb), .slice fA fn fC, .map (some tb)] _ _ u2 Z.heap.size Y.heap.size ks' _ r.length css' Ds pre x Bx _ hbi hB hbn hx hbd (fun a' W' h => h)
      case done =>
        rintro D ys W hDD rfl hbi hK
        gi_wp2
        obtain ⟨v', hei⟩ := ei_of_bi EY.out (HEI.out.names e (by simp)) HXS.out.1 HXS.out.2 hbi
        refine Handed.intro (exsSize (e.kids ++ r)) (by rw [← HX.out.1.1, exsSize, exSize_kids, exsSize_app]; omega) (HJ.out _ _ _ ⟨u2, D :: Ds, e.kids ++ r, ks', v', _, rfl, ⟨rfl, by have := HX.out.1; rw [exsSize, exSize_kids] at this; rw [exsSize_app]; omega⟩, ⟨List.nodup_cons.2 ⟨fun hm => by have := hD D hm; omega, hbi.marks.1⟩, fun D' hD' => ?_⟩, hei, ri_push (x := (⟨g1, o1, none⟩, e.kids.length)) HX.out.2.2 HIT.out (fun c => HC.out.2.1 ((HX.out.2.2 c).1 e (by simp))) (fun y hy => HP.out.2 y hy)⟩)
        rcases List.mem_cons.1 hD' with rfl | hD'
        · exact ⟨by omega, hK⟩
        · exact hbi.marks.2 D' hD'
      case stop =>
        rintro D c pre W _ _ h _
        exact h.elim
end Go.Proofs.Ytjkaeabnjkhllaa
