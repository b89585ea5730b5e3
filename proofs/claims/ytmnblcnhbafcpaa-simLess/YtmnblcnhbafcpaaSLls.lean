/-
  SimLess, WALKED.
-/
import Derived.Test.YtmnblcnhbafcpaaM01simLess
namespace Go.Proofs.Ytmnblcnhbafcpaa
open Go.RowKit
open NetM
open VecM

set_option maxRecDepth 100000 in
set_option maxHeartbeats 16000000 in
theorem less_walk (n : Nt) (v : Value) (A : Option Addr) (cA : Nat) (l : List (List Nat)) (p : Nat) (w : World) (hn : Hid (NtAt w n v)) (hl : l.length ≤ maxLen) (hL : Hid (RawP w A l)) (hp8 : p < 256) :
    Calls Try.prog 9 #[v, .slice A l.length cA, .int .u8 p] w fun e w' => e = .returned (.bool true) ∧ Gr w w' := by
  obtain ⟨i0, hi, hz0, hz1, hz2⟩ := info_parts info41
  have HI := Lib.hid (And.intro hi (And.intro hz0 (And.intro hz1 hz2)))
  clear hi hz0 hz1 hz2
  obtain ⟨i3, hi, hz0, hz1, hz2⟩ := info_parts infoPr
  have HJ := Lib.hid (And.intro hi (And.intro hz0 (And.intro hz1 hz2)))
  clear hi hz0 hz1 hz2
  have HV := Lib.hid (fun (u : World) (hu : Gr w u) => hn.out.gr hu)
  obtain ⟨A1, A2, A3, A4, A5, c1, c2, c3, c4, c5, rfl, hc1, h1, h2, h3, h4, h5⟩ := hn.out
  have H1 := Lib.hid h1
  have H2 := Lib.hid h2
  have H3 := Lib.hid h3
  have H4 := Lib.hid h4
  have H5 := Lib.hid h5
  clear h1 h2 h3 h4 h5
  obtain ⟨W0, eW, BW, KEEP⟩ : ∃ W0, w.alloc (.cells (bxC n A1 A2 A3 A4 A5 c1 c2 c3 c4 c5) 27) = W0 ∧ Hid (Gr w W0) ∧ Hid (∀ u, Gr W0 u → BxAt u w.heap.size n A1 A2 A3 A4 A5 c1 c2 c3 c4 c5) :=
    ⟨_, rfl, Lib.hid (bel_alloc _ _), Lib.hid fun u hu => bx_gr (bx_new w n A1 A2 A3 A4 A5 c1 c2 c3 c4 c5) (by simp) hu⟩
  obtain ⟨e0, e1, e2, e3, e4⟩ := KEEP.out W0 (Gr.refl _)
  have H0 := Lib.hid Shead_any
  obtain ⟨gb, hgb⟩ : ∃ gb : Bool, gb = true ↔ NGreat n := by classical exact ⟨decide _, decide_eq_true_iff⟩
  obtain ⟨rb, hrb⟩ : ∃ rb : Bool, rb = true ↔ NRight n := by classical exact ⟨decide _, decide_eq_true_iff⟩
  have GC := Lib.hid (fun (u : World) (hu : Gr w u) => Great_any n _ u (Lib.hid (HV.out u hu)) gb (Lib.hid hgb))
  go_enter Try.func9, Try.ntmps9
  go_wp2_with fail
  try rw [eW]
  clear eW
  refine (H0.out _).mono ?_
  rintro e w1 ⟨rfl, hg⟩
  have G1 := Lib.hid hg
  clear hg e0 e1 e2 e3 e4
  obtain ⟨e0, e1, e2, e3, e4⟩ := KEEP.out _ G1.out
  go_wp2_with fail
  refine (GC.out _ (Gr.trans BW.out G1.out)).mono ?_
  rintro e w2 ⟨rfl, hg⟩
  have G2 := Lib.hid (Gr.trans G1.out hg)
  clear hg e0 e1 e2 e3 e4
  obtain ⟨e0, e1, e2, e3, e4⟩ := KEEP.out _ G2.out
  cases gb with
  | true =>
    go_wp2_with fail
    all_goals
      go_ret
      exact ⟨rfl, Gr.trans BW.out G2.out⟩
  | false =>
  have hz := sz_of (fun h => by have := hgb.2 h; simp at this)
  have hs : Sz n := by unfold Sz; omega
  have RC := Lib.hid (fun (u : World) (hu : Gr w u) => RRight_any n _ u hs (Lib.hid (HV.out u hu)) rb (Lib.hid hrb))
  clear hgb GC
  go_wp2_with fail
  refine (RC.out _ (Gr.trans BW.out G2.out)).mono ?_
  rintro e w3 ⟨rfl, hg⟩
  have G3 := Lib.hid (Gr.trans G2.out hg)
  clear RC
  clear hg e0 e1 e2 e3 e4
  obtain ⟨e0, e1, e2, e3, e4⟩ := KEEP.out _ G3.out
  cases rb with
  | false =>
    go_wp2_with fail
    all_goals
      go_ret
      exact ⟨rfl, Gr.trans BW.out G3.out⟩
  | true =>
  have hR := hrb.1 rfl
  clear hrb
  have hw := wok_of hR.1
  have hI := hR.2.1.2
  by_cases hp0 : n.props.length = 0
  · have q0 : ((n.props.length : Int) == 0) = true := by simp [hp0]
    clear hp0
    go_wp2_with fail
    all_goals
      go_ret
      exact ⟨rfl, Gr.trans BW.out G3.out⟩
  have q0 : ((n.props.length : Int) == 0) = false := beq_eq_false_iff_ne.2 (by omega)
  have q1 : ¬ (n.props.length : Int) = 0 := by omega
  by_cases h16 : 16 ≤ n.props.length
  case pos =>
    have h1 : (16 : Int) ≤ (n.props.length : Int) := by omega
    go_wp2_with fail
    all_goals
      go_ret
      exact ⟨rfl, Gr.trans BW.out G3.out⟩
  case neg =>
  have h1 : ¬ (16 : Int) ≤ (n.props.length : Int) := by omega
  have H16 := Lib.hid (show n.props.length < 16 by omega)
  have HSZ := Lib.hid hz
  clear hz
  have TR := Lib.hid (Trace_any n _ A cA l w3 hs (Lib.hid (HV.out _ (Gr.trans BW.out G3.out))) hw hI hl (Lib.hid (hL.out.gr (Gr.trans BW.out G3.out))))
  go_wp2_with fail
  refine TR.out.mono ?_
  rintro e w4 ⟨vt, rfl, ht4, hg⟩
  have G4 := Lib.hid (Gr.trans G3.out hg)
  obtain ⟨t, htq⟩ : ∃ t, trOf n l = t := ⟨_, rfl⟩
  have hto : TrOk n t := by rw [← htq]; exact trOf_ok n l
  have htl : t.length ≤ 64 := by rw [← htq]; exact trOf_len n l
  rw [htq] at ht4
  have HT := Lib.hid ht4
  obtain ⟨At, ct, rfl, hct, hrt⟩ := ht4
  rw [List.length_map] at hct HT ⊢
  have HTP := Lib.hid hrt
  clear hrt TR htq
  clear hg e0 e1 e2 e3 e4
  obtain ⟨e0, e1, e2, e3, e4⟩ := KEEP.out _ G4.out
  have HV4 := Lib.hid (fun (u : World) (hu : Gr w4 u) => HV.out u (Gr.trans BW.out (Gr.trans G4.out hu)))
  have ST := Lib.hid (fun (u : World) (hu : Gr w4 u) => SStates_any n _ _ t u hs (Lib.hid (HV4.out u hu)) hR hto htl (Lib.hid (HT.out.gr hu)))
  have RU := Lib.hid (fun (u : World) (hu : Gr w4 u) => SRun_any n _ _ t u hs (Lib.hid (HV4.out u hu)) hR hto htl (Lib.hid (HT.out.gr hu)))
  have HH := Lib.hid (fun (pi : Int) (u : World) (hu : Gr w4 u) => SHit_any n _ _ pi t u hs (Lib.hid (HV4.out u hu)) hR hto htl (Lib.hid (HT.out.gr hu)))
  have U4 := Lib.hid (Gr.refl w4)
  obtain ⟨q, hq⟩ : ∃ q, q = p % n.props.length := ⟨_, rfl⟩
  have hql : q < n.props.length := by rw [hq]; exact Nat.mod_lt _ (by omega)
  have htm : Int.tmod (p : Int) (n.props.length : Int) = (q : Int) := by rw [Int.tmod_eq_emod_of_nonneg (by omega), ← Int.natCast_emod, ← hq]
  have r0 := wrap_int (y := (p : Int)) (by omega) (by omega)
  have hz := hs
  unfold Sz at hz
  have r1 := wrap_int (y := (q : Int)) (by omega) (by omega)
  clear hz
  have hpr : n.props[q]? = some n.props[q] := List.getElem?_eq_getElem hql
  generalize n.props[q] = pr at hpr
  obtain ⟨kk, is, hki⟩ : ∃ kk is, hitF n t pr q 0 t.length = (kk, is) := ⟨_, _, rfl⟩
  have HQ := Lib.hid (fun (u : World) (hu : Gr w4 u) => HH.out (q : Int) u hu)
  simp only [hitOf_at hpr, hki] at HQ
  have HNP := Lib.hid (nodes_pos hR (List.mem_of_getElem? hpr))
  obtain ⟨b1, o1, rfl, -⟩ := H1.out 0 _ (List.getElem?_eq_getElem HNP.out)
  obtain ⟨b4, o4, rfl, -⟩ := H4.out q pr hpr
  have KI := Lib.hid hki
  have PR := Lib.hid hpr
  clear hki hpr HH ST RU hq
  go_wp2_with fail
  refine (HQ.out _ U4.out).mono ?_
  rintro e w5 ⟨rfl, hg⟩
  have G5 := Lib.hid (Gr.trans G4.out hg)
  have U5 := Lib.hid (Gr.trans U4.out hg)
  clear htm r0 r1 HQ
  clear hg e0 e1 e2 e3 e4
  obtain ⟨e0, e1, e2, e3, e4⟩ := KEEP.out _ G5.out
  clear h1 h16
  go_upto_region 8 with fail
  obtain ⟨X, eX, GX, XB, XS⟩ : ∃ X, w5.alloc (.cells #[.slice (some ⟨b1, o1, none⟩) n.nodes.length c1, .slice A2 n.ins.length c2, .slice A3 n.cells.length c3, .slice (some ⟨b4, o4, none⟩) n.props.length c4, .slice A5 n.names.length c5] 27) = X ∧ Hid (Gr w5 X) ∧ Hid (X.heap[w5.heap.size]? = some (.cells #[.slice (some ⟨b1, o1, none⟩) n.nodes.length c1, .slice A2 n.ins.length c2, .slice A3 n.cells.length c3, .slice (some ⟨b4, o4, none⟩) n.props.length c4, .slice A5 n.names.length c5] 27 (0, 0))) ∧ Hid (X.heap.size = w5.heap.size + 1) :=
    ⟨_, rfl, Lib.hid (bel_alloc _ _), Lib.hid (heap_new' _ _), Lib.hid (by simp)⟩
  rw [eX]
  clear eX e0 e1 e2 e3 e4
  obtain ⟨e0, e1, e2, e3, e4⟩ := KEEP.out _ (Gr.trans G5.out GX.out)
  obtain ⟨x0, x1, x2, x3, x4⟩ := KEEP.out (X.alloc (.cells #[] 47)) (Gr.trans G5.out (Gr.trans GX.out (bel_alloc _ _)))
  go_upto_region 9 with (at_builtin; refine append_src _ rfl _ _ 25 rfl X.heap.size 47 i3 (.agg #[.int .i64 0, .string ByteArray.empty, .int .i64 0]) 3 32 Try.underlying25 HJ.out.1 HJ.out.2.1 HJ.out.2.2.1 HJ.out.2.2.2 rfl (by decide) (.slice (some ⟨X.heap.size, 0, none⟩) 0 0) 0 [] rfl (own_empty X 47 3 X.heap.size (Nat.le_refl _)) (some ⟨b4, o4, none⟩) n.props.length c4 (n.props.flatMap prL) rfl (fun h => by cases h) (flat_len prL prL_len _) (pr_news (H4.out.gr (Gr.trans BW.out (Gr.trans G5.out (Gr.trans GX.out (bel_alloc X (.cells #[] 47))))))) (pr_one _) (by unfold maxLen; omega) (by omega) (by simp) ?_; intro v6 w6 hown hb6; have B6 := Lib.hid (show Gr X w6 from Below.trans (bel_alloc X (.cells #[] 47)) hb6); have hown6 : w6.ownsRow X.heap.size 47 3 v6 n.props.length (n.props.flatMap prL) := (by simpa using hown); obtain ⟨g6, d6, rfl, hg6, hl6⟩ := hown6.form (by omega); have O6 := Lib.hid hown6; obtain ⟨y0, y1, y2, y3, y4, yf⟩ := box_five (heap_gr XB.out B6.out); obtain ⟨e0, e1, e2, e3, e4⟩ := KEEP.out _ (Gr.trans G5.out (Gr.trans GX.out B6.out)); clear hown hown6 hb6)
  obtain ⟨W6, eW6, OK6⟩ : ∃ W6, w6.setCell ⟨w5.heap.size, 3, none⟩ (.slice (some ⟨g6, 0, none⟩) n.props.length d6) = W6 ∧ Hid (LsP n g6 d6 w5.heap.size X.heap.size 0 (some ⟨b1, o1, none⟩) A2 A3 A5 c1 c2 c3 c5 w5 W6) := by
    have hxs := XS.out
    refine ⟨_, rfl, Lib.hid ⟨Below.setCell (Gr.trans GX.out B6.out) (p := ⟨w5.heap.size, 3, none⟩) (Nat.le_refl _) _, ?_, ?_⟩⟩
    · have h7 := heap_setCell_same w6 w5.heap.size 3 _ 27 (.slice (some ⟨g6, 0, none⟩) n.props.length d6) (heap_gr XB.out B6.out)
      simpa using h7
    · have h8 := own_put (g := w5.heap.size) (o := 3) (val := .slice (some ⟨g6, 0, none⟩) n.props.length d6) O6.out (by omega)
      simpa [mixP] using h8
  rw [eW6]
  have HG6 := Lib.hid (show w5.heap.size < g6 from by have := XS.out; omega)
  clear eW6 e0 e1 e2 e3 e4 x0 x1 x2 x3 x4 y0 y1 y2 y3 y4 yf O6 B6 hl6 hg6
  go_wp2_with fail
  go_loopg [13] n.props.length (fun g y wr => ∃ j : Nat, j + g = n.props.length ∧ y = .int .i64 j ∧ Hid (LsP n g6 d6 w5.heap.size X.heap.size j (some ⟨b1, o1, none⟩) A2 A3 A5 c1 c2 c3 c5 w5 wr))
  case atStart => exact ⟨0, by omega, rfl, OK6⟩
  case round =>
    obtain ⟨j, hjg, rfl, HR⟩ := hrel
    have HJG := Lib.hid hjg
    have hjl : j ≤ n.props.length := by omega
    clear hjg
    obtain ⟨y0, y1, y2, y3, y4, yf⟩ := box_five HR.out.2.1
    by_cases hlt : j < n.props.length
    case pos =>
      have j1 : (j : Int) < (n.props.length : Int) := by omega
      have j2 : (0 : Int) ≤ (j : Int) := by omega
      have hp : n.props[j]? = some n.props[j] := List.getElem?_eq_getElem hlt
      generalize n.props[j] = p0 at hp
      obtain ⟨s0, f0⟩ := ls_kind HR.out hp
      have HP0 := Lib.hid hp
      clear hp
      by_cases h9 : p0.kind = 9
      case pos =>
        have k9 : (p0.kind == 9) = true := by simp [h9]
        have HN := Lib.hid (ls_step HR.out HP0.out h9 (by have := HG6.out; omega) (by have := HG6.out; omega))
        clear h9
        go_wp2_with fail
        go_roundg (gk - 1)
        case measure => have := HJG.out; omega
        case rel => exact ⟨j + 1, by have := HJG.out; omega, by go_num, HN⟩
      case neg =>
        have k9 : (p0.kind == 9) = false := by simp [h9]
        have HN := Lib.hid (ls_same HR.out HP0.out h9)
        clear h9
        go_wp2_with fail
        go_roundg (gk - 1)
        case measure => have := HJG.out; omega
        case rel => exact ⟨j + 1, by have := HJG.out; omega, by go_num, HN⟩
    case neg =>
    have hjn : j = n.props.length := by omega
    subst hjn
    have j1 : ¬ (n.props.length : Int) < (n.props.length : Int) := by omega
    obtain ⟨Wm, rfl⟩ : ∃ x, x = wr := ⟨_, rfl⟩
    have GM := Lib.hid HR.out.1
    have HNM := Lib.hid (fun (u : World) (hu : Gr Wm u) => (ls_net HR.out (Gr.trans BW.out G5.out) hc1 H1.out H2.out H3.out H5.out).gr hu)
    have HM := Lib.hid (fun (u : World) (hu : Gr Wm u) => SHit_any (withP n (n.props.map coverP)) _ _ (q : Int) t u (sz_cover hs) (Lib.hid (HNM.out u hu)) (right_cover hR) hto htl (Lib.hid (HT.out.gr (Gr.trans U5.out (Gr.trans GM.out hu)))))
    have hprm : (withP n (n.props.map coverP)).props[q]? = some (coverP pr) := by show (n.props.map coverP)[q]? = _; rw [List.getElem?_map, PR.out]; rfl
    have QZ := Lib.hid (show hitOf (withZ n ByteArray.empty) t (q : Nat) = (0, false) from by
      rw [hitOf_at (p := pr) (by show (n.props ++ [_])[q]? = _; rw [List.getElem?_append_left hql]; exact PR.out)]
      exact hitF_none (hitF_withZ _ _ _ _ _ _))
    have HCOV := Lib.hid (fun (h : pr.kind ≠ 9) (h2 : is = true) => (show hitOf (withP n (n.props.map coverP)) t (q : Nat) = (kk, true) from by
      rw [hitOf_at hprm]
      exact hitF_cover h (by rw [KI.out, h2])))
    clear hprm HJG hjl hlt
    have HQ := Lib.hid (And.intro hto htl)
    obtain ⟨e0, e1, e2, e3, e4⟩ := KEEP.out _ (Gr.trans G5.out GM.out)
    obtain ⟨b', o', e', -, d0, -, -⟩ := (H4.out.gr (Gr.trans BW.out (Gr.trans G5.out GM.out))) q pr PR.out
    simp only [Option.some.injEq, Addr.mk.injEq, and_true] at e'
    obtain ⟨rfl, rfl⟩ := e'
    have q4 : (q : Int) < (n.props.length : Int) := by omega
    have q5 : (0 : Int) ≤ (q : Int) := by omega
    by_cases h9 : pr.kind = 9
    case pos =>
      have k9 : (pr.kind != 9) = false := by simp [h9]
      clear h9 HM HCOV
      have GW := GM
      go_upto_region 18 with fail
      go_upto_region 19 with fail
      obtain ⟨Y, eY, GY, YB, YS⟩ : ∃ Y, Wm.alloc (.cells #[.slice (some ⟨b1, o1, none⟩) n.nodes.length c1, .slice A2 n.ins.length c2, .slice A3 n.cells.length c3, .slice (some ⟨b4, o4, none⟩) n.props.length c4, .slice A5 n.names.length c5] 27) = Y ∧ Hid (Gr Wm Y) ∧ Hid (Y.heap[Wm.heap.size]? = some (.cells #[.slice (some ⟨b1, o1, none⟩) n.nodes.length c1, .slice A2 n.ins.length c2, .slice A3 n.cells.length c3, .slice (some ⟨b4, o4, none⟩) n.props.length c4, .slice A5 n.names.length c5] 27 (0, 0))) ∧ Hid (Y.heap.size = Wm.heap.size + 1) :=
        ⟨_, rfl, Lib.hid (bel_alloc _ _), Lib.hid (heap_new' _ _), Lib.hid (by simp)⟩
      rw [eY]
      clear eY e0 e1 e2 e3 e4
      try clear y0 y1 y2 y3 y4 yf
      try clear d0
      obtain ⟨e0, e1, e2, e3, e4⟩ := KEEP.out _ (Gr.trans G5.out (Gr.trans GW.out GY.out))
      obtain ⟨x0, x1, x2, x3, x4⟩ := KEEP.out (Y.alloc (.cells #[] 53)) (Gr.trans G5.out (Gr.trans GW.out (Gr.trans GY.out (bel_alloc _ _))))
      go_upto_region 20 with (at_builtin; first | (refine append_src _ rfl _ _ 22 rfl Y.heap.size 53 i0 (.agg #[.int .i64 0, .int .i64 0, .int .i64 0, .int .i64 0, .int .i64 0, .int .i64 0, .int .i64 0]) 7 56 Try.underlying22 HI.out.1 HI.out.2.1 HI.out.2.2.1 HI.out.2.2.2 rfl (by decide) (.slice (some ⟨Y.heap.size, 0, none⟩) 0 0) 0 [] rfl (own_empty Y 53 7 Y.heap.size (Nat.le_refl _)) (some ⟨b1, o1, none⟩) n.nodes.length c1 (n.nodes.flatMap ndL) rfl (fun h => by cases h) (flat_len ndL ndL_len _) (nd_news (H1.out.gr (Gr.trans BW.out (Gr.trans G5.out (Gr.trans GW.out (Gr.trans GY.out (bel_alloc Y (.cells #[] 53)))))))) (nd_one _) (by have := HSZ.out; unfold maxLen; omega) (by have := HSZ.out; omega) (by simp) ?_; intro v7 w7 hown hb7; have B7 := Lib.hid (show Gr Y w7 from Below.trans (bel_alloc Y (.cells #[] 53)) hb7); have hown7 : w7.ownsRow Y.heap.size 53 7 v7 n.nodes.length (n.nodes.flatMap ndL) := (by simpa using hown); have O7 := Lib.hid hown7; clear hown hown7 hb7) | (refine append_src _ rfl _ _ 22 rfl Y.heap.size 53 i0 (.agg #[.int .i64 0, .int .i64 0, .int .i64 0, .int .i64 0, .int .i64 0, .int .i64 0, .int .i64 0]) 7 56 Try.underlying22 HI.out.1 HI.out.2.1 HI.out.2.2.1 HI.out.2.2.2 rfl (by decide) v7 n.nodes.length (n.nodes.flatMap ndL) rfl (O7.out.alloc _) (some ⟨w7.heap.size, 0, none⟩) 1 1 (ndL zeroNd) rfl (fun h => by cases h) rfl (fun ad e j u hj => by obtain rfl := Option.some.inj e; exact row_laid w7 #[.int .i64 1, .int .i64 1, .int .i64 0, .int .i64 0, .int .i64 0, .int .i64 0, .int .i64 0] 53 j u hj) (by simpa using nd_one [zeroNd]) (by have := HSZ.out; unfold maxLen; omega) (by have := HSZ.out; omega) (Nat.le_trans B7.out.size (bel_alloc w7 _).size) ?_; intro v8 w8 hown hb8; have B8 := Lib.hid (show Gr Y w8 from Below.trans (Below.trans B7.out (Below.mono (bel_alloc w7 (.cells #[.int .i64 1, .int .i64 1, .int .i64 0, .int .i64 0, .int .i64 0, .int .i64 0, .int .i64 0] 53)) B7.out.size)) hb8); have hown8 : w8.ownsRow Y.heap.size 53 7 v8 (n.nodes.length + 1) ((n.nodes ++ [zeroNd]).flatMap ndL) := (by rw [List.flatMap_append]; simpa using hown); have O8 := Lib.hid hown8; obtain ⟨g8, d8, rfl, hg8, hl8⟩ := hown8.form (by omega); obtain ⟨y0, y1, y2, y3, y4, yf⟩ := box_five (heap_gr YB.out B8.out); clear hown hown8 hb8))
      obtain ⟨Z, eZ, OKZ⟩ : ∃ Z, w8.setCell ⟨Wm.heap.size, 0, none⟩ (.slice (some ⟨g8, 0, none⟩) (n.nodes.length + 1) d8) = Z ∧ Hid (Z.ownsRow Y.heap.size 53 7 (.slice (some ⟨g8, 0, none⟩) (n.nodes.length + 1) d8) (n.nodes.length + 1) ((n.nodes ++ [zeroNd]).flatMap ndL) ∧ Z.heap[Wm.heap.size]? = some (.cells #[.slice (some ⟨g8, 0, none⟩) (n.nodes.length + 1) d8, .slice A2 n.ins.length c2, .slice A3 n.cells.length c3, .slice (some ⟨b4, o4, none⟩) n.props.length c4, .slice A5 n.names.length c5] 27 (0, 0)) ∧ Gr Wm Z ∧ Wm.heap.size < Z.heap.size) := by
        have hys := YS.out
        refine ⟨_, rfl, Lib.hid ⟨own_put O8.out (by omega), ?_, Below.setCell (Gr.trans GY.out B8.out) (p := ⟨Wm.heap.size, 0, none⟩) (Nat.le_refl _) _, by have := B8.out.size; simp; omega⟩⟩
        have h7 := heap_setCell_same w8 Wm.heap.size 0 _ 27 (.slice (some ⟨g8, 0, none⟩) (n.nodes.length + 1) d8) (heap_gr YB.out B8.out)
        simpa using h7
      rw [eZ]
      clear eZ e0 e1 e2 e3 e4 x0 x1 x2 x3 x4 y0 y1 y2 y3 y4 yf O8 B8 O7 B7 hl8 hg8
      have KZ := Lib.hid (fun (u : World) (hu : Gr Z u) => (show BxAt u w.heap.size n (some ⟨b1, o1, none⟩) A2 A3 (some ⟨b4, o4, none⟩) A5 c1 c2 c3 c4 c5 from KEEP.out u (Gr.trans G5.out (Gr.trans GW.out (Gr.trans OKZ.out.2.2.1 hu)))))
      refine wp_region_held_drew (S := (fun u : World => BxAt u w.heap.size n (some ⟨b1, o1, none⟩) A2 A3 (some ⟨b4, o4, none⟩) A5 c1 c2 c3 c4 c5)) (by kernel_rfl) (KZ.out _ (Gr.drew _)) (fun hHeld => ?_)
      refine wpAnyH_take (i := 1) (oi := { dst := some 115, op := Op.fieldAddr 27 (Operand.tmp 3) 3, type := 0, pos := "law.go:226", after := #[], guard := none }) (v := ?_) rfl (by kernel_rfl) (by kernel_rfl) (by kernel_rfl) (fun _ _ _ h => h) (Or.inl ⟨by rfl, ?_⟩) hHeld ?_
      case refine_2 => (intro w hSw; (try dsimp only at hSw); go_simp; try (with_reducible rfl))
      try simp only [Act.put, List.setIfInBounds_toArray, List.set_cons_zero, List.set_cons_succ]
      refine wpAnyH_take (i := 2) (oi := { dst := some 116, op := Op.load 25 (Operand.tmp 115), type := 25, pos := "law.go:226", after := #[{ on := 1, ground := Ground.data }], guard := none }) (v := ?_) rfl (by kernel_rfl) (by kernel_rfl) (by kernel_rfl) (fun _ _ _ h => h) (Or.inl ⟨by rfl, ?_⟩) hHeld ?_
      case refine_2 => (intro w hSw; (try dsimp only at hSw); go_simp; try (with_reducible rfl))
      try simp only [Act.put, List.setIfInBounds_toArray, List.set_cons_zero, List.set_cons_succ]
      refine wpAnyH_take (i := 4) (oi := { dst := some 118, op := Op.fieldAddr 27 (Operand.tmp 3) 0, type := 0, pos := "law.go:226", after := #[], guard := none }) (v := ?_) rfl (by kernel_rfl) (by kernel_rfl) (by kernel_rfl) (fun _ _ _ h => h) (Or.inl ⟨by rfl, ?_⟩) hHeld ?_
      case refine_2 => (intro w hSw; (try dsimp only at hSw); go_simp; try (with_reducible rfl))
      try simp only [Act.put, List.setIfInBounds_toArray, List.set_cons_zero, List.set_cons_succ]
      refine wpAnyH_take (i := 5) (oi := { dst := some 119, op := Op.load 22 (Operand.tmp 118), type := 22, pos := "law.go:226", after := #[{ on := 4, ground := Ground.data }], guard := none }) (v := ?_) rfl (by kernel_rfl) (by kernel_rfl) (by kernel_rfl) (fun _ _ _ h => h) (Or.inl ⟨by rfl, ?_⟩) hHeld ?_
      case refine_2 => (intro w hSw; (try dsimp only at hSw); go_simp; try (with_reducible rfl))
      try simp only [Act.put, List.setIfInBounds_toArray, List.set_cons_zero, List.set_cons_succ]
      refine wpAnyH_take (i := 6) (oi := { dst := some 120, op := Op.call { callee := Callee.builtin Builtin.len, args := #[Operand.tmp 119], argTypes := #[22] }, type := 3, pos := "law.go:226", after := #[{ on := 5, ground := Ground.data }], guard := none }) (v := ?_) rfl (by kernel_rfl) (by kernel_rfl) (by kernel_rfl) (fun _ _ _ h => h) (Or.inl ⟨by rfl, ?_⟩) hHeld ?_
      case refine_2 => (intro w hSw; (try dsimp only at hSw); go_simp; try (with_reducible rfl))
      try simp only [Act.put, List.setIfInBounds_toArray, List.set_cons_zero, List.set_cons_succ]
      refine wpAnyH_take (i := 7) (oi := { dst := some 121, op := Op.build 47 #[(0, Operand.const (Value.int IntKind.i64 9)), (2, Operand.tmp 120)], type := 47, pos := "law.go:226", after := #[{ on := 6, ground := Ground.data }], guard := none }) (v := ?_) rfl (by kernel_rfl) (by kernel_rfl) (by kernel_rfl) (fun _ _ _ h => h) (Or.inl ⟨by rfl, ?_⟩) hHeld ?_
      case refine_2 => (intro w hSw; (try dsimp only at hSw); go_simp; try (with_reducible rfl))
      try simp only [Act.put, List.setIfInBounds_toArray, List.set_cons_zero, List.set_cons_succ]
      refine wpAnyH_ready (rs := [0, 8]) (by kernel_rfl) (by simp) ?_
      refine (AllReadyH.cons (o := { dst := some 114, op := Op.buildSlice 25 0 #[], type := 25, pos := "law.go:226", after := #[], guard := none }) rfl (fun K hK => ?_) (AllReadyH.cons (o := { dst := some 122, op := Op.buildSlice 25 1 #[(0, Operand.tmp 121)], type := 25, pos := "law.go:226", after := #[{ on := 7, ground := Ground.data }], guard := none }) rfl (fun K hK => ?_) AllReadyH.nil))
      · skip
        have GN0 := Lib.hid (show Gr Z (Z.alloc (.cells #[] 47)) from Gr.trans (Gr.refl Z) (bel_alloc Z (.cells #[] 47)))
        have GN0d := Lib.hid (show Gr Z (Z.alloc (.cells #[] 47)).drew from Below.drew GN0.out)
        have OA := Lib.hid (show ((Z.alloc (.cells #[] 47))).ownsRow Z.heap.size 47 3 (.slice (some ⟨Z.heap.size, 0, none⟩) 0 0) 0 [] from by have h := own_empty Z 47 3 Z.heap.size ((Gr.refl Z)).size; simpa using h)
        go_simp
        refine hK.out _ _ (KZ.out _ GN0d.out) (fun hHeld => ?_)
        clear hK K
        try simp only [Act.put, List.setIfInBounds_toArray, List.set_cons_zero, List.set_cons_succ]
        refine wpAnyH_ready (rs := [3, 8]) (by kernel_rfl) (by simp) ?_
        refine (AllReadyH.cons (o := { dst := some 117, op := Op.call { callee := Callee.builtin Builtin.append, args := #[Operand.tmp 114, Operand.tmp 116], argTypes := #[25, 25] }, type := 25, pos := "law.go:226", after := #[{ on := 0, ground := Ground.data }, { on := 2, ground := Ground.data }], guard := none }) rfl (fun K hK => ?_) (AllReadyH.cons (o := { dst := some 122, op := Op.buildSlice 25 1 #[(0, Operand.tmp 121)], type := 25, pos := "law.go:226", after := #[{ on := 7, ground := Ground.data }], guard := none }) rfl (fun K hK => ?_) AllReadyH.nil))
        · skip
          refine step_src _ rfl _ _ 25 rfl Z.heap.size 47 i3 (.agg #[.int .i64 0, .string ByteArray.empty, .int .i64 0]) 3 32 Try.underlying25 HJ.out.1 HJ.out.2.1 HJ.out.2.2.1 HJ.out.2.2.2 rfl (by decide) (.slice (some ⟨Z.heap.size, 0, none⟩) 0 0) 0 [] rfl OA.out.drew (some ⟨b4, o4, none⟩) (by simp) n.props.length c4 (n.props.flatMap prL) rfl (flat_len prL prL_len _) (pr_news (H4.out.gr (Gr.trans BW.out (Gr.trans G5.out (Gr.trans GW.out (Gr.trans OKZ.out.2.2.1 (Below.drew GN0.out))))))) (pr_one _) (by have := H16.out; unfold maxLen; omega) (by have := H16.out; omega) (GN0.out).size ?_
          intro v9 wA hown hgrow
          have GA := Lib.hid (show Gr Z wA from Below.grown (Below.drew GN0.out) hgrow (GN0.out).size (fun k hk => (OA.out.lt k hk).1))
          have OV := Lib.hid (show wA.ownsRow Z.heap.size 47 3 v9 n.props.length (n.props.flatMap prL) from by simpa using hown)
          refine hK.out _ _ (KZ.out _ GA.out) (fun hHeld => ?_)
          clear hK K hown hgrow
          try simp only [Act.put, List.setIfInBounds_toArray, List.set_cons_zero, List.set_cons_succ]
          refine wpAnyH_ready (rs := [8]) (by kernel_rfl) (by simp) ?_
          refine (AllReadyH.cons (o := { dst := some 122, op := Op.buildSlice 25 1 #[(0, Operand.tmp 121)], type := 25, pos := "law.go:226", after := #[{ on := 7, ground := Ground.data }], guard := none }) rfl (fun K hK => ?_) AllReadyH.nil)
          have GN8 := Lib.hid (show Gr Z (wA.alloc (.cells #[.int .i64 9, .string ByteArray.empty, .int .i64 (n.nodes.length : Nat)] 47)) from Gr.trans GA.out (bel_alloc wA (.cells #[.int .i64 9, .string ByteArray.empty, .int .i64 (n.nodes.length : Nat)] 47)))
          have GN8d := Lib.hid (show Gr Z (wA.alloc (.cells #[.int .i64 9, .string ByteArray.empty, .int .i64 (n.nodes.length : Nat)] 47)) from GN8.out)
          have HBB := Lib.hid (show ((wA.alloc (.cells #[.int .i64 9, .string ByteArray.empty, .int .i64 (n.nodes.length : Nat)] 47))).heap[wA.heap.size]? = some (.cells #[.int .i64 9, .string ByteArray.empty, .int .i64 (n.nodes.length : Nat)] 47 (0, 0)) from by have h := heap_new' wA (.cells #[.int .i64 9, .string ByteArray.empty, .int .i64 (n.nodes.length : Nat)] 47); simpa using h)
          have OV := Lib.hid (OV.out.alloc (.cells #[.int .i64 9, .string ByteArray.empty, .int .i64 (n.nodes.length : Nat)] 47))
          go_simp
          refine hK.out _ _ (KZ.out _ GN8d.out) (fun hHeld => ?_)
          clear hK K
          try simp only [Act.put, List.setIfInBounds_toArray, List.set_cons_zero, List.set_cons_succ]
          refine wpAnyH_ready (rs := [9]) (by kernel_rfl) (by simp) ?_
          refine (AllReadyH.cons (o := { dst := some 123, op := Op.call { callee := Callee.builtin Builtin.append, args := #[Operand.tmp 117, Operand.tmp 122], argTypes := #[25, 25] }, type := 25, pos := "law.go:226", after := #[{ on := 3, ground := Ground.data }, { on := 8, ground := Ground.data }, { on := 3, ground := Ground.chain }], guard := none }) rfl (fun K hK => ?_) AllReadyH.nil)
          refine step_src _ rfl _ _ 25 rfl Z.heap.size 47 i3 (.agg #[.int .i64 0, .string ByteArray.empty, .int .i64 0]) 3 32 Try.underlying25 HJ.out.1 HJ.out.2.1 HJ.out.2.2.1 HJ.out.2.2.2 rfl (by decide) v9 n.props.length (n.props.flatMap prL) rfl OV.out (some ⟨wA.heap.size, 0, none⟩) (by simp) 1 1 (prL (⟨9, ByteArray.empty, (n.nodes.length : Nat)⟩ : Pr)) rfl rfl (fun ad e => by obtain rfl := Option.some.inj e; exact World.news_of_block HBB.out) (by simpa using pr_one [(⟨9, ByteArray.empty, (n.nodes.length : Nat)⟩ : Pr)]) (by have := H16.out; unfold maxLen; omega) (by have := H16.out; omega) (GN8.out).size ?_
          intro vB wB hown hgrow
          have GB := Lib.hid (show Gr Z wB from Below.grown GN8.out hgrow (GN8.out).size (fun k hk => (OV.out.lt k hk).1))
          have hownB : wB.ownsRow Z.heap.size 47 3 vB (n.props.length + 1) ((n.props ++ [(⟨9, ByteArray.empty, (n.nodes.length : Nat)⟩ : Pr)]).flatMap prL) := (by rw [List.flatMap_append]; simpa using hown)
          obtain ⟨g9, d9, rfl, hg9, -⟩ := hownB.form (by omega)
          have OB := Lib.hid hownB
          have HG9 := Lib.hid hg9
          obtain ⟨y0, y1, y2, y3, y4, yf⟩ := box_five (heap_gr OKZ.out.2.1 GB.out)
          refine hK.out _ _ (KZ.out _ GB.out) (fun hHeld => ?_)
          clear hK K hown hgrow hownB hg9
          try simp only [Act.put, List.setIfInBounds_toArray, List.set_cons_zero, List.set_cons_succ]
          refine wpAnyH_take (i := 10) (oi := { dst := some 124, op := Op.fieldAddr 27 (Operand.tmp 16) 3, type := 0, pos := "law.go:226", after := #[{ on := 0, ground := Ground.phase }, { on := 1, ground := Ground.phase }, { on := 2, ground := Ground.phase }, { on := 3, ground := Ground.phase }, { on := 4, ground := Ground.phase }, { on := 5, ground := Ground.phase }, { on := 6, ground := Ground.phase }, { on := 7, ground := Ground.phase }, { on := 8, ground := Ground.phase }, { on := 9, ground := Ground.phase }], guard := none }) (v := ?_) rfl (by kernel_rfl) (by kernel_rfl) (by kernel_rfl) (fun _ _ _ h => h) (Or.inl ⟨by rfl, ?_⟩) hHeld ?_
          case refine_2 => (intro w hSw; (try dsimp only at hSw); go_simp; try (with_reducible rfl))
          try simp only [Act.put, List.setIfInBounds_toArray, List.set_cons_zero, List.set_cons_succ]
          refine wpAnyH_ready (rs := [11]) (by kernel_rfl) (by simp) ?_
          refine (AllReadyH.cons (o := { dst := none, op := Op.store 25 (Operand.tmp 124) (Operand.tmp 123), type := 0, pos := "law.go:226", after := #[{ on := 10, ground := Ground.data }, { on := 9, ground := Ground.data }, { on := 9, ground := Ground.chain }, { on := 0, ground := Ground.phase }, { on := 1, ground := Ground.phase }, { on := 2, ground := Ground.phase }, { on := 3, ground := Ground.phase }, { on := 4, ground := Ground.phase }, { on := 5, ground := Ground.phase }, { on := 6, ground := Ground.phase }, { on := 7, ground := Ground.phase }, { on := 8, ground := Ground.phase }, { on := 9, ground := Ground.phase }], guard := none }) rfl (fun K hK => ?_) AllReadyH.nil)
          go_simp
          have GS := Lib.hid (show Gr Wm (wB.setCell ⟨Wm.heap.size, 3, none⟩ (.slice (some ⟨g9, 0, none⟩) (n.props.length + 1) d9)) from Below.setCell (Gr.trans OKZ.out.2.2.1 GB.out) (p := ⟨Wm.heap.size, 3, none⟩) (Nat.le_refl _) _)
          refine hK.out _ _ (KEEP.out _ (Gr.trans G5.out (Gr.trans GW.out GS.out))) (fun hHeld => ?_)
          clear hK K
          try simp only [Act.put, List.setIfInBounds_toArray, List.set_cons_zero, List.set_cons_succ]
          refine wpAnyH_done (by kernel_rfl) ?_ _
          have hbx : (wB.setCell ⟨Wm.heap.size, 3, none⟩ (.slice (some ⟨g9, 0, none⟩) (n.props.length + 1) d9)).heap[Wm.heap.size]? = some (.cells #[.slice (some ⟨g8, 0, none⟩) (n.nodes.length + 1) d8, .slice A2 n.ins.length c2, .slice A3 n.cells.length c3, .slice (some ⟨g9, 0, none⟩) (n.props.length + 1) d9, .slice A5 n.names.length c5] 27 (0, 0)) := by
            have h7 := heap_setCell_same wB Wm.heap.size 3 _ 27 (.slice (some ⟨g9, 0, none⟩) (n.props.length + 1) d9) (heap_gr OKZ.out.2.1 GB.out)
            simpa using h7
          have NO := Lib.hid (show NtAt (wB.setCell ⟨Wm.heap.size, 3, none⟩ (.slice (some ⟨g9, 0, none⟩) (n.props.length + 1) d9)) (withZ n ByteArray.empty) (ntV (some ⟨g8, 0, none⟩) A2 A3 (some ⟨g9, 0, none⟩) A5 (n.nodes.length + 1) n.ins.length n.cells.length (n.props.length + 1) n.names.length d8 c2 c3 d9 c5) from by
            have hys := YS.out
            have hzs := OKZ.out.2.2.2
            have hgw := Gr.trans (Gr.trans BW.out G5.out) (Gr.trans GW.out GS.out)
            obtain ⟨A', d', e8, hd8, -, hN⟩ := nd_own (own_put (g := Wm.heap.size) (o := 3) (val := .slice (some ⟨g9, 0, none⟩) (n.props.length + 1) d9) (own_gr' OKZ.out.1 GB.out) (by omega)) (by simp)
            simp only [Value.slice.injEq, true_and] at e8
            obtain ⟨rfl, rfl⟩ := e8
            obtain ⟨A'', d'', e9, -, hP⟩ := pr_own (own_put (g := Wm.heap.size) (o := 3) (val := .slice (some ⟨g9, 0, none⟩) (n.props.length + 1) d9) OB.out (by omega)) (by simp)
            simp only [Value.slice.injEq, true_and] at e9
            obtain ⟨rfl, rfl⟩ := e9
            exact ⟨some ⟨g8, 0, none⟩, A2, A3, some ⟨g9, 0, none⟩, A5, d8, c2, c3, d9, c5, by simp [withZ], by simpa [withZ] using hd8, hN, H2.out.gr hgw, H3.out.gr hgw, hP, H5.out.gr hgw⟩)
          have HO := Lib.hid (SHit_any (withZ n ByteArray.empty) _ _ (q : Int) t _ (sz_withZ HSZ.out _) NO (right_withZ hR _ H16.out) (tr_withZ hR _ HQ.out.1) HQ.out.2 (Lib.hid (HT.out.gr (Gr.trans U5.out (Gr.trans GW.out GS.out)))))
          simp only [QZ.out] at HO
          obtain ⟨y0, y1, y2, y3, y4, yf⟩ := box_five hbx
          clear hbx NO
          go_wp2_with fail
          refine HO.out.mono ?_
          rintro e wz ⟨rfl, hg⟩
          have GE := Lib.hid (Gr.trans (Gr.trans BW.out G5.out) (Gr.trans (Gr.trans GW.out GS.out) hg))
          clear hg y0 y1 y2 y3 y4 yf
          go_wp2_with fail
          go_ret
          exact ⟨rfl, GE.out⟩
        · skip
          have GN8 := Lib.hid (show Gr Z ((Z.alloc (.cells #[] 47)).alloc (.cells #[.int .i64 9, .string ByteArray.empty, .int .i64 (n.nodes.length : Nat)] 47)) from Gr.trans GN0.out (bel_alloc (Z.alloc (.cells #[] 47)) (.cells #[.int .i64 9, .string ByteArray.empty, .int .i64 (n.nodes.length : Nat)] 47)))
          have GN8d := Lib.hid (show Gr Z ((Z.alloc (.cells #[] 47)).alloc (.cells #[.int .i64 9, .string ByteArray.empty, .int .i64 (n.nodes.length : Nat)] 47)).drew from Below.drew GN8.out)
          have HBB := Lib.hid (show (((Z.alloc (.cells #[] 47)).alloc (.cells #[.int .i64 9, .string ByteArray.empty, .int .i64 (n.nodes.length : Nat)] 47))).heap[Z.heap.size + 1]? = some (.cells #[.int .i64 9, .string ByteArray.empty, .int .i64 (n.nodes.length : Nat)] 47 (0, 0)) from by have h := heap_new' (Z.alloc (.cells #[] 47)) (.cells #[.int .i64 9, .string ByteArray.empty, .int .i64 (n.nodes.length : Nat)] 47); simpa using h)
          have OA := Lib.hid (OA.out.alloc (.cells #[.int .i64 9, .string ByteArray.empty, .int .i64 (n.nodes.length : Nat)] 47))
          go_simp
          refine hK.out _ _ (KZ.out _ GN8d.out) (fun hHeld => ?_)
          clear hK K
          try simp only [Act.put, List.setIfInBounds_toArray, List.set_cons_zero, List.set_cons_succ]
          refine wpAnyH_ready (rs := [3]) (by kernel_rfl) (by simp) ?_
          refine (AllReadyH.cons (o := { dst := some 117, op := Op.call { callee := Callee.builtin Builtin.append, args := #[Operand.tmp 114, Operand.tmp 116], argTypes := #[25, 25] }, type := 25, pos := "law.go:226", after := #[{ on := 0, ground := Ground.data }, { on := 2, ground := Ground.data }], guard := none }) rfl (fun K hK => ?_) AllReadyH.nil)
          refine step_src _ rfl _ _ 25 rfl Z.heap.size 47 i3 (.agg #[.int .i64 0, .string ByteArray.empty, .int .i64 0]) 3 32 Try.underlying25 HJ.out.1 HJ.out.2.1 HJ.out.2.2.1 HJ.out.2.2.2 rfl (by decide) (.slice (some ⟨Z.heap.size, 0, none⟩) 0 0) 0 [] rfl OA.out.drew (some ⟨b4, o4, none⟩) (by simp) n.props.length c4 (n.props.flatMap prL) rfl (flat_len prL prL_len _) (pr_news (H4.out.gr (Gr.trans BW.out (Gr.trans G5.out (Gr.trans GW.out (Gr.trans OKZ.out.2.2.1 (Below.drew GN8.out))))))) (pr_one _) (by have := H16.out; unfold maxLen; omega) (by have := H16.out; omega) (GN8.out).size ?_
          intro v9 wA hown hgrow
          have GA := Lib.hid (show Gr Z wA from Below.grown (Below.drew GN8.out) hgrow (GN8.out).size (fun k hk => (OA.out.lt k hk).1))
          have OV := Lib.hid (show wA.ownsRow Z.heap.size 47 3 v9 n.props.length (n.props.flatMap prL) from by simpa using hown)
          have HBB := Lib.hid (show wA.heap[Z.heap.size + 1]? = some (.cells #[.int .i64 9, .string ByteArray.empty, .int .i64 (n.nodes.length : Nat)] 47 (0, 0)) from (hgrow.block (Z.heap.size + 1) (hlt HBB.out) (fun hq => by simp [Value.ownBlock] at hq)).trans HBB.out)
          refine hK.out _ _ (KZ.out _ GA.out) (fun hHeld => ?_)
          clear hK K hown hgrow
          try simp only [Act.put, List.setIfInBounds_toArray, List.set_cons_zero, List.set_cons_succ]
          refine wpAnyH_ready (rs := [9]) (by kernel_rfl) (by simp) ?_
          refine (AllReadyH.cons (o := { dst := some 123, op := Op.call { callee := Callee.builtin Builtin.append, args := #[Operand.tmp 117, Operand.tmp 122], argTypes := #[25, 25] }, type := 25, pos := "law.go:226", after := #[{ on := 3, ground := Ground.data }, { on := 8, ground := Ground.data }, { on := 3, ground := Ground.chain }], guard := none }) rfl (fun K hK => ?_) AllReadyH.nil)
          refine step_src _ rfl _ _ 25 rfl Z.heap.size 47 i3 (.agg #[.int .i64 0, .string ByteArray.empty, .int .i64 0]) 3 32 Try.underlying25 HJ.out.1 HJ.out.2.1 HJ.out.2.2.1 HJ.out.2.2.2 rfl (by decide) v9 n.props.length (n.props.flatMap prL) rfl OV.out (some ⟨Z.heap.size + 1, 0, none⟩) (by simp) 1 1 (prL (⟨9, ByteArray.empty, (n.nodes.length : Nat)⟩ : Pr)) rfl rfl (fun ad e => by obtain rfl := Option.some.inj e; exact World.news_of_block HBB.out) (by simpa using pr_one [(⟨9, ByteArray.empty, (n.nodes.length : Nat)⟩ : Pr)]) (by have := H16.out; unfold maxLen; omega) (by have := H16.out; omega) (GA.out).size ?_
          intro vB wB hown hgrow
          have GB := Lib.hid (show Gr Z wB from Below.grown GA.out hgrow (GA.out).size (fun k hk => (OV.out.lt k hk).1))
          have hownB : wB.ownsRow Z.heap.size 47 3 vB (n.props.length + 1) ((n.props ++ [(⟨9, ByteArray.empty, (n.nodes.length : Nat)⟩ : Pr)]).flatMap prL) := (by rw [List.flatMap_append]; simpa using hown)
          obtain ⟨g9, d9, rfl, hg9, -⟩ := hownB.form (by omega)
          have OB := Lib.hid hownB
          have HG9 := Lib.hid hg9
          obtain ⟨y0, y1, y2, y3, y4, yf⟩ := box_five (heap_gr OKZ.out.2.1 GB.out)
          refine hK.out _ _ (KZ.out _ GB.out) (fun hHeld => ?_)
          clear hK K hown hgrow hownB hg9
          try simp only [Act.put, List.setIfInBounds_toArray, List.set_cons_zero, List.set_cons_succ]
          refine wpAnyH_take (i := 10) (oi := { dst := some 124, op := Op.fieldAddr 27 (Operand.tmp 16) 3, type := 0, pos := "law.go:226", after := #[{ on := 0, ground := Ground.phase }, { on := 1, ground := Ground.phase }, { on := 2, ground := Ground.phase }, { on := 3, ground := Ground.phase }, { on := 4, ground := Ground.phase }, { on := 5, ground := Ground.phase }, { on := 6, ground := Ground.phase }, { on := 7, ground := Ground.phase }, { on := 8, ground := Ground.phase }, { on := 9, ground := Ground.phase }], guard := none }) (v := ?_) rfl (by kernel_rfl) (by kernel_rfl) (by kernel_rfl) (fun _ _ _ h => h) (Or.inl ⟨by rfl, ?_⟩) hHeld ?_
          case refine_2 => (intro w hSw; (try dsimp only at hSw); go_simp; try (with_reducible rfl))
          try simp only [Act.put, List.setIfInBounds_toArray, List.set_cons_zero, List.set_cons_succ]
          refine wpAnyH_ready (rs := [11]) (by kernel_rfl) (by simp) ?_
          refine (AllReadyH.cons (o := { dst := none, op := Op.store 25 (Operand.tmp 124) (Operand.tmp 123), type := 0, pos := "law.go:226", after := #[{ on := 10, ground := Ground.data }, { on := 9, ground := Ground.data }, { on := 9, ground := Ground.chain }, { on := 0, ground := Ground.phase }, { on := 1, ground := Ground.phase }, { on := 2, ground := Ground.phase }, { on := 3, ground := Ground.phase }, { on := 4, ground := Ground.phase }, { on := 5, ground := Ground.phase }, { on := 6, ground := Ground.phase }, { on := 7, ground := Ground.phase }, { on := 8, ground := Ground.phase }, { on := 9, ground := Ground.phase }], guard := none }) rfl (fun K hK => ?_) AllReadyH.nil)
          go_simp
          have GS := Lib.hid (show Gr Wm (wB.setCell ⟨Wm.heap.size, 3, none⟩ (.slice (some ⟨g9, 0, none⟩) (n.props.length + 1) d9)) from Below.setCell (Gr.trans OKZ.out.2.2.1 GB.out) (p := ⟨Wm.heap.size, 3, none⟩) (Nat.le_refl _) _)
          refine hK.out _ _ (KEEP.out _ (Gr.trans G5.out (Gr.trans GW.out GS.out))) (fun hHeld => ?_)
          clear hK K
          try simp only [Act.put, List.setIfInBounds_toArray, List.set_cons_zero, List.set_cons_succ]
          refine wpAnyH_done (by kernel_rfl) ?_ _
          have hbx : (wB.setCell ⟨Wm.heap.size, 3, none⟩ (.slice (some ⟨g9, 0, none⟩) (n.props.length + 1) d9)).heap[Wm.heap.size]? = some (.cells #[.slice (some ⟨g8, 0, none⟩) (n.nodes.length + 1) d8, .slice A2 n.ins.length c2, .slice A3 n.cells.length c3, .slice (some ⟨g9, 0, none⟩) (n.props.length + 1) d9, .slice A5 n.names.length c5] 27 (0, 0)) := by
            have h7 := heap_setCell_same wB Wm.heap.size 3 _ 27 (.slice (some ⟨g9, 0, none⟩) (n.props.length + 1) d9) (heap_gr OKZ.out.2.1 GB.out)
            simpa using h7
          have NO := Lib.hid (show NtAt (wB.setCell ⟨Wm.heap.size, 3, none⟩ (.slice (some ⟨g9, 0, none⟩) (n.props.length + 1) d9)) (withZ n ByteArray.empty) (ntV (some ⟨g8, 0, none⟩) A2 A3 (some ⟨g9, 0, none⟩) A5 (n.nodes.length + 1) n.ins.length n.cells.length (n.props.length + 1) n.names.length d8 c2 c3 d9 c5) from by
            have hys := YS.out
            have hzs := OKZ.out.2.2.2
            have hgw := Gr.trans (Gr.trans BW.out G5.out) (Gr.trans GW.out GS.out)
            obtain ⟨A', d', e8, hd8, -, hN⟩ := nd_own (own_put (g := Wm.heap.size) (o := 3) (val := .slice (some ⟨g9, 0, none⟩) (n.props.length + 1) d9) (own_gr' OKZ.out.1 GB.out) (by omega)) (by simp)
            simp only [Value.slice.injEq, true_and] at e8
            obtain ⟨rfl, rfl⟩ := e8
            obtain ⟨A'', d'', e9, -, hP⟩ := pr_own (own_put (g := Wm.heap.size) (o := 3) (val := .slice (some ⟨g9, 0, none⟩) (n.props.length + 1) d9) OB.out (by omega)) (by simp)
            simp only [Value.slice.injEq, true_and] at e9
            obtain ⟨rfl, rfl⟩ := e9
            exact ⟨some ⟨g8, 0, none⟩, A2, A3, some ⟨g9, 0, none⟩, A5, d8, c2, c3, d9, c5, by simp [withZ], by simpa [withZ] using hd8, hN, H2.out.gr hgw, H3.out.gr hgw, hP, H5.out.gr hgw⟩)
          have HO := Lib.hid (SHit_any (withZ n ByteArray.empty) _ _ (q : Int) t _ (sz_withZ HSZ.out _) NO (right_withZ hR _ H16.out) (tr_withZ hR _ HQ.out.1) HQ.out.2 (Lib.hid (HT.out.gr (Gr.trans U5.out (Gr.trans GW.out GS.out)))))
          simp only [QZ.out] at HO
          obtain ⟨y0, y1, y2, y3, y4, yf⟩ := box_five hbx
          clear hbx NO
          go_wp2_with fail
          refine HO.out.mono ?_
          rintro e wz ⟨rfl, hg⟩
          have GE := Lib.hid (Gr.trans (Gr.trans BW.out G5.out) (Gr.trans (Gr.trans GW.out GS.out) hg))
          clear hg y0 y1 y2 y3 y4 yf
          go_wp2_with fail
          go_ret
          exact ⟨rfl, GE.out⟩
      · skip
        have GN8 := Lib.hid (show Gr Z (Z.alloc (.cells #[.int .i64 9, .string ByteArray.empty, .int .i64 (n.nodes.length : Nat)] 47)) from Gr.trans (Gr.refl Z) (bel_alloc Z (.cells #[.int .i64 9, .string ByteArray.empty, .int .i64 (n.nodes.length : Nat)] 47)))
        have GN8d := Lib.hid (show Gr Z (Z.alloc (.cells #[.int .i64 9, .string ByteArray.empty, .int .i64 (n.nodes.length : Nat)] 47)).drew from Below.drew GN8.out)
        have HBB := Lib.hid (show ((Z.alloc (.cells #[.int .i64 9, .string ByteArray.empty, .int .i64 (n.nodes.length : Nat)] 47))).heap[Z.heap.size]? = some (.cells #[.int .i64 9, .string ByteArray.empty, .int .i64 (n.nodes.length : Nat)] 47 (0, 0)) from by have h := heap_new' Z (.cells #[.int .i64 9, .string ByteArray.empty, .int .i64 (n.nodes.length : Nat)] 47); simpa using h)
        go_simp
        refine hK.out _ _ (KZ.out _ GN8d.out) (fun hHeld => ?_)
        clear hK K
        try simp only [Act.put, List.setIfInBounds_toArray, List.set_cons_zero, List.set_cons_succ]
        refine wpAnyH_ready (rs := [0]) (by kernel_rfl) (by simp) ?_
        refine (AllReadyH.cons (o := { dst := some 114, op := Op.buildSlice 25 0 #[], type := 25, pos := "law.go:226", after := #[], guard := none }) rfl (fun K hK => ?_) AllReadyH.nil)
        have GN0 := Lib.hid (show Gr Z ((Z.alloc (.cells #[.int .i64 9, .string ByteArray.empty, .int .i64 (n.nodes.length : Nat)] 47)).alloc (.cells #[] 47)) from Gr.trans GN8.out (bel_alloc (Z.alloc (.cells #[.int .i64 9, .string ByteArray.empty, .int .i64 (n.nodes.length : Nat)] 47)) (.cells #[] 47)))
        have GN0d := Lib.hid (show Gr Z ((Z.alloc (.cells #[.int .i64 9, .string ByteArray.empty, .int .i64 (n.nodes.length : Nat)] 47)).alloc (.cells #[] 47)).drew from Below.drew GN0.out)
        have OA := Lib.hid (show (((Z.alloc (.cells #[.int .i64 9, .string ByteArray.empty, .int .i64 (n.nodes.length : Nat)] 47)).alloc (.cells #[] 47))).ownsRow Z.heap.size 47 3 (.slice (some ⟨Z.heap.size + 1, 0, none⟩) 0 0) 0 [] from by have h := own_empty (Z.alloc (.cells #[.int .i64 9, .string ByteArray.empty, .int .i64 (n.nodes.length : Nat)] 47)) 47 3 Z.heap.size (GN8.out).size; simpa using h)
        have HBB := Lib.hid (heap_gr HBB.out (bel_alloc (Z.alloc (.cells #[.int .i64 9, .string ByteArray.empty, .int .i64 (n.nodes.length : Nat)] 47)) (.cells #[] 47)))
        go_simp
        refine hK.out _ _ (KZ.out _ GN0d.out) (fun hHeld => ?_)
        clear hK K
        try simp only [Act.put, List.setIfInBounds_toArray, List.set_cons_zero, List.set_cons_succ]
        refine wpAnyH_ready (rs := [3]) (by kernel_rfl) (by simp) ?_
        refine (AllReadyH.cons (o := { dst := some 117, op := Op.call { callee := Callee.builtin Builtin.append, args := #[Operand.tmp 114, Operand.tmp 116], argTypes := #[25, 25] }, type := 25, pos := "law.go:226", after := #[{ on := 0, ground := Ground.data }, { on := 2, ground := Ground.data }], guard := none }) rfl (fun K hK => ?_) AllReadyH.nil)
        refine step_src _ rfl _ _ 25 rfl Z.heap.size 47 i3 (.agg #[.int .i64 0, .string ByteArray.empty, .int .i64 0]) 3 32 Try.underlying25 HJ.out.1 HJ.out.2.1 HJ.out.2.2.1 HJ.out.2.2.2 rfl (by decide) (.slice (some ⟨Z.heap.size + 1, 0, none⟩) 0 0) 0 [] rfl OA.out.drew (some ⟨b4, o4, none⟩) (by simp) n.props.length c4 (n.props.flatMap prL) rfl (flat_len prL prL_len _) (pr_news (H4.out.gr (Gr.trans BW.out (Gr.trans G5.out (Gr.trans GW.out (Gr.trans OKZ.out.2.2.1 (Below.drew GN0.out))))))) (pr_one _) (by have := H16.out; unfold maxLen; omega) (by have := H16.out; omega) (GN0.out).size ?_
        intro v9 wA hown hgrow
        have GA := Lib.hid (show Gr Z wA from Below.grown (Below.drew GN0.out) hgrow (GN0.out).size (fun k hk => (OA.out.lt k hk).1))
        have OV := Lib.hid (show wA.ownsRow Z.heap.size 47 3 v9 n.props.length (n.props.flatMap prL) from by simpa using hown)
        have HBB := Lib.hid (show wA.heap[Z.heap.size]? = some (.cells #[.int .i64 9, .string ByteArray.empty, .int .i64 (n.nodes.length : Nat)] 47 (0, 0)) from (hgrow.block (Z.heap.size) (hlt HBB.out) (fun hq => by simp [Value.ownBlock] at hq)).trans HBB.out)
        refine hK.out _ _ (KZ.out _ GA.out) (fun hHeld => ?_)
        clear hK K hown hgrow
        try simp only [Act.put, List.setIfInBounds_toArray, List.set_cons_zero, List.set_cons_succ]
        refine wpAnyH_ready (rs := [9]) (by kernel_rfl) (by simp) ?_
        refine (AllReadyH.cons (o := { dst := some 123, op := Op.call { callee := Callee.builtin Builtin.append, args := #[Operand.tmp 117, Operand.tmp 122], argTypes := #[25, 25] }, type := 25, pos := "law.go:226", after := #[{ on := 3, ground := Ground.data }, { on := 8, ground := Ground.data }, { on := 3, ground := Ground.chain }], guard := none }) rfl (fun K hK => ?_) AllReadyH.nil)
        refine step_src _ rfl _ _ 25 rfl Z.heap.size 47 i3 (.agg #[.int .i64 0, .string ByteArray.empty, .int .i64 0]) 3 32 Try.underlying25 HJ.out.1 HJ.out.2.1 HJ.out.2.2.1 HJ.out.2.2.2 rfl (by decide) v9 n.props.length (n.props.flatMap prL) rfl OV.out (some ⟨Z.heap.size, 0, none⟩) (by simp) 1 1 (prL (⟨9, ByteArray.empty, (n.nodes.length : Nat)⟩ : Pr)) rfl rfl (fun ad e => by obtain rfl := Option.some.inj e; exact World.news_of_block HBB.out) (by simpa using pr_one [(⟨9, ByteArray.empty, (n.nodes.length : Nat)⟩ : Pr)]) (by have := H16.out; unfold maxLen; omega) (by have := H16.out; omega) (GA.out).size ?_
        intro vB wB hown hgrow
        have GB := Lib.hid (show Gr Z wB from Below.grown GA.out hgrow (GA.out).size (fun k hk => (OV.out.lt k hk).1))
        have hownB : wB.ownsRow Z.heap.size 47 3 vB (n.props.length + 1) ((n.props ++ [(⟨9, ByteArray.empty, (n.nodes.length : Nat)⟩ : Pr)]).flatMap prL) := (by rw [List.flatMap_append]; simpa using hown)
        obtain ⟨g9, d9, rfl, hg9, -⟩ := hownB.form (by omega)
        have OB := Lib.hid hownB
        have HG9 := Lib.hid hg9
        obtain ⟨y0, y1, y2, y3, y4, yf⟩ := box_five (heap_gr OKZ.out.2.1 GB.out)
        refine hK.out _ _ (KZ.out _ GB.out) (fun hHeld => ?_)
        clear hK K hown hgrow hownB hg9
        try simp only [Act.put, List.setIfInBounds_toArray, List.set_cons_zero, List.set_cons_succ]
        refine wpAnyH_take (i := 10) (oi := { dst := some 124, op := Op.fieldAddr 27 (Operand.tmp 16) 3, type := 0, pos := "law.go:226", after := #[{ on := 0, ground := Ground.phase }, { on := 1, ground := Ground.phase }, { on := 2, ground := Ground.phase }, { on := 3, ground := Ground.phase }, { on := 4, ground := Ground.phase }, { on := 5, ground := Ground.phase }, { on := 6, ground := Ground.phase }, { on := 7, ground := Ground.phase }, { on := 8, ground := Ground.phase }, { on := 9, ground := Ground.phase }], guard := none }) (v := ?_) rfl (by kernel_rfl) (by kernel_rfl) (by kernel_rfl) (fun _ _ _ h => h) (Or.inl ⟨by rfl, ?_⟩) hHeld ?_
        case refine_2 => (intro w hSw; (try dsimp only at hSw); go_simp; try (with_reducible rfl))
        try simp only [Act.put, List.setIfInBounds_toArray, List.set_cons_zero, List.set_cons_succ]
        refine wpAnyH_ready (rs := [11]) (by kernel_rfl) (by simp) ?_
        refine (AllReadyH.cons (o := { dst := none, op := Op.store 25 (Operand.tmp 124) (Operand.tmp 123), type := 0, pos := "law.go:226", after := #[{ on := 10, ground := Ground.data }, { on := 9, ground := Ground.data }, { on := 9, ground := Ground.chain }, { on := 0, ground := Ground.phase }, { on := 1, ground := Ground.phase }, { on := 2, ground := Ground.phase }, { on := 3, ground := Ground.phase }, { on := 4, ground := Ground.phase }, { on := 5, ground := Ground.phase }, { on := 6, ground := Ground.phase }, { on := 7, ground := Ground.phase }, { on := 8, ground := Ground.phase }, { on := 9, ground := Ground.phase }], guard := none }) rfl (fun K hK => ?_) AllReadyH.nil)
        go_simp
        have GS := Lib.hid (show Gr Wm (wB.setCell ⟨Wm.heap.size, 3, none⟩ (.slice (some ⟨g9, 0, none⟩) (n.props.length + 1) d9)) from Below.setCell (Gr.trans OKZ.out.2.2.1 GB.out) (p := ⟨Wm.heap.size, 3, none⟩) (Nat.le_refl _) _)
        refine hK.out _ _ (KEEP.out _ (Gr.trans G5.out (Gr.trans GW.out GS.out))) (fun hHeld => ?_)
        clear hK K
        try simp only [Act.put, List.setIfInBounds_toArray, List.set_cons_zero, List.set_cons_succ]
        refine wpAnyH_done (by kernel_rfl) ?_ _
        have hbx : (wB.setCell ⟨Wm.heap.size, 3, none⟩ (.slice (some ⟨g9, 0, none⟩) (n.props.length + 1) d9)).heap[Wm.heap.size]? = some (.cells #[.slice (some ⟨g8, 0, none⟩) (n.nodes.length + 1) d8, .slice A2 n.ins.length c2, .slice A3 n.cells.length c3, .slice (some ⟨g9, 0, none⟩) (n.props.length + 1) d9, .slice A5 n.names.length c5] 27 (0, 0)) := by
          have h7 := heap_setCell_same wB Wm.heap.size 3 _ 27 (.slice (some ⟨g9, 0, none⟩) (n.props.length + 1) d9) (heap_gr OKZ.out.2.1 GB.out)
          simpa using h7
        have NO := Lib.hid (show NtAt (wB.setCell ⟨Wm.heap.size, 3, none⟩ (.slice (some ⟨g9, 0, none⟩) (n.props.length + 1) d9)) (withZ n ByteArray.empty) (ntV (some ⟨g8, 0, none⟩) A2 A3 (some ⟨g9, 0, none⟩) A5 (n.nodes.length + 1) n.ins.length n.cells.length (n.props.length + 1) n.names.length d8 c2 c3 d9 c5) from by
          have hys := YS.out
          have hzs := OKZ.out.2.2.2
          have hgw := Gr.trans (Gr.trans BW.out G5.out) (Gr.trans GW.out GS.out)
          obtain ⟨A', d', e8, hd8, -, hN⟩ := nd_own (own_put (g := Wm.heap.size) (o := 3) (val := .slice (some ⟨g9, 0, none⟩) (n.props.length + 1) d9) (own_gr' OKZ.out.1 GB.out) (by omega)) (by simp)
          simp only [Value.slice.injEq, true_and] at e8
          obtain ⟨rfl, rfl⟩ := e8
          obtain ⟨A'', d'', e9, -, hP⟩ := pr_own (own_put (g := Wm.heap.size) (o := 3) (val := .slice (some ⟨g9, 0, none⟩) (n.props.length + 1) d9) OB.out (by omega)) (by simp)
          simp only [Value.slice.injEq, true_and] at e9
          obtain ⟨rfl, rfl⟩ := e9
          exact ⟨some ⟨g8, 0, none⟩, A2, A3, some ⟨g9, 0, none⟩, A5, d8, c2, c3, d9, c5, by simp [withZ], by simpa [withZ] using hd8, hN, H2.out.gr hgw, H3.out.gr hgw, hP, H5.out.gr hgw⟩)
        have HO := Lib.hid (SHit_any (withZ n ByteArray.empty) _ _ (q : Int) t _ (sz_withZ HSZ.out _) NO (right_withZ hR _ H16.out) (tr_withZ hR _ HQ.out.1) HQ.out.2 (Lib.hid (HT.out.gr (Gr.trans U5.out (Gr.trans GW.out GS.out)))))
        simp only [QZ.out] at HO
        obtain ⟨y0, y1, y2, y3, y4, yf⟩ := box_five hbx
        clear hbx NO
        go_wp2_with fail
        refine HO.out.mono ?_
        rintro e wz ⟨rfl, hg⟩
        have GE := Lib.hid (Gr.trans (Gr.trans BW.out G5.out) (Gr.trans (Gr.trans GW.out GS.out) hg))
        clear hg y0 y1 y2 y3 y4 yf
        go_wp2_with fail
        go_ret
        exact ⟨rfl, GE.out⟩
    case neg =>
    have k9 : (pr.kind != 9) = true := by simp [h9]
    cases is with
    | true =>
      have hc := HCOV.out h9 rfl
      simp only [hc] at HM
      have r3 : ¬ (kk : Int) < (kk : Int) := by omega
      clear h9 HCOV hc
      go_wp2_with fail
      refine (HM.out _ (Gr.refl _)).mono ?_
      rintro e wh ⟨rfl, hg⟩
      have GW := Lib.hid (Gr.trans GM.out hg)
      clear HM e0 e1 e2 e3 e4 d0 y0 y1 y2 y3 y4 yf
      obtain ⟨e0, e1, e2, e3, e4⟩ := KEEP.out _ (Gr.trans G5.out GW.out)
      go_upto_region 18 with fail
      go_upto_region 19 with fail
      obtain ⟨Y, eY, GY, YB, YS⟩ : ∃ Y, wh.alloc (.cells #[.slice (some ⟨b1, o1, none⟩) n.nodes.length c1, .slice A2 n.ins.length c2, .slice A3 n.cells.length c3, .slice (some ⟨b4, o4, none⟩) n.props.length c4, .slice A5 n.names.length c5] 27) = Y ∧ Hid (Gr wh Y) ∧ Hid (Y.heap[wh.heap.size]? = some (.cells #[.slice (some ⟨b1, o1, none⟩) n.nodes.length c1, .slice A2 n.ins.length c2, .slice A3 n.cells.length c3, .slice (some ⟨b4, o4, none⟩) n.props.length c4, .slice A5 n.names.length c5] 27 (0, 0))) ∧ Hid (Y.heap.size = wh.heap.size + 1) :=
        ⟨_, rfl, Lib.hid (bel_alloc _ _), Lib.hid (heap_new' _ _), Lib.hid (by simp)⟩
      rw [eY]
      clear eY e0 e1 e2 e3 e4
      try clear y0 y1 y2 y3 y4 yf
      try clear d0
      obtain ⟨e0, e1, e2, e3, e4⟩ := KEEP.out _ (Gr.trans G5.out (Gr.trans GW.out GY.out))
      obtain ⟨x0, x1, x2, x3, x4⟩ := KEEP.out (Y.alloc (.cells #[] 53)) (Gr.trans G5.out (Gr.trans GW.out (Gr.trans GY.out (bel_alloc _ _))))
      go_upto_region 20 with (at_builtin; first | (refine append_src _ rfl _ _ 22 rfl Y.heap.size 53 i0 (.agg #[.int .i64 0, .int .i64 0, .int .i64 0, .int .i64 0, .int .i64 0, .int .i64 0, .int .i64 0]) 7 56 Try.underlying22 HI.out.1 HI.out.2.1 HI.out.2.2.1 HI.out.2.2.2 rfl (by decide) (.slice (some ⟨Y.heap.size, 0, none⟩) 0 0) 0 [] rfl (own_empty Y 53 7 Y.heap.size (Nat.le_refl _)) (some ⟨b1, o1, none⟩) n.nodes.length c1 (n.nodes.flatMap ndL) rfl (fun h => by cases h) (flat_len ndL ndL_len _) (nd_news (H1.out.gr (Gr.trans BW.out (Gr.trans G5.out (Gr.trans GW.out (Gr.trans GY.out (bel_alloc Y (.cells #[] 53)))))))) (nd_one _) (by have := HSZ.out; unfold maxLen; omega) (by have := HSZ.out; omega) (by simp) ?_; intro v7 w7 hown hb7; have B7 := Lib.hid (show Gr Y w7 from Below.trans (bel_alloc Y (.cells #[] 53)) hb7); have hown7 : w7.ownsRow Y.heap.size 53 7 v7 n.nodes.length (n.nodes.flatMap ndL) := (by simpa using hown); have O7 := Lib.hid hown7; clear hown hown7 hb7) | (refine append_src _ rfl _ _ 22 rfl Y.heap.size 53 i0 (.agg #[.int .i64 0, .int .i64 0, .int .i64 0, .int .i64 0, .int .i64 0, .int .i64 0, .int .i64 0]) 7 56 Try.underlying22 HI.out.1 HI.out.2.1 HI.out.2.2.1 HI.out.2.2.2 rfl (by decide) v7 n.nodes.length (n.nodes.flatMap ndL) rfl (O7.out.alloc _) (some ⟨w7.heap.size, 0, none⟩) 1 1 (ndL zeroNd) rfl (fun h => by cases h) rfl (fun ad e j u hj => by obtain rfl := Option.some.inj e; exact row_laid w7 #[.int .i64 1, .int .i64 1, .int .i64 0, .int .i64 0, .int .i64 0, .int .i64 0, .int .i64 0] 53 j u hj) (by simpa using nd_one [zeroNd]) (by have := HSZ.out; unfold maxLen; omega) (by have := HSZ.out; omega) (Nat.le_trans B7.out.size (bel_alloc w7 _).size) ?_; intro v8 w8 hown hb8; have B8 := Lib.hid (show Gr Y w8 from Below.trans (Below.trans B7.out (Below.mono (bel_alloc w7 (.cells #[.int .i64 1, .int .i64 1, .int .i64 0, .int .i64 0, .int .i64 0, .int .i64 0, .int .i64 0] 53)) B7.out.size)) hb8); have hown8 : w8.ownsRow Y.heap.size 53 7 v8 (n.nodes.length + 1) ((n.nodes ++ [zeroNd]).flatMap ndL) := (by rw [List.flatMap_append]; simpa using hown); have O8 := Lib.hid hown8; obtain ⟨g8, d8, rfl, hg8, hl8⟩ := hown8.form (by omega); obtain ⟨y0, y1, y2, y3, y4, yf⟩ := box_five (heap_gr YB.out B8.out); clear hown hown8 hb8))
      obtain ⟨Z, eZ, OKZ⟩ : ∃ Z, w8.setCell ⟨wh.heap.size, 0, none⟩ (.slice (some ⟨g8, 0, none⟩) (n.nodes.length + 1) d8) = Z ∧ Hid (Z.ownsRow Y.heap.size 53 7 (.slice (some ⟨g8, 0, none⟩) (n.nodes.length + 1) d8) (n.nodes.length + 1) ((n.nodes ++ [zeroNd]).flatMap ndL) ∧ Z.heap[wh.heap.size]? = some (.cells #[.slice (some ⟨g8, 0, none⟩) (n.nodes.length + 1) d8, .slice A2 n.ins.length c2, .slice A3 n.cells.length c3, .slice (some ⟨b4, o4, none⟩) n.props.length c4, .slice A5 n.names.length c5] 27 (0, 0)) ∧ Gr wh Z ∧ wh.heap.size < Z.heap.size) := by
        have hys := YS.out
        refine ⟨_, rfl, Lib.hid ⟨own_put O8.out (by omega), ?_, Below.setCell (Gr.trans GY.out B8.out) (p := ⟨wh.heap.size, 0, none⟩) (Nat.le_refl _) _, by have := B8.out.size; simp; omega⟩⟩
        have h7 := heap_setCell_same w8 wh.heap.size 0 _ 27 (.slice (some ⟨g8, 0, none⟩) (n.nodes.length + 1) d8) (heap_gr YB.out B8.out)
        simpa using h7
      rw [eZ]
      clear eZ e0 e1 e2 e3 e4 x0 x1 x2 x3 x4 y0 y1 y2 y3 y4 yf O8 B8 O7 B7 hl8 hg8
      have KZ := Lib.hid (fun (u : World) (hu : Gr Z u) => (show BxAt u w.heap.size n (some ⟨b1, o1, none⟩) A2 A3 (some ⟨b4, o4, none⟩) A5 c1 c2 c3 c4 c5 from KEEP.out u (Gr.trans G5.out (Gr.trans GW.out (Gr.trans OKZ.out.2.2.1 hu)))))
      refine wp_region_held_drew (S := (fun u : World => BxAt u w.heap.size n (some ⟨b1, o1, none⟩) A2 A3 (some ⟨b4, o4, none⟩) A5 c1 c2 c3 c4 c5)) (by kernel_rfl) (KZ.out _ (Gr.drew _)) (fun hHeld => ?_)
      refine wpAnyH_take (i := 1) (oi := { dst := some 115, op := Op.fieldAddr 27 (Operand.tmp 3) 3, type := 0, pos := "law.go:226", after := #[], guard := none }) (v := ?_) rfl (by kernel_rfl) (by kernel_rfl) (by kernel_rfl) (fun _ _ _ h => h) (Or.inl ⟨by rfl, ?_⟩) hHeld ?_
      case refine_2 => (intro w hSw; (try dsimp only at hSw); go_simp; try (with_reducible rfl))
      try simp only [Act.put, List.setIfInBounds_toArray, List.set_cons_zero, List.set_cons_succ]
      refine wpAnyH_take (i := 2) (oi := { dst := some 116, op := Op.load 25 (Operand.tmp 115), type := 25, pos := "law.go:226", after := #[{ on := 1, ground := Ground.data }], guard := none }) (v := ?_) rfl (by kernel_rfl) (by kernel_rfl) (by kernel_rfl) (fun _ _ _ h => h) (Or.inl ⟨by rfl, ?_⟩) hHeld ?_
      case refine_2 => (intro w hSw; (try dsimp only at hSw); go_simp; try (with_reducible rfl))
      try simp only [Act.put, List.setIfInBounds_toArray, List.set_cons_zero, List.set_cons_succ]
      refine wpAnyH_take (i := 4) (oi := { dst := some 118, op := Op.fieldAddr 27 (Operand.tmp 3) 0, type := 0, pos := "law.go:226", after := #[], guard := none }) (v := ?_) rfl (by kernel_rfl) (by kernel_rfl) (by kernel_rfl) (fun _ _ _ h => h) (Or.inl ⟨by rfl, ?_⟩) hHeld ?_
      case refine_2 => (intro w hSw; (try dsimp only at hSw); go_simp; try (with_reducible rfl))
      try simp only [Act.put, List.setIfInBounds_toArray, List.set_cons_zero, List.set_cons_succ]
      refine wpAnyH_take (i := 5) (oi := { dst := some 119, op := Op.load 22 (Operand.tmp 118), type := 22, pos := "law.go:226", after := #[{ on := 4, ground := Ground.data }], guard := none }) (v := ?_) rfl (by kernel_rfl) (by kernel_rfl) (by kernel_rfl) (fun _ _ _ h => h) (Or.inl ⟨by rfl, ?_⟩) hHeld ?_
      case refine_2 => (intro w hSw; (try dsimp only at hSw); go_simp; try (with_reducible rfl))
      try simp only [Act.put, List.setIfInBounds_toArray, List.set_cons_zero, List.set_cons_succ]
      refine wpAnyH_take (i := 6) (oi := { dst := some 120, op := Op.call { callee := Callee.builtin Builtin.len, args := #[Operand.tmp 119], argTypes := #[22] }, type := 3, pos := "law.go:226", after := #[{ on := 5, ground := Ground.data }], guard := none }) (v := ?_) rfl (by kernel_rfl) (by kernel_rfl) (by kernel_rfl) (fun _ _ _ h => h) (Or.inl ⟨by rfl, ?_⟩) hHeld ?_
      case refine_2 => (intro w hSw; (try dsimp only at hSw); go_simp; try (with_reducible rfl))
      try simp only [Act.put, List.setIfInBounds_toArray, List.set_cons_zero, List.set_cons_succ]
      refine wpAnyH_take (i := 7) (oi := { dst := some 121, op := Op.build 47 #[(0, Operand.const (Value.int IntKind.i64 9)), (2, Operand.tmp 120)], type := 47, pos := "law.go:226", after := #[{ on := 6, ground := Ground.data }], guard := none }) (v := ?_) rfl (by kernel_rfl) (by kernel_rfl) (by kernel_rfl) (fun _ _ _ h => h) (Or.inl ⟨by rfl, ?_⟩) hHeld ?_
      case refine_2 => (intro w hSw; (try dsimp only at hSw); go_simp; try (with_reducible rfl))
      try simp only [Act.put, List.setIfInBounds_toArray, List.set_cons_zero, List.set_cons_succ]
      refine wpAnyH_ready (rs := [0, 8]) (by kernel_rfl) (by simp) ?_
      refine (AllReadyH.cons (o := { dst := some 114, op := Op.buildSlice 25 0 #[], type := 25, pos := "law.go:226", after := #[], guard := none }) rfl (fun K hK => ?_) (AllReadyH.cons (o := { dst := some 122, op := Op.buildSlice 25 1 #[(0, Operand.tmp 121)], type := 25, pos := "law.go:226", after := #[{ on := 7, ground := Ground.data }], guard := none }) rfl (fun K hK => ?_) AllReadyH.nil))
      · skip
        have GN0 := Lib.hid (show Gr Z (Z.alloc (.cells #[] 47)) from Gr.trans (Gr.refl Z) (bel_alloc Z (.cells #[] 47)))
        have GN0d := Lib.hid (show Gr Z (Z.alloc (.cells #[] 47)).drew from Below.drew GN0.out)
        have OA := Lib.hid (show ((Z.alloc (.cells #[] 47))).ownsRow Z.heap.size 47 3 (.slice (some ⟨Z.heap.size, 0, none⟩) 0 0) 0 [] from by have h := own_empty Z 47 3 Z.heap.size ((Gr.refl Z)).size; simpa using h)
        go_simp
        refine hK.out _ _ (KZ.out _ GN0d.out) (fun hHeld => ?_)
        clear hK K
        try simp only [Act.put, List.setIfInBounds_toArray, List.set_cons_zero, List.set_cons_succ]
        refine wpAnyH_ready (rs := [3, 8]) (by kernel_rfl) (by simp) ?_
        refine (AllReadyH.cons (o := { dst := some 117, op := Op.call { callee := Callee.builtin Builtin.append, args := #[Operand.tmp 114, Operand.tmp 116], argTypes := #[25, 25] }, type := 25, pos := "law.go:226", after := #[{ on := 0, ground := Ground.data }, { on := 2, ground := Ground.data }], guard := none }) rfl (fun K hK => ?_) (AllReadyH.cons (o := { dst := some 122, op := Op.buildSlice 25 1 #[(0, Operand.tmp 121)], type := 25, pos := "law.go:226", after := #[{ on := 7, ground := Ground.data }], guard := none }) rfl (fun K hK => ?_) AllReadyH.nil))
        · skip
          refine step_src _ rfl _ _ 25 rfl Z.heap.size 47 i3 (.agg #[.int .i64 0, .string ByteArray.empty, .int .i64 0]) 3 32 Try.underlying25 HJ.out.1 HJ.out.2.1 HJ.out.2.2.1 HJ.out.2.2.2 rfl (by decide) (.slice (some ⟨Z.heap.size, 0, none⟩) 0 0) 0 [] rfl OA.out.drew (some ⟨b4, o4, none⟩) (by simp) n.props.length c4 (n.props.flatMap prL) rfl (flat_len prL prL_len _) (pr_news (H4.out.gr (Gr.trans BW.out (Gr.trans G5.out (Gr.trans GW.out (Gr.trans OKZ.out.2.2.1 (Below.drew GN0.out))))))) (pr_one _) (by have := H16.out; unfold maxLen; omega) (by have := H16.out; omega) (GN0.out).size ?_
          intro v9 wA hown hgrow
          have GA := Lib.hid (show Gr Z wA from Below.grown (Below.drew GN0.out) hgrow (GN0.out).size (fun k hk => (OA.out.lt k hk).1))
          have OV := Lib.hid (show wA.ownsRow Z.heap.size 47 3 v9 n.props.length (n.props.flatMap prL) from by simpa using hown)
          refine hK.out _ _ (KZ.out _ GA.out) (fun hHeld => ?_)
          clear hK K hown hgrow
          try simp only [Act.put, List.setIfInBounds_toArray, List.set_cons_zero, List.set_cons_succ]
          refine wpAnyH_ready (rs := [8]) (by kernel_rfl) (by simp) ?_
          refine (AllReadyH.cons (o := { dst := some 122, op := Op.buildSlice 25 1 #[(0, Operand.tmp 121)], type := 25, pos := "law.go:226", after := #[{ on := 7, ground := Ground.data }], guard := none }) rfl (fun K hK => ?_) AllReadyH.nil)
          have GN8 := Lib.hid (show Gr Z (wA.alloc (.cells #[.int .i64 9, .string ByteArray.empty, .int .i64 (n.nodes.length : Nat)] 47)) from Gr.trans GA.out (bel_alloc wA (.cells #[.int .i64 9, .string ByteArray.empty, .int .i64 (n.nodes.length : Nat)] 47)))
          have GN8d := Lib.hid (show Gr Z (wA.alloc (.cells #[.int .i64 9, .string ByteArray.empty, .int .i64 (n.nodes.length : Nat)] 47)) from GN8.out)
          have HBB := Lib.hid (show ((wA.alloc (.cells #[.int .i64 9, .string ByteArray.empty, .int .i64 (n.nodes.length : Nat)] 47))).heap[wA.heap.size]? = some (.cells #[.int .i64 9, .string ByteArray.empty, .int .i64 (n.nodes.length : Nat)] 47 (0, 0)) from by have h := heap_new' wA (.cells #[.int .i64 9, .string ByteArray.empty, .int .i64 (n.nodes.length : Nat)] 47); simpa using h)
          have OV := Lib.hid (OV.out.alloc (.cells #[.int .i64 9, .string ByteArray.empty, .int .i64 (n.nodes.length : Nat)] 47))
          go_simp
          refine hK.out _ _ (KZ.out _ GN8d.out) (fun hHeld => ?_)
          clear hK K
          try simp only [Act.put, List.setIfInBounds_toArray, List.set_cons_zero, List.set_cons_succ]
          refine wpAnyH_ready (rs := [9]) (by kernel_rfl) (by simp) ?_
          refine (AllReadyH.cons (o := { dst := some 123, op := Op.call { callee := Callee.builtin Builtin.append, args := #[Operand.tmp 117, Operand.tmp 122], argTypes := #[25, 25] }, type := 25, pos := "law.go:226", after := #[{ on := 3, ground := Ground.data }, { on := 8, ground := Ground.data }, { on := 3, ground := Ground.chain }], guard := none }) rfl (fun K hK => ?_) AllReadyH.nil)
          refine step_src _ rfl _ _ 25 rfl Z.heap.size 47 i3 (.agg #[.int .i64 0, .string ByteArray.empty, .int .i64 0]) 3 32 Try.underlying25 HJ.out.1 HJ.out.2.1 HJ.out.2.2.1 HJ.out.2.2.2 rfl (by decide) v9 n.props.length (n.props.flatMap prL) rfl OV.out (some ⟨wA.heap.size, 0, none⟩) (by simp) 1 1 (prL (⟨9, ByteArray.empty, (n.nodes.length : Nat)⟩ : Pr)) rfl rfl (fun ad e => by obtain rfl := Option.some.inj e; exact World.news_of_block HBB.out) (by simpa using pr_one [(⟨9, ByteArray.empty, (n.nodes.length : Nat)⟩ : Pr)]) (by have := H16.out; unfold maxLen; omega) (by have := H16.out; omega) (GN8.out).size ?_
          intro vB wB hown hgrow
          have GB := Lib.hid (show Gr Z wB from Below.grown GN8.out hgrow (GN8.out).size (fun k hk => (OV.out.lt k hk).1))
          have hownB : wB.ownsRow Z.heap.size 47 3 vB (n.props.length + 1) ((n.props ++ [(⟨9, ByteArray.empty, (n.nodes.length : Nat)⟩ : Pr)]).flatMap prL) := (by rw [List.flatMap_append]; simpa using hown)
          obtain ⟨g9, d9, rfl, hg9, -⟩ := hownB.form (by omega)
          have OB := Lib.hid hownB
          have HG9 := Lib.hid hg9
          obtain ⟨y0, y1, y2, y3, y4, yf⟩ := box_five (heap_gr OKZ.out.2.1 GB.out)
          refine hK.out _ _ (KZ.out _ GB.out) (fun hHeld => ?_)
          clear hK K hown hgrow hownB hg9
          try simp only [Act.put, List.setIfInBounds_toArray, List.set_cons_zero, List.set_cons_succ]
          refine wpAnyH_take (i := 10) (oi := { dst := some 124, op := Op.fieldAddr 27 (Operand.tmp 16) 3, type := 0, pos := "law.go:226", after := #[{ on := 0, ground := Ground.phase }, { on := 1, ground := Ground.phase }, { on := 2, ground := Ground.phase }, { on := 3, ground := Ground.phase }, { on := 4, ground := Ground.phase }, { on := 5, ground := Ground.phase }, { on := 6, ground := Ground.phase }, { on := 7, ground := Ground.phase }, { on := 8, ground := Ground.phase }, { on := 9, ground := Ground.phase }], guard := none }) (v := ?_) rfl (by kernel_rfl) (by kernel_rfl) (by kernel_rfl) (fun _ _ _ h => h) (Or.inl ⟨by rfl, ?_⟩) hHeld ?_
          case refine_2 => (intro w hSw; (try dsimp only at hSw); go_simp; try (with_reducible rfl))
          try simp only [Act.put, List.setIfInBounds_toArray, List.set_cons_zero, List.set_cons_succ]
          refine wpAnyH_ready (rs := [11]) (by kernel_rfl) (by simp) ?_
          refine (AllReadyH.cons (o := { dst := none, op := Op.store 25 (Operand.tmp 124) (Operand.tmp 123), type := 0, pos := "law.go:226", after := #[{ on := 10, ground := Ground.data }, { on := 9, ground := Ground.data }, { on := 9, ground := Ground.chain }, { on := 0, ground := Ground.phase }, { on := 1, ground := Ground.phase }, { on := 2, ground := Ground.phase }, { on := 3, ground := Ground.phase }, { on := 4, ground := Ground.phase }, { on := 5, ground := Ground.phase }, { on := 6, ground := Ground.phase }, { on := 7, ground := Ground.phase }, { on := 8, ground := Ground.phase }, { on := 9, ground := Ground.phase }], guard := none }) rfl (fun K hK => ?_) AllReadyH.nil)
          go_simp
          have GS := Lib.hid (show Gr wh (wB.setCell ⟨wh.heap.size, 3, none⟩ (.slice (some ⟨g9, 0, none⟩) (n.props.length + 1) d9)) from Below.setCell (Gr.trans OKZ.out.2.2.1 GB.out) (p := ⟨wh.heap.size, 3, none⟩) (Nat.le_refl _) _)
          refine hK.out _ _ (KEEP.out _ (Gr.trans G5.out (Gr.trans GW.out GS.out))) (fun hHeld => ?_)
          clear hK K
          try simp only [Act.put, List.setIfInBounds_toArray, List.set_cons_zero, List.set_cons_succ]
          refine wpAnyH_done (by kernel_rfl) ?_ _
          have hbx : (wB.setCell ⟨wh.heap.size, 3, none⟩ (.slice (some ⟨g9, 0, none⟩) (n.props.length + 1) d9)).heap[wh.heap.size]? = some (.cells #[.slice (some ⟨g8, 0, none⟩) (n.nodes.length + 1) d8, .slice A2 n.ins.length c2, .slice A3 n.cells.length c3, .slice (some ⟨g9, 0, none⟩) (n.props.length + 1) d9, .slice A5 n.names.length c5] 27 (0, 0)) := by
            have h7 := heap_setCell_same wB wh.heap.size 3 _ 27 (.slice (some ⟨g9, 0, none⟩) (n.props.length + 1) d9) (heap_gr OKZ.out.2.1 GB.out)
            simpa using h7
          have NO := Lib.hid (show NtAt (wB.setCell ⟨wh.heap.size, 3, none⟩ (.slice (some ⟨g9, 0, none⟩) (n.props.length + 1) d9)) (withZ n ByteArray.empty) (ntV (some ⟨g8, 0, none⟩) A2 A3 (some ⟨g9, 0, none⟩) A5 (n.nodes.length + 1) n.ins.length n.cells.length (n.props.length + 1) n.names.length d8 c2 c3 d9 c5) from by
            have hys := YS.out
            have hzs := OKZ.out.2.2.2
            have hgw := Gr.trans (Gr.trans BW.out G5.out) (Gr.trans GW.out GS.out)
            obtain ⟨A', d', e8, hd8, -, hN⟩ := nd_own (own_put (g := wh.heap.size) (o := 3) (val := .slice (some ⟨g9, 0, none⟩) (n.props.length + 1) d9) (own_gr' OKZ.out.1 GB.out) (by omega)) (by simp)
            simp only [Value.slice.injEq, true_and] at e8
            obtain ⟨rfl, rfl⟩ := e8
            obtain ⟨A'', d'', e9, -, hP⟩ := pr_own (own_put (g := wh.heap.size) (o := 3) (val := .slice (some ⟨g9, 0, none⟩) (n.props.length + 1) d9) OB.out (by omega)) (by simp)
            simp only [Value.slice.injEq, true_and] at e9
            obtain ⟨rfl, rfl⟩ := e9
            exact ⟨some ⟨g8, 0, none⟩, A2, A3, some ⟨g9, 0, none⟩, A5, d8, c2, c3, d9, c5, by simp [withZ], by simpa [withZ] using hd8, hN, H2.out.gr hgw, H3.out.gr hgw, hP, H5.out.gr hgw⟩)
          have HO := Lib.hid (SHit_any (withZ n ByteArray.empty) _ _ (q : Int) t _ (sz_withZ HSZ.out _) NO (right_withZ hR _ H16.out) (tr_withZ hR _ HQ.out.1) HQ.out.2 (Lib.hid (HT.out.gr (Gr.trans U5.out (Gr.trans GW.out GS.out)))))
          simp only [QZ.out] at HO
          obtain ⟨y0, y1, y2, y3, y4, yf⟩ := box_five hbx
          clear hbx NO
          go_wp2_with fail
          refine HO.out.mono ?_
          rintro e wz ⟨rfl, hg⟩
          have GE := Lib.hid (Gr.trans (Gr.trans BW.out G5.out) (Gr.trans (Gr.trans GW.out GS.out) hg))
          clear hg y0 y1 y2 y3 y4 yf
          go_wp2_with fail
          go_ret
          exact ⟨rfl, GE.out⟩
        · skip
          have GN8 := Lib.hid (show Gr Z ((Z.alloc (.cells #[] 47)).alloc (.cells #[.int .i64 9, .string ByteArray.empty, .int .i64 (n.nodes.length : Nat)] 47)) from Gr.trans GN0.out (bel_alloc (Z.alloc (.cells #[] 47)) (.cells #[.int .i64 9, .string ByteArray.empty, .int .i64 (n.nodes.length : Nat)] 47)))
          have GN8d := Lib.hid (show Gr Z ((Z.alloc (.cells #[] 47)).alloc (.cells #[.int .i64 9, .string ByteArray.empty, .int .i64 (n.nodes.length : Nat)] 47)).drew from Below.drew GN8.out)
          have HBB := Lib.hid (show (((Z.alloc (.cells #[] 47)).alloc (.cells #[.int .i64 9, .string ByteArray.empty, .int .i64 (n.nodes.length : Nat)] 47))).heap[Z.heap.size + 1]? = some (.cells #[.int .i64 9, .string ByteArray.empty, .int .i64 (n.nodes.length : Nat)] 47 (0, 0)) from by have h := heap_new' (Z.alloc (.cells #[] 47)) (.cells #[.int .i64 9, .string ByteArray.empty, .int .i64 (n.nodes.length : Nat)] 47); simpa using h)
          have OA := Lib.hid (OA.out.alloc (.cells #[.int .i64 9, .string ByteArray.empty, .int .i64 (n.nodes.length : Nat)] 47))
          go_simp
          refine hK.out _ _ (KZ.out _ GN8d.out) (fun hHeld => ?_)
          clear hK K
          try simp only [Act.put, List.setIfInBounds_toArray, List.set_cons_zero, List.set_cons_succ]
          refine wpAnyH_ready (rs := [3]) (by kernel_rfl) (by simp) ?_
          refine (AllReadyH.cons (o := { dst := some 117, op := Op.call { callee := Callee.builtin Builtin.append, args := #[Operand.tmp 114, Operand.tmp 116], argTypes := #[25, 25] }, type := 25, pos := "law.go:226", after := #[{ on := 0, ground := Ground.data }, { on := 2, ground := Ground.data }], guard := none }) rfl (fun K hK => ?_) AllReadyH.nil)
          refine step_src _ rfl _ _ 25 rfl Z.heap.size 47 i3 (.agg #[.int .i64 0, .string ByteArray.empty, .int .i64 0]) 3 32 Try.underlying25 HJ.out.1 HJ.out.2.1 HJ.out.2.2.1 HJ.out.2.2.2 rfl (by decide) (.slice (some ⟨Z.heap.size, 0, none⟩) 0 0) 0 [] rfl OA.out.drew (some ⟨b4, o4, none⟩) (by simp) n.props.length c4 (n.props.flatMap prL) rfl (flat_len prL prL_len _) (pr_news (H4.out.gr (Gr.trans BW.out (Gr.trans G5.out (Gr.trans GW.out (Gr.trans OKZ.out.2.2.1 (Below.drew GN8.out))))))) (pr_one _) (by have := H16.out; unfold maxLen; omega) (by have := H16.out; omega) (GN8.out).size ?_
          intro v9 wA hown hgrow
          have GA := Lib.hid (show Gr Z wA from Below.grown (Below.drew GN8.out) hgrow (GN8.out).size (fun k hk => (OA.out.lt k hk).1))
          have OV := Lib.hid (show wA.ownsRow Z.heap.size 47 3 v9 n.props.length (n.props.flatMap prL) from by simpa using hown)
          have HBB := Lib.hid (show wA.heap[Z.heap.size + 1]? = some (.cells #[.int .i64 9, .string ByteArray.empty, .int .i64 (n.nodes.length : Nat)] 47 (0, 0)) from (hgrow.block (Z.heap.size + 1) (hlt HBB.out) (fun hq => by simp [Value.ownBlock] at hq)).trans HBB.out)
          refine hK.out _ _ (KZ.out _ GA.out) (fun hHeld => ?_)
          clear hK K hown hgrow
          try simp only [Act.put, List.setIfInBounds_toArray, List.set_cons_zero, List.set_cons_succ]
          refine wpAnyH_ready (rs := [9]) (by kernel_rfl) (by simp) ?_
          refine (AllReadyH.cons (o := { dst := some 123, op := Op.call { callee := Callee.builtin Builtin.append, args := #[Operand.tmp 117, Operand.tmp 122], argTypes := #[25, 25] }, type := 25, pos := "law.go:226", after := #[{ on := 3, ground := Ground.data }, { on := 8, ground := Ground.data }, { on := 3, ground := Ground.chain }], guard := none }) rfl (fun K hK => ?_) AllReadyH.nil)
          refine step_src _ rfl _ _ 25 rfl Z.heap.size 47 i3 (.agg #[.int .i64 0, .string ByteArray.empty, .int .i64 0]) 3 32 Try.underlying25 HJ.out.1 HJ.out.2.1 HJ.out.2.2.1 HJ.out.2.2.2 rfl (by decide) v9 n.props.length (n.props.flatMap prL) rfl OV.out (some ⟨Z.heap.size + 1, 0, none⟩) (by simp) 1 1 (prL (⟨9, ByteArray.empty, (n.nodes.length : Nat)⟩ : Pr)) rfl rfl (fun ad e => by obtain rfl := Option.some.inj e; exact World.news_of_block HBB.out) (by simpa using pr_one [(⟨9, ByteArray.empty, (n.nodes.length : Nat)⟩ : Pr)]) (by have := H16.out; unfold maxLen; omega) (by have := H16.out; omega) (GA.out).size ?_
          intro vB wB hown hgrow
          have GB := Lib.hid (show Gr Z wB from Below.grown GA.out hgrow (GA.out).size (fun k hk => (OV.out.lt k hk).1))
          have hownB : wB.ownsRow Z.heap.size 47 3 vB (n.props.length + 1) ((n.props ++ [(⟨9, ByteArray.empty, (n.nodes.length : Nat)⟩ : Pr)]).flatMap prL) := (by rw [List.flatMap_append]; simpa using hown)
          obtain ⟨g9, d9, rfl, hg9, -⟩ := hownB.form (by omega)
          have OB := Lib.hid hownB
          have HG9 := Lib.hid hg9
          obtain ⟨y0, y1, y2, y3, y4, yf⟩ := box_five (heap_gr OKZ.out.2.1 GB.out)
          refine hK.out _ _ (KZ.out _ GB.out) (fun hHeld => ?_)
          clear hK K hown hgrow hownB hg9
          try simp only [Act.put, List.setIfInBounds_toArray, List.set_cons_zero, List.set_cons_succ]
          refine wpAnyH_take (i := 10) (oi := { dst := some 124, op := Op.fieldAddr 27 (Operand.tmp 16) 3, type := 0, pos := "law.go:226", after := #[{ on := 0, ground := Ground.phase }, { on := 1, ground := Ground.phase }, { on := 2, ground := Ground.phase }, { on := 3, ground := Ground.phase }, { on := 4, ground := Ground.phase }, { on := 5, ground := Ground.phase }, { on := 6, ground := Ground.phase }, { on := 7, ground := Ground.phase }, { on := 8, ground := Ground.phase }, { on := 9, ground := Ground.phase }], guard := none }) (v := ?_) rfl (by kernel_rfl) (by kernel_rfl) (by kernel_rfl) (fun _ _ _ h => h) (Or.inl ⟨by rfl, ?_⟩) hHeld ?_
          case refine_2 => (intro w hSw; (try dsimp only at hSw); go_simp; try (with_reducible rfl))
          try simp only [Act.put, List.setIfInBounds_toArray, List.set_cons_zero, List.set_cons_succ]
          refine wpAnyH_ready (rs := [11]) (by kernel_rfl) (by simp) ?_
          refine (AllReadyH.cons (o := { dst := none, op := Op.store 25 (Operand.tmp 124) (Operand.tmp 123), type := 0, pos := "law.go:226", after := #[{ on := 10, ground := Ground.data }, { on := 9, ground := Ground.data }, { on := 9, ground := Ground.chain }, { on := 0, ground := Ground.phase }, { on := 1, ground := Ground.phase }, { on := 2, ground := Ground.phase }, { on := 3, ground := Ground.phase }, { on := 4, ground := Ground.phase }, { on := 5, ground := Ground.phase }, { on := 6, ground := Ground.phase }, { on := 7, ground := Ground.phase }, { on := 8, ground := Ground.phase }, { on := 9, ground := Ground.phase }], guard := none }) rfl (fun K hK => ?_) AllReadyH.nil)
          go_simp
          have GS := Lib.hid (show Gr wh (wB.setCell ⟨wh.heap.size, 3, none⟩ (.slice (some ⟨g9, 0, none⟩) (n.props.length + 1) d9)) from Below.setCell (Gr.trans OKZ.out.2.2.1 GB.out) (p := ⟨wh.heap.size, 3, none⟩) (Nat.le_refl _) _)
          refine hK.out _ _ (KEEP.out _ (Gr.trans G5.out (Gr.trans GW.out GS.out))) (fun hHeld => ?_)
          clear hK K
          try simp only [Act.put, List.setIfInBounds_toArray, List.set_cons_zero, List.set_cons_succ]
          refine wpAnyH_done (by kernel_rfl) ?_ _
          have hbx : (wB.setCell ⟨wh.heap.size, 3, none⟩ (.slice (some ⟨g9, 0, none⟩) (n.props.length + 1) d9)).heap[wh.heap.size]? = some (.cells #[.slice (some ⟨g8, 0, none⟩) (n.nodes.length + 1) d8, .slice A2 n.ins.length c2, .slice A3 n.cells.length c3, .slice (some ⟨g9, 0, none⟩) (n.props.length + 1) d9, .slice A5 n.names.length c5] 27 (0, 0)) := by
            have h7 := heap_setCell_same wB wh.heap.size 3 _ 27 (.slice (some ⟨g9, 0, none⟩) (n.props.length + 1) d9) (heap_gr OKZ.out.2.1 GB.out)
            simpa using h7
          have NO := Lib.hid (show NtAt (wB.setCell ⟨wh.heap.size, 3, none⟩ (.slice (some ⟨g9, 0, none⟩) (n.props.length + 1) d9)) (withZ n ByteArray.empty) (ntV (some ⟨g8, 0, none⟩) A2 A3 (some ⟨g9, 0, none⟩) A5 (n.nodes.length + 1) n.ins.length n.cells.length (n.props.length + 1) n.names.length d8 c2 c3 d9 c5) from by
            have hys := YS.out
            have hzs := OKZ.out.2.2.2
            have hgw := Gr.trans (Gr.trans BW.out G5.out) (Gr.trans GW.out GS.out)
            obtain ⟨A', d', e8, hd8, -, hN⟩ := nd_own (own_put (g := wh.heap.size) (o := 3) (val := .slice (some ⟨g9, 0, none⟩) (n.props.length + 1) d9) (own_gr' OKZ.out.1 GB.out) (by omega)) (by simp)
            simp only [Value.slice.injEq, true_and] at e8
            obtain ⟨rfl, rfl⟩ := e8
            obtain ⟨A'', d'', e9, -, hP⟩ := pr_own (own_put (g := wh.heap.size) (o := 3) (val := .slice (some ⟨g9, 0, none⟩) (n.props.length + 1) d9) OB.out (by omega)) (by simp)
            simp only [Value.slice.injEq, true_and] at e9
            obtain ⟨rfl, rfl⟩ := e9
            exact ⟨some ⟨g8, 0, none⟩, A2, A3, some ⟨g9, 0, none⟩, A5, d8, c2, c3, d9, c5, by simp [withZ], by simpa [withZ] using hd8, hN, H2.out.gr hgw, H3.out.gr hgw, hP, H5.out.gr hgw⟩)
          have HO := Lib.hid (SHit_any (withZ n ByteArray.empty) _ _ (q : Int) t _ (sz_withZ HSZ.out _) NO (right_withZ hR _ H16.out) (tr_withZ hR _ HQ.out.1) HQ.out.2 (Lib.hid (HT.out.gr (Gr.trans U5.out (Gr.trans GW.out GS.out)))))
          simp only [QZ.out] at HO
          obtain ⟨y0, y1, y2, y3, y4, yf⟩ := box_five hbx
          clear hbx NO
          go_wp2_with fail
          refine HO.out.mono ?_
          rintro e wz ⟨rfl, hg⟩
          have GE := Lib.hid (Gr.trans (Gr.trans BW.out G5.out) (Gr.trans (Gr.trans GW.out GS.out) hg))
          clear hg y0 y1 y2 y3 y4 yf
          go_wp2_with fail
          go_ret
          exact ⟨rfl, GE.out⟩
      · skip
        have GN8 := Lib.hid (show Gr Z (Z.alloc (.cells #[.int .i64 9, .string ByteArray.empty, .int .i64 (n.nodes.length : Nat)] 47)) from Gr.trans (Gr.refl Z) (bel_alloc Z (.cells #[.int .i64 9, .string ByteArray.empty, .int .i64 (n.nodes.length : Nat)] 47)))
        have GN8d := Lib.hid (show Gr Z (Z.alloc (.cells #[.int .i64 9, .string ByteArray.empty, .int .i64 (n.nodes.length : Nat)] 47)).drew from Below.drew GN8.out)
        have HBB := Lib.hid (show ((Z.alloc (.cells #[.int .i64 9, .string ByteArray.empty, .int .i64 (n.nodes.length : Nat)] 47))).heap[Z.heap.size]? = some (.cells #[.int .i64 9, .string ByteArray.empty, .int .i64 (n.nodes.length : Nat)] 47 (0, 0)) from by have h := heap_new' Z (.cells #[.int .i64 9, .string ByteArray.empty, .int .i64 (n.nodes.length : Nat)] 47); simpa using h)
        go_simp
        refine hK.out _ _ (KZ.out _ GN8d.out) (fun hHeld => ?_)
        clear hK K
        try simp only [Act.put, List.setIfInBounds_toArray, List.set_cons_zero, List.set_cons_succ]
        refine wpAnyH_ready (rs := [0]) (by kernel_rfl) (by simp) ?_
        refine (AllReadyH.cons (o := { dst := some 114, op := Op.buildSlice 25 0 #[], type := 25, pos := "law.go:226", after := #[], guard := none }) rfl (fun K hK => ?_) AllReadyH.nil)
        have GN0 := Lib.hid (show Gr Z ((Z.alloc (.cells #[.int .i64 9, .string ByteArray.empty, .int .i64 (n.nodes.length : Nat)] 47)).alloc (.cells #[] 47)) from Gr.trans GN8.out (bel_alloc (Z.alloc (.cells #[.int .i64 9, .string ByteArray.empty, .int .i64 (n.nodes.length : Nat)] 47)) (.cells #[] 47)))
        have GN0d := Lib.hid (show Gr Z ((Z.alloc (.cells #[.int .i64 9, .string ByteArray.empty, .int .i64 (n.nodes.length : Nat)] 47)).alloc (.cells #[] 47)).drew from Below.drew GN0.out)
        have OA := Lib.hid (show (((Z.alloc (.cells #[.int .i64 9, .string ByteArray.empty, .int .i64 (n.nodes.length : Nat)] 47)).alloc (.cells #[] 47))).ownsRow Z.heap.size 47 3 (.slice (some ⟨Z.heap.size + 1, 0, none⟩) 0 0) 0 [] from by have h := own_empty (Z.alloc (.cells #[.int .i64 9, .string ByteArray.empty, .int .i64 (n.nodes.length : Nat)] 47)) 47 3 Z.heap.size (GN8.out).size; simpa using h)
        have HBB := Lib.hid (heap_gr HBB.out (bel_alloc (Z.alloc (.cells #[.int .i64 9, .string ByteArray.empty, .int .i64 (n.nodes.length : Nat)] 47)) (.cells #[] 47)))
        go_simp
        refine hK.out _ _ (KZ.out _ GN0d.out) (fun hHeld => ?_)
        clear hK K
        try simp only [Act.put, List.setIfInBounds_toArray, List.set_cons_zero, List.set_cons_succ]
        refine wpAnyH_ready (rs := [3]) (by kernel_rfl) (by simp) ?_
        refine (AllReadyH.cons (o := { dst := some 117, op := Op.call { callee := Callee.builtin Builtin.append, args := #[Operand.tmp 114, Operand.tmp 116], argTypes := #[25, 25] }, type := 25, pos := "law.go:226", after := #[{ on := 0, ground := Ground.data }, { on := 2, ground := Ground.data }], guard := none }) rfl (fun K hK => ?_) AllReadyH.nil)
        refine step_src _ rfl _ _ 25 rfl Z.heap.size 47 i3 (.agg #[.int .i64 0, .string ByteArray.empty, .int .i64 0]) 3 32 Try.underlying25 HJ.out.1 HJ.out.2.1 HJ.out.2.2.1 HJ.out.2.2.2 rfl (by decide) (.slice (some ⟨Z.heap.size + 1, 0, none⟩) 0 0) 0 [] rfl OA.out.drew (some ⟨b4, o4, none⟩) (by simp) n.props.length c4 (n.props.flatMap prL) rfl (flat_len prL prL_len _) (pr_news (H4.out.gr (Gr.trans BW.out (Gr.trans G5.out (Gr.trans GW.out (Gr.trans OKZ.out.2.2.1 (Below.drew GN0.out))))))) (pr_one _) (by have := H16.out; unfold maxLen; omega) (by have := H16.out; omega) (GN0.out).size ?_
        intro v9 wA hown hgrow
        have GA := Lib.hid (show Gr Z wA from Below.grown (Below.drew GN0.out) hgrow (GN0.out).size (fun k hk => (OA.out.lt k hk).1))
        have OV := Lib.hid (show wA.ownsRow Z.heap.size 47 3 v9 n.props.length (n.props.flatMap prL) from by simpa using hown)
        have HBB := Lib.hid (show wA.heap[Z.heap.size]? = some (.cells #[.int .i64 9, .string ByteArray.empty, .int .i64 (n.nodes.length : Nat)] 47 (0, 0)) from (hgrow.block (Z.heap.size) (hlt HBB.out) (fun hq => by simp [Value.ownBlock] at hq)).trans HBB.out)
        refine hK.out _ _ (KZ.out _ GA.out) (fun hHeld => ?_)
        clear hK K hown hgrow
        try simp only [Act.put, List.setIfInBounds_toArray, List.set_cons_zero, List.set_cons_succ]
        refine wpAnyH_ready (rs := [9]) (by kernel_rfl) (by simp) ?_
        refine (AllReadyH.cons (o := { dst := some 123, op := Op.call { callee := Callee.builtin Builtin.append, args := #[Operand.tmp 117, Operand.tmp 122], argTypes := #[25, 25] }, type := 25, pos := "law.go:226", after := #[{ on := 3, ground := Ground.data }, { on := 8, ground := Ground.data }, { on := 3, ground := Ground.chain }], guard := none }) rfl (fun K hK => ?_) AllReadyH.nil)
        refine step_src _ rfl _ _ 25 rfl Z.heap.size 47 i3 (.agg #[.int .i64 0, .string ByteArray.empty, .int .i64 0]) 3 32 Try.underlying25 HJ.out.1 HJ.out.2.1 HJ.out.2.2.1 HJ.out.2.2.2 rfl (by decide) v9 n.props.length (n.props.flatMap prL) rfl OV.out (some ⟨Z.heap.size, 0, none⟩) (by simp) 1 1 (prL (⟨9, ByteArray.empty, (n.nodes.length : Nat)⟩ : Pr)) rfl rfl (fun ad e => by obtain rfl := Option.some.inj e; exact World.news_of_block HBB.out) (by simpa using pr_one [(⟨9, ByteArray.empty, (n.nodes.length : Nat)⟩ : Pr)]) (by have := H16.out; unfold maxLen; omega) (by have := H16.out; omega) (GA.out).size ?_
        intro vB wB hown hgrow
        have GB := Lib.hid (show Gr Z wB from Below.grown GA.out hgrow (GA.out).size (fun k hk => (OV.out.lt k hk).1))
        have hownB : wB.ownsRow Z.heap.size 47 3 vB (n.props.length + 1) ((n.props ++ [(⟨9, ByteArray.empty, (n.nodes.length : Nat)⟩ : Pr)]).flatMap prL) := (by rw [List.flatMap_append]; simpa using hown)
        obtain ⟨g9, d9, rfl, hg9, -⟩ := hownB.form (by omega)
        have OB := Lib.hid hownB
        have HG9 := Lib.hid hg9
        obtain ⟨y0, y1, y2, y3, y4, yf⟩ := box_five (heap_gr OKZ.out.2.1 GB.out)
        refine hK.out _ _ (KZ.out _ GB.out) (fun hHeld => ?_)
        clear hK K hown hgrow hownB hg9
        try simp only [Act.put, List.setIfInBounds_toArray, List.set_cons_zero, List.set_cons_succ]
        refine wpAnyH_take (i := 10) (oi := { dst := some 124, op := Op.fieldAddr 27 (Operand.tmp 16) 3, type := 0, pos := "law.go:226", after := #[{ on := 0, ground := Ground.phase }, { on := 1, ground := Ground.phase }, { on := 2, ground := Ground.phase }, { on := 3, ground := Ground.phase }, { on := 4, ground := Ground.phase }, { on := 5, ground := Ground.phase }, { on := 6, ground := Ground.phase }, { on := 7, ground := Ground.phase }, { on := 8, ground := Ground.phase }, { on := 9, ground := Ground.phase }], guard := none }) (v := ?_) rfl (by kernel_rfl) (by kernel_rfl) (by kernel_rfl) (fun _ _ _ h => h) (Or.inl ⟨by rfl, ?_⟩) hHeld ?_
        case refine_2 => (intro w hSw; (try dsimp only at hSw); go_simp; try (with_reducible rfl))
        try simp only [Act.put, List.setIfInBounds_toArray, List.set_cons_zero, List.set_cons_succ]
        refine wpAnyH_ready (rs := [11]) (by kernel_rfl) (by simp) ?_
        refine (AllReadyH.cons (o := { dst := none, op := Op.store 25 (Operand.tmp 124) (Operand.tmp 123), type := 0, pos := "law.go:226", after := #[{ on := 10, ground := Ground.data }, { on := 9, ground := Ground.data }, { on := 9, ground := Ground.chain }, { on := 0, ground := Ground.phase }, { on := 1, ground := Ground.phase }, { on := 2, ground := Ground.phase }, { on := 3, ground := Ground.phase }, { on := 4, ground := Ground.phase }, { on := 5, ground := Ground.phase }, { on := 6, ground := Ground.phase }, { on := 7, ground := Ground.phase }, { on := 8, ground := Ground.phase }, { on := 9, ground := Ground.phase }], guard := none }) rfl (fun K hK => ?_) AllReadyH.nil)
        go_simp
        have GS := Lib.hid (show Gr wh (wB.setCell ⟨wh.heap.size, 3, none⟩ (.slice (some ⟨g9, 0, none⟩) (n.props.length + 1) d9)) from Below.setCell (Gr.trans OKZ.out.2.2.1 GB.out) (p := ⟨wh.heap.size, 3, none⟩) (Nat.le_refl _) _)
        refine hK.out _ _ (KEEP.out _ (Gr.trans G5.out (Gr.trans GW.out GS.out))) (fun hHeld => ?_)
        clear hK K
        try simp only [Act.put, List.setIfInBounds_toArray, List.set_cons_zero, List.set_cons_succ]
        refine wpAnyH_done (by kernel_rfl) ?_ _
        have hbx : (wB.setCell ⟨wh.heap.size, 3, none⟩ (.slice (some ⟨g9, 0, none⟩) (n.props.length + 1) d9)).heap[wh.heap.size]? = some (.cells #[.slice (some ⟨g8, 0, none⟩) (n.nodes.length + 1) d8, .slice A2 n.ins.length c2, .slice A3 n.cells.length c3, .slice (some ⟨g9, 0, none⟩) (n.props.length + 1) d9, .slice A5 n.names.length c5] 27 (0, 0)) := by
          have h7 := heap_setCell_same wB wh.heap.size 3 _ 27 (.slice (some ⟨g9, 0, none⟩) (n.props.length + 1) d9) (heap_gr OKZ.out.2.1 GB.out)
          simpa using h7
        have NO := Lib.hid (show NtAt (wB.setCell ⟨wh.heap.size, 3, none⟩ (.slice (some ⟨g9, 0, none⟩) (n.props.length + 1) d9)) (withZ n ByteArray.empty) (ntV (some ⟨g8, 0, none⟩) A2 A3 (some ⟨g9, 0, none⟩) A5 (n.nodes.length + 1) n.ins.length n.cells.length (n.props.length + 1) n.names.length d8 c2 c3 d9 c5) from by
          have hys := YS.out
          have hzs := OKZ.out.2.2.2
          have hgw := Gr.trans (Gr.trans BW.out G5.out) (Gr.trans GW.out GS.out)
          obtain ⟨A', d', e8, hd8, -, hN⟩ := nd_own (own_put (g := wh.heap.size) (o := 3) (val := .slice (some ⟨g9, 0, none⟩) (n.props.length + 1) d9) (own_gr' OKZ.out.1 GB.out) (by omega)) (by simp)
          simp only [Value.slice.injEq, true_and] at e8
          obtain ⟨rfl, rfl⟩ := e8
          obtain ⟨A'', d'', e9, -, hP⟩ := pr_own (own_put (g := wh.heap.size) (o := 3) (val := .slice (some ⟨g9, 0, none⟩) (n.props.length + 1) d9) OB.out (by omega)) (by simp)
          simp only [Value.slice.injEq, true_and] at e9
          obtain ⟨rfl, rfl⟩ := e9
          exact ⟨some ⟨g8, 0, none⟩, A2, A3, some ⟨g9, 0, none⟩, A5, d8, c2, c3, d9, c5, by simp [withZ], by simpa [withZ] using hd8, hN, H2.out.gr hgw, H3.out.gr hgw, hP, H5.out.gr hgw⟩)
        have HO := Lib.hid (SHit_any (withZ n ByteArray.empty) _ _ (q : Int) t _ (sz_withZ HSZ.out _) NO (right_withZ hR _ H16.out) (tr_withZ hR _ HQ.out.1) HQ.out.2 (Lib.hid (HT.out.gr (Gr.trans U5.out (Gr.trans GW.out GS.out)))))
        simp only [QZ.out] at HO
        obtain ⟨y0, y1, y2, y3, y4, yf⟩ := box_five hbx
        clear hbx NO
        go_wp2_with fail
        refine HO.out.mono ?_
        rintro e wz ⟨rfl, hg⟩
        have GE := Lib.hid (Gr.trans (Gr.trans BW.out G5.out) (Gr.trans (Gr.trans GW.out GS.out) hg))
        clear hg y0 y1 y2 y3 y4 yf
        go_wp2_with fail
        go_ret
        exact ⟨rfl, GE.out⟩
    | false =>
      generalize hitOf (withP n (n.props.map coverP)) t (q : Nat) = hh at HM
      obtain ⟨ha, hb⟩ := hh
      clear h9 HCOV
      go_wp2_with fail
      refine (HM.out _ (Gr.refl _)).mono ?_
      rintro e wh ⟨rfl, hg⟩
      have GW := Lib.hid (Gr.trans GM.out hg)
      clear HM e0 e1 e2 e3 e4 d0 y0 y1 y2 y3 y4 yf
      obtain ⟨e0, e1, e2, e3, e4⟩ := KEEP.out _ (Gr.trans G5.out GW.out)
      go_upto_region 18 with fail
      go_upto_region 19 with fail
      obtain ⟨Y, eY, GY, YB, YS⟩ : ∃ Y, wh.alloc (.cells #[.slice (some ⟨b1, o1, none⟩) n.nodes.length c1, .slice A2 n.ins.length c2, .slice A3 n.cells.length c3, .slice (some ⟨b4, o4, none⟩) n.props.length c4, .slice A5 n.names.length c5] 27) = Y ∧ Hid (Gr wh Y) ∧ Hid (Y.heap[wh.heap.size]? = some (.cells #[.slice (some ⟨b1, o1, none⟩) n.nodes.length c1, .slice A2 n.ins.length c2, .slice A3 n.cells.length c3, .slice (some ⟨b4, o4, none⟩) n.props.length c4, .slice A5 n.names.length c5] 27 (0, 0))) ∧ Hid (Y.heap.size = wh.heap.size + 1) :=
        ⟨_, rfl, Lib.hid (bel_alloc _ _), Lib.hid (heap_new' _ _), Lib.hid (by simp)⟩
      rw [eY]
      clear eY e0 e1 e2 e3 e4
      try clear y0 y1 y2 y3 y4 yf
      try clear d0
      obtain ⟨e0, e1, e2, e3, e4⟩ := KEEP.out _ (Gr.trans G5.out (Gr.trans GW.out GY.out))
      obtain ⟨x0, x1, x2, x3, x4⟩ := KEEP.out (Y.alloc (.cells #[] 53)) (Gr.trans G5.out (Gr.trans GW.out (Gr.trans GY.out (bel_alloc _ _))))
      go_upto_region 20 with (at_builtin; first | (refine append_src _ rfl _ _ 22 rfl Y.heap.size 53 i0 (.agg #[.int .i64 0, .int .i64 0, .int .i64 0, .int .i64 0, .int .i64 0, .int .i64 0, .int .i64 0]) 7 56 Try.underlying22 HI.out.1 HI.out.2.1 HI.out.2.2.1 HI.out.2.2.2 rfl (by decide) (.slice (some ⟨Y.heap.size, 0, none⟩) 0 0) 0 [] rfl (own_empty Y 53 7 Y.heap.size (Nat.le_refl _)) (some ⟨b1, o1, none⟩) n.nodes.length c1 (n.nodes.flatMap ndL) rfl (fun h => by cases h) (flat_len ndL ndL_len _) (nd_news (H1.out.gr (Gr.trans BW.out (Gr.trans G5.out (Gr.trans GW.out (Gr.trans GY.out (bel_alloc Y (.cells #[] 53)))))))) (nd_one _) (by have := HSZ.out; unfold maxLen; omega) (by have := HSZ.out; omega) (by simp) ?_; intro v7 w7 hown hb7; have B7 := Lib.hid (show Gr Y w7 from Below.trans (bel_alloc Y (.cells #[] 53)) hb7); have hown7 : w7.ownsRow Y.heap.size 53 7 v7 n.nodes.length (n.nodes.flatMap ndL) := (by simpa using hown); have O7 := Lib.hid hown7; clear hown hown7 hb7) | (refine append_src _ rfl _ _ 22 rfl Y.heap.size 53 i0 (.agg #[.int .i64 0, .int .i64 0, .int .i64 0, .int .i64 0, .int .i64 0, .int .i64 0, .int .i64 0]) 7 56 Try.underlying22 HI.out.1 HI.out.2.1 HI.out.2.2.1 HI.out.2.2.2 rfl (by decide) v7 n.nodes.length (n.nodes.flatMap ndL) rfl (O7.out.alloc _) (some ⟨w7.heap.size, 0, none⟩) 1 1 (ndL zeroNd) rfl (fun h => by cases h) rfl (fun ad e j u hj => by obtain rfl := Option.some.inj e; exact row_laid w7 #[.int .i64 1, .int .i64 1, .int .i64 0, .int .i64 0, .int .i64 0, .int .i64 0, .int .i64 0] 53 j u hj) (by simpa using nd_one [zeroNd]) (by have := HSZ.out; unfold maxLen; omega) (by have := HSZ.out; omega) (Nat.le_trans B7.out.size (bel_alloc w7 _).size) ?_; intro v8 w8 hown hb8; have B8 := Lib.hid (show Gr Y w8 from Below.trans (Below.trans B7.out (Below.mono (bel_alloc w7 (.cells #[.int .i64 1, .int .i64 1, .int .i64 0, .int .i64 0, .int .i64 0, .int .i64 0, .int .i64 0] 53)) B7.out.size)) hb8); have hown8 : w8.ownsRow Y.heap.size 53 7 v8 (n.nodes.length + 1) ((n.nodes ++ [zeroNd]).flatMap ndL) := (by rw [List.flatMap_append]; simpa using hown); have O8 := Lib.hid hown8; obtain ⟨g8, d8, rfl, hg8, hl8⟩ := hown8.form (by omega); obtain ⟨y0, y1, y2, y3, y4, yf⟩ := box_five (heap_gr YB.out B8.out); clear hown hown8 hb8))
      obtain ⟨Z, eZ, OKZ⟩ : ∃ Z, w8.setCell ⟨wh.heap.size, 0, none⟩ (.slice (some ⟨g8, 0, none⟩) (n.nodes.length + 1) d8) = Z ∧ Hid (Z.ownsRow Y.heap.size 53 7 (.slice (some ⟨g8, 0, none⟩) (n.nodes.length + 1) d8) (n.nodes.length + 1) ((n.nodes ++ [zeroNd]).flatMap ndL) ∧ Z.heap[wh.heap.size]? = some (.cells #[.slice (some ⟨g8, 0, none⟩) (n.nodes.length + 1) d8, .slice A2 n.ins.length c2, .slice A3 n.cells.length c3, .slice (some ⟨b4, o4, none⟩) n.props.length c4, .slice A5 n.names.length c5] 27 (0, 0)) ∧ Gr wh Z ∧ wh.heap.size < Z.heap.size) := by
        have hys := YS.out
        refine ⟨_, rfl, Lib.hid ⟨own_put O8.out (by omega), ?_, Below.setCell (Gr.trans GY.out B8.out) (p := ⟨wh.heap.size, 0, none⟩) (Nat.le_refl _) _, by have := B8.out.size; simp; omega⟩⟩
        have h7 := heap_setCell_same w8 wh.heap.size 0 _ 27 (.slice (some ⟨g8, 0, none⟩) (n.nodes.length + 1) d8) (heap_gr YB.out B8.out)
        simpa using h7
      rw [eZ]
      clear eZ e0 e1 e2 e3 e4 x0 x1 x2 x3 x4 y0 y1 y2 y3 y4 yf O8 B8 O7 B7 hl8 hg8
      have KZ := Lib.hid (fun (u : World) (hu : Gr Z u) => (show BxAt u w.heap.size n (some ⟨b1, o1, none⟩) A2 A3 (some ⟨b4, o4, none⟩) A5 c1 c2 c3 c4 c5 from KEEP.out u (Gr.trans G5.out (Gr.trans GW.out (Gr.trans OKZ.out.2.2.1 hu)))))
      refine wp_region_held_drew (S := (fun u : World => BxAt u w.heap.size n (some ⟨b1, o1, none⟩) A2 A3 (some ⟨b4, o4, none⟩) A5 c1 c2 c3 c4 c5)) (by kernel_rfl) (KZ.out _ (Gr.drew _)) (fun hHeld => ?_)
      refine wpAnyH_take (i := 1) (oi := { dst := some 115, op := Op.fieldAddr 27 (Operand.tmp 3) 3, type := 0, pos := "law.go:226", after := #[], guard := none }) (v := ?_) rfl (by kernel_rfl) (by kernel_rfl) (by kernel_rfl) (fun _ _ _ h => h) (Or.inl ⟨by rfl, ?_⟩) hHeld ?_
      case refine_2 => (intro w hSw; (try dsimp only at hSw); go_simp; try (with_reducible rfl))
      try simp only [Act.put, List.setIfInBounds_toArray, List.set_cons_zero, List.set_cons_succ]
      refine wpAnyH_take (i := 2) (oi := { dst := some 116, op := Op.load 25 (Operand.tmp 115), type := 25, pos := "law.go:226", after := #[{ on := 1, ground := Ground.data }], guard := none }) (v := ?_) rfl (by kernel_rfl) (by kernel_rfl) (by kernel_rfl) (fun _ _ _ h => h) (Or.inl ⟨by rfl, ?_⟩) hHeld ?_
      case refine_2 => (intro w hSw; (try dsimp only at hSw); go_simp; try (with_reducible rfl))
      try simp only [Act.put, List.setIfInBounds_toArray, List.set_cons_zero, List.set_cons_succ]
      refine wpAnyH_take (i := 4) (oi := { dst := some 118, op := Op.fieldAddr 27 (Operand.tmp 3) 0, type := 0, pos := "law.go:226", after := #[], guard := none }) (v := ?_) rfl (by kernel_rfl) (by kernel_rfl) (by kernel_rfl) (fun _ _ _ h => h) (Or.inl ⟨by rfl, ?_⟩) hHeld ?_
      case refine_2 => (intro w hSw; (try dsimp only at hSw); go_simp; try (with_reducible rfl))
      try simp only [Act.put, List.setIfInBounds_toArray, List.set_cons_zero, List.set_cons_succ]
      refine wpAnyH_take (i := 5) (oi := { dst := some 119, op := Op.load 22 (Operand.tmp 118), type := 22, pos := "law.go:226", after := #[{ on := 4, ground := Ground.data }], guard := none }) (v := ?_) rfl (by kernel_rfl) (by kernel_rfl) (by kernel_rfl) (fun _ _ _ h => h) (Or.inl ⟨by rfl, ?_⟩) hHeld ?_
      case refine_2 => (intro w hSw; (try dsimp only at hSw); go_simp; try (with_reducible rfl))
      try simp only [Act.put, List.setIfInBounds_toArray, List.set_cons_zero, List.set_cons_succ]
      refine wpAnyH_take (i := 6) (oi := { dst := some 120, op := Op.call { callee := Callee.builtin Builtin.len, args := #[Operand.tmp 119], argTypes := #[22] }, type := 3, pos := "law.go:226", after := #[{ on := 5, ground := Ground.data }], guard := none }) (v := ?_) rfl (by kernel_rfl) (by kernel_rfl) (by kernel_rfl) (fun _ _ _ h => h) (Or.inl ⟨by rfl, ?_⟩) hHeld ?_
      case refine_2 => (intro w hSw; (try dsimp only at hSw); go_simp; try (with_reducible rfl))
      try simp only [Act.put, List.setIfInBounds_toArray, List.set_cons_zero, List.set_cons_succ]
      refine wpAnyH_take (i := 7) (oi := { dst := some 121, op := Op.build 47 #[(0, Operand.const (Value.int IntKind.i64 9)), (2, Operand.tmp 120)], type := 47, pos := "law.go:226", after := #[{ on := 6, ground := Ground.data }], guard := none }) (v := ?_) rfl (by kernel_rfl) (by kernel_rfl) (by kernel_rfl) (fun _ _ _ h => h) (Or.inl ⟨by rfl, ?_⟩) hHeld ?_
      case refine_2 => (intro w hSw; (try dsimp only at hSw); go_simp; try (with_reducible rfl))
      try simp only [Act.put, List.setIfInBounds_toArray, List.set_cons_zero, List.set_cons_succ]
      refine wpAnyH_ready (rs := [0, 8]) (by kernel_rfl) (by simp) ?_
      refine (AllReadyH.cons (o := { dst := some 114, op := Op.buildSlice 25 0 #[], type := 25, pos := "law.go:226", after := #[], guard := none }) rfl (fun K hK => ?_) (AllReadyH.cons (o := { dst := some 122, op := Op.buildSlice 25 1 #[(0, Operand.tmp 121)], type := 25, pos := "law.go:226", after := #[{ on := 7, ground := Ground.data }], guard := none }) rfl (fun K hK => ?_) AllReadyH.nil))
      · skip
        have GN0 := Lib.hid (show Gr Z (Z.alloc (.cells #[] 47)) from Gr.trans (Gr.refl Z) (bel_alloc Z (.cells #[] 47)))
        have GN0d := Lib.hid (show Gr Z (Z.alloc (.cells #[] 47)).drew from Below.drew GN0.out)
        have OA := Lib.hid (show ((Z.alloc (.cells #[] 47))).ownsRow Z.heap.size 47 3 (.slice (some ⟨Z.heap.size, 0, none⟩) 0 0) 0 [] from by have h := own_empty Z 47 3 Z.heap.size ((Gr.refl Z)).size; simpa using h)
        go_simp
        refine hK.out _ _ (KZ.out _ GN0d.out) (fun hHeld => ?_)
        clear hK K
        try simp only [Act.put, List.setIfInBounds_toArray, List.set_cons_zero, List.set_cons_succ]
        refine wpAnyH_ready (rs := [3, 8]) (by kernel_rfl) (by simp) ?_
        refine (AllReadyH.cons (o := { dst := some 117, op := Op.call { callee := Callee.builtin Builtin.append, args := #[Operand.tmp 114, Operand.tmp 116], argTypes := #[25, 25] }, type := 25, pos := "law.go:226", after := #[{ on := 0, ground := Ground.data }, { on := 2, ground := Ground.data }], guard := none }) rfl (fun K hK => ?_) (AllReadyH.cons (o := { dst := some 122, op := Op.buildSlice 25 1 #[(0, Operand.tmp 121)], type := 25, pos := "law.go:226", after := #[{ on := 7, ground := Ground.data }], guard := none }) rfl (fun K hK => ?_) AllReadyH.nil))
        · skip
          refine step_src _ rfl _ _ 25 rfl Z.heap.size 47 i3 (.agg #[.int .i64 0, .string ByteArray.empty, .int .i64 0]) 3 32 Try.underlying25 HJ.out.1 HJ.out.2.1 HJ.out.2.2.1 HJ.out.2.2.2 rfl (by decide) (.slice (some ⟨Z.heap.size, 0, none⟩) 0 0) 0 [] rfl OA.out.drew (some ⟨b4, o4, none⟩) (by simp) n.props.length c4 (n.props.flatMap prL) rfl (flat_len prL prL_len _) (pr_news (H4.out.gr (Gr.trans BW.out (Gr.trans G5.out (Gr.trans GW.out (Gr.trans OKZ.out.2.2.1 (Below.drew GN0.out))))))) (pr_one _) (by have := H16.out; unfold maxLen; omega) (by have := H16.out; omega) (GN0.out).size ?_
          intro v9 wA hown hgrow
          have GA := Lib.hid (show Gr Z wA from Below.grown (Below.drew GN0.out) hgrow (GN0.out).size (fun k hk => (OA.out.lt k hk).1))
          have OV := Lib.hid (show wA.ownsRow Z.heap.size 47 3 v9 n.props.length (n.props.flatMap prL) from by simpa using hown)
          refine hK.out _ _ (KZ.out _ GA.out) (fun hHeld => ?_)
          clear hK K hown hgrow
          try simp only [Act.put, List.setIfInBounds_toArray, List.set_cons_zero, List.set_cons_succ]
          refine wpAnyH_ready (rs := [8]) (by kernel_rfl) (by simp) ?_
          refine (AllReadyH.cons (o := { dst := some 122, op := Op.buildSlice 25 1 #[(0, Operand.tmp 121)], type := 25, pos := "law.go:226", after := #[{ on := 7, ground := Ground.data }], guard := none }) rfl (fun K hK => ?_) AllReadyH.nil)
          have GN8 := Lib.hid (show Gr Z (wA.alloc (.cells #[.int .i64 9, .string ByteArray.empty, .int .i64 (n.nodes.length : Nat)] 47)) from Gr.trans GA.out (bel_alloc wA (.cells #[.int .i64 9, .string ByteArray.empty, .int .i64 (n.nodes.length : Nat)] 47)))
          have GN8d := Lib.hid (show Gr Z (wA.alloc (.cells #[.int .i64 9, .string ByteArray.empty, .int .i64 (n.nodes.length : Nat)] 47)) from GN8.out)
          have HBB := Lib.hid (show ((wA.alloc (.cells #[.int .i64 9, .string ByteArray.empty, .int .i64 (n.nodes.length : Nat)] 47))).heap[wA.heap.size]? = some (.cells #[.int .i64 9, .string ByteArray.empty, .int .i64 (n.nodes.length : Nat)] 47 (0, 0)) from by have h := heap_new' wA (.cells #[.int .i64 9, .string ByteArray.empty, .int .i64 (n.nodes.length : Nat)] 47); simpa using h)
          have OV := Lib.hid (OV.out.alloc (.cells #[.int .i64 9, .string ByteArray.empty, .int .i64 (n.nodes.length : Nat)] 47))
          go_simp
          refine hK.out _ _ (KZ.out _ GN8d.out) (fun hHeld => ?_)
          clear hK K
          try simp only [Act.put, List.setIfInBounds_toArray, List.set_cons_zero, List.set_cons_succ]
          refine wpAnyH_ready (rs := [9]) (by kernel_rfl) (by simp) ?_
          refine (AllReadyH.cons (o := { dst := some 123, op := Op.call { callee := Callee.builtin Builtin.append, args := #[Operand.tmp 117, Operand.tmp 122], argTypes := #[25, 25] }, type := 25, pos := "law.go:226", after := #[{ on := 3, ground := Ground.data }, { on := 8, ground := Ground.data }, { on := 3, ground := Ground.chain }], guard := none }) rfl (fun K hK => ?_) AllReadyH.nil)
          refine step_src _ rfl _ _ 25 rfl Z.heap.size 47 i3 (.agg #[.int .i64 0, .string ByteArray.empty, .int .i64 0]) 3 32 Try.underlying25 HJ.out.1 HJ.out.2.1 HJ.out.2.2.1 HJ.out.2.2.2 rfl (by decide) v9 n.props.length (n.props.flatMap prL) rfl OV.out (some ⟨wA.heap.size, 0, none⟩) (by simp) 1 1 (prL (⟨9, ByteArray.empty, (n.nodes.length : Nat)⟩ : Pr)) rfl rfl (fun ad e => by obtain rfl := Option.some.inj e; exact World.news_of_block HBB.out) (by simpa using pr_one [(⟨9, ByteArray.empty, (n.nodes.length : Nat)⟩ : Pr)]) (by have := H16.out; unfold maxLen; omega) (by have := H16.out; omega) (GN8.out).size ?_
          intro vB wB hown hgrow
          have GB := Lib.hid (show Gr Z wB from Below.grown GN8.out hgrow (GN8.out).size (fun k hk => (OV.out.lt k hk).1))
          have hownB : wB.ownsRow Z.heap.size 47 3 vB (n.props.length + 1) ((n.props ++ [(⟨9, ByteArray.empty, (n.nodes.length : Nat)⟩ : Pr)]).flatMap prL) := (by rw [List.flatMap_append]; simpa using hown)
          obtain ⟨g9, d9, rfl, hg9, -⟩ := hownB.form (by omega)
          have OB := Lib.hid hownB
          have HG9 := Lib.hid hg9
          obtain ⟨y0, y1, y2, y3, y4, yf⟩ := box_five (heap_gr OKZ.out.2.1 GB.out)
          refine hK.out _ _ (KZ.out _ GB.out) (fun hHeld => ?_)
          clear hK K hown hgrow hownB hg9
          try simp only [Act.put, List.setIfInBounds_toArray, List.set_cons_zero, List.set_cons_succ]
          refine wpAnyH_take (i := 10) (oi := { dst := some 124, op := Op.fieldAddr 27 (Operand.tmp 16) 3, type := 0, pos := "law.go:226", after := #[{ on := 0, ground := Ground.phase }, { on := 1, ground := Ground.phase }, { on := 2, ground := Ground.phase }, { on := 3, ground := Ground.phase }, { on := 4, ground := Ground.phase }, { on := 5, ground := Ground.phase }, { on := 6, ground := Ground.phase }, { on := 7, ground := Ground.phase }, { on := 8, ground := Ground.phase }, { on := 9, ground := Ground.phase }], guard := none }) (v := ?_) rfl (by kernel_rfl) (by kernel_rfl) (by kernel_rfl) (fun _ _ _ h => h) (Or.inl ⟨by rfl, ?_⟩) hHeld ?_
          case refine_2 => (intro w hSw; (try dsimp only at hSw); go_simp; try (with_reducible rfl))
          try simp only [Act.put, List.setIfInBounds_toArray, List.set_cons_zero, List.set_cons_succ]
          refine wpAnyH_ready (rs := [11]) (by kernel_rfl) (by simp) ?_
          refine (AllReadyH.cons (o := { dst := none, op := Op.store 25 (Operand.tmp 124) (Operand.tmp 123), type := 0, pos := "law.go:226", after := #[{ on := 10, ground := Ground.data }, { on := 9, ground := Ground.data }, { on := 9, ground := Ground.chain }, { on := 0, ground := Ground.phase }, { on := 1, ground := Ground.phase }, { on := 2, ground := Ground.phase }, { on := 3, ground := Ground.phase }, { on := 4, ground := Ground.phase }, { on := 5, ground := Ground.phase }, { on := 6, ground := Ground.phase }, { on := 7, ground := Ground.phase }, { on := 8, ground := Ground.phase }, { on := 9, ground := Ground.phase }], guard := none }) rfl (fun K hK => ?_) AllReadyH.nil)
          go_simp
          have GS := Lib.hid (show Gr wh (wB.setCell ⟨wh.heap.size, 3, none⟩ (.slice (some ⟨g9, 0, none⟩) (n.props.length + 1) d9)) from Below.setCell (Gr.trans OKZ.out.2.2.1 GB.out) (p := ⟨wh.heap.size, 3, none⟩) (Nat.le_refl _) _)
          refine hK.out _ _ (KEEP.out _ (Gr.trans G5.out (Gr.trans GW.out GS.out))) (fun hHeld => ?_)
          clear hK K
          try simp only [Act.put, List.setIfInBounds_toArray, List.set_cons_zero, List.set_cons_succ]
          refine wpAnyH_done (by kernel_rfl) ?_ _
          have hbx : (wB.setCell ⟨wh.heap.size, 3, none⟩ (.slice (some ⟨g9, 0, none⟩) (n.props.length + 1) d9)).heap[wh.heap.size]? = some (.cells #[.slice (some ⟨g8, 0, none⟩) (n.nodes.length + 1) d8, .slice A2 n.ins.length c2, .slice A3 n.cells.length c3, .slice (some ⟨g9, 0, none⟩) (n.props.length + 1) d9, .slice A5 n.names.length c5] 27 (0, 0)) := by
            have h7 := heap_setCell_same wB wh.heap.size 3 _ 27 (.slice (some ⟨g9, 0, none⟩) (n.props.length + 1) d9) (heap_gr OKZ.out.2.1 GB.out)
            simpa using h7
          have NO := Lib.hid (show NtAt (wB.setCell ⟨wh.heap.size, 3, none⟩ (.slice (some ⟨g9, 0, none⟩) (n.props.length + 1) d9)) (withZ n ByteArray.empty) (ntV (some ⟨g8, 0, none⟩) A2 A3 (some ⟨g9, 0, none⟩) A5 (n.nodes.length + 1) n.ins.length n.cells.length (n.props.length + 1) n.names.length d8 c2 c3 d9 c5) from by
            have hys := YS.out
            have hzs := OKZ.out.2.2.2
            have hgw := Gr.trans (Gr.trans BW.out G5.out) (Gr.trans GW.out GS.out)
            obtain ⟨A', d', e8, hd8, -, hN⟩ := nd_own (own_put (g := wh.heap.size) (o := 3) (val := .slice (some ⟨g9, 0, none⟩) (n.props.length + 1) d9) (own_gr' OKZ.out.1 GB.out) (by omega)) (by simp)
            simp only [Value.slice.injEq, true_and] at e8
            obtain ⟨rfl, rfl⟩ := e8
            obtain ⟨A'', d'', e9, -, hP⟩ := pr_own (own_put (g := wh.heap.size) (o := 3) (val := .slice (some ⟨g9, 0, none⟩) (n.props.length + 1) d9) OB.out (by omega)) (by simp)
            simp only [Value.slice.injEq, true_and] at e9
            obtain ⟨rfl, rfl⟩ := e9
            exact ⟨some ⟨g8, 0, none⟩, A2, A3, some ⟨g9, 0, none⟩, A5, d8, c2, c3, d9, c5, by simp [withZ], by simpa [withZ] using hd8, hN, H2.out.gr hgw, H3.out.gr hgw, hP, H5.out.gr hgw⟩)
          have HO := Lib.hid (SHit_any (withZ n ByteArray.empty) _ _ (q : Int) t _ (sz_withZ HSZ.out _) NO (right_withZ hR _ H16.out) (tr_withZ hR _ HQ.out.1) HQ.out.2 (Lib.hid (HT.out.gr (Gr.trans U5.out (Gr.trans GW.out GS.out)))))
          simp only [QZ.out] at HO
          obtain ⟨y0, y1, y2, y3, y4, yf⟩ := box_five hbx
          clear hbx NO
          go_wp2_with fail
          refine HO.out.mono ?_
          rintro e wz ⟨rfl, hg⟩
          have GE := Lib.hid (Gr.trans (Gr.trans BW.out G5.out) (Gr.trans (Gr.trans GW.out GS.out) hg))
          clear hg y0 y1 y2 y3 y4 yf
          go_wp2_with fail
          go_ret
          exact ⟨rfl, GE.out⟩
        · skip
          have GN8 := Lib.hid (show Gr Z ((Z.alloc (.cells #[] 47)).alloc (.cells #[.int .i64 9, .string ByteArray.empty, .int .i64 (n.nodes.length : Nat)] 47)) from Gr.trans GN0.out (bel_alloc (Z.alloc (.cells #[] 47)) (.cells #[.int .i64 9, .string ByteArray.empty, .int .i64 (n.nodes.length : Nat)] 47)))
          have GN8d := Lib.hid (show Gr Z ((Z.alloc (.cells #[] 47)).alloc (.cells #[.int .i64 9, .string ByteArray.empty, .int .i64 (n.nodes.length : Nat)] 47)).drew from Below.drew GN8.out)
          have HBB := Lib.hid (show (((Z.alloc (.cells #[] 47)).alloc (.cells #[.int .i64 9, .string ByteArray.empty, .int .i64 (n.nodes.length : Nat)] 47))).heap[Z.heap.size + 1]? = some (.cells #[.int .i64 9, .string ByteArray.empty, .int .i64 (n.nodes.length : Nat)] 47 (0, 0)) from by have h := heap_new' (Z.alloc (.cells #[] 47)) (.cells #[.int .i64 9, .string ByteArray.empty, .int .i64 (n.nodes.length : Nat)] 47); simpa using h)
          have OA := Lib.hid (OA.out.alloc (.cells #[.int .i64 9, .string ByteArray.empty, .int .i64 (n.nodes.length : Nat)] 47))
          go_simp
          refine hK.out _ _ (KZ.out _ GN8d.out) (fun hHeld => ?_)
          clear hK K
          try simp only [Act.put, List.setIfInBounds_toArray, List.set_cons_zero, List.set_cons_succ]
          refine wpAnyH_ready (rs := [3]) (by kernel_rfl) (by simp) ?_
          refine (AllReadyH.cons (o := { dst := some 117, op := Op.call { callee := Callee.builtin Builtin.append, args := #[Operand.tmp 114, Operand.tmp 116], argTypes := #[25, 25] }, type := 25, pos := "law.go:226", after := #[{ on := 0, ground := Ground.data }, { on := 2, ground := Ground.data }], guard := none }) rfl (fun K hK => ?_) AllReadyH.nil)
          refine step_src _ rfl _ _ 25 rfl Z.heap.size 47 i3 (.agg #[.int .i64 0, .string ByteArray.empty, .int .i64 0]) 3 32 Try.underlying25 HJ.out.1 HJ.out.2.1 HJ.out.2.2.1 HJ.out.2.2.2 rfl (by decide) (.slice (some ⟨Z.heap.size, 0, none⟩) 0 0) 0 [] rfl OA.out.drew (some ⟨b4, o4, none⟩) (by simp) n.props.length c4 (n.props.flatMap prL) rfl (flat_len prL prL_len _) (pr_news (H4.out.gr (Gr.trans BW.out (Gr.trans G5.out (Gr.trans GW.out (Gr.trans OKZ.out.2.2.1 (Below.drew GN8.out))))))) (pr_one _) (by have := H16.out; unfold maxLen; omega) (by have := H16.out; omega) (GN8.out).size ?_
          intro v9 wA hown hgrow
          have GA := Lib.hid (show Gr Z wA from Below.grown (Below.drew GN8.out) hgrow (GN8.out).size (fun k hk => (OA.out.lt k hk).1))
          have OV := Lib.hid (show wA.ownsRow Z.heap.size 47 3 v9 n.props.length (n.props.flatMap prL) from by simpa using hown)
          have HBB := Lib.hid (show wA.heap[Z.heap.size + 1]? = some (.cells #[.int .i64 9, .string ByteArray.empty, .int .i64 (n.nodes.length : Nat)] 47 (0, 0)) from (hgrow.block (Z.heap.size + 1) (hlt HBB.out) (fun hq => by simp [Value.ownBlock] at hq)).trans HBB.out)
          refine hK.out _ _ (KZ.out _ GA.out) (fun hHeld => ?_)
          clear hK K hown hgrow
          try simp only [Act.put, List.setIfInBounds_toArray, List.set_cons_zero, List.set_cons_succ]
          refine wpAnyH_ready (rs := [9]) (by kernel_rfl) (by simp) ?_
          refine (AllReadyH.cons (o := { dst := some 123, op := Op.call { callee := Callee.builtin Builtin.append, args := #[Operand.tmp 117, Operand.tmp 122], argTypes := #[25, 25] }, type := 25, pos := "law.go:226", after := #[{ on := 3, ground := Ground.data }, { on := 8, ground := Ground.data }, { on := 3, ground := Ground.chain }], guard := none }) rfl (fun K hK => ?_) AllReadyH.nil)
          refine step_src _ rfl _ _ 25 rfl Z.heap.size 47 i3 (.agg #[.int .i64 0, .string ByteArray.empty, .int .i64 0]) 3 32 Try.underlying25 HJ.out.1 HJ.out.2.1 HJ.out.2.2.1 HJ.out.2.2.2 rfl (by decide) v9 n.props.length (n.props.flatMap prL) rfl OV.out (some ⟨Z.heap.size + 1, 0, none⟩) (by simp) 1 1 (prL (⟨9, ByteArray.empty, (n.nodes.length : Nat)⟩ : Pr)) rfl rfl (fun ad e => by obtain rfl := Option.some.inj e; exact World.news_of_block HBB.out) (by simpa using pr_one [(⟨9, ByteArray.empty, (n.nodes.length : Nat)⟩ : Pr)]) (by have := H16.out; unfold maxLen; omega) (by have := H16.out; omega) (GA.out).size ?_
          intro vB wB hown hgrow
          have GB := Lib.hid (show Gr Z wB from Below.grown GA.out hgrow (GA.out).size (fun k hk => (OV.out.lt k hk).1))
          have hownB : wB.ownsRow Z.heap.size 47 3 vB (n.props.length + 1) ((n.props ++ [(⟨9, ByteArray.empty, (n.nodes.length : Nat)⟩ : Pr)]).flatMap prL) := (by rw [List.flatMap_append]; simpa using hown)
          obtain ⟨g9, d9, rfl, hg9, -⟩ := hownB.form (by omega)
          have OB := Lib.hid hownB
          have HG9 := Lib.hid hg9
          obtain ⟨y0, y1, y2, y3, y4, yf⟩ := box_five (heap_gr OKZ.out.2.1 GB.out)
          refine hK.out _ _ (KZ.out _ GB.out) (fun hHeld => ?_)
          clear hK K hown hgrow hownB hg9
          try simp only [Act.put, List.setIfInBounds_toArray, List.set_cons_zero, List.set_cons_succ]
          refine wpAnyH_take (i := 10) (oi := { dst := some 124, op := Op.fieldAddr 27 (Operand.tmp 16) 3, type := 0, pos := "law.go:226", after := #[{ on := 0, ground := Ground.phase }, { on := 1, ground := Ground.phase }, { on := 2, ground := Ground.phase }, { on := 3, ground := Ground.phase }, { on := 4, ground := Ground.phase }, { on := 5, ground := Ground.phase }, { on := 6, ground := Ground.phase }, { on := 7, ground := Ground.phase }, { on := 8, ground := Ground.phase }, { on := 9, ground := Ground.phase }], guard := none }) (v := ?_) rfl (by kernel_rfl) (by kernel_rfl) (by kernel_rfl) (fun _ _ _ h => h) (Or.inl ⟨by rfl, ?_⟩) hHeld ?_
          case refine_2 => (intro w hSw; (try dsimp only at hSw); go_simp; try (with_reducible rfl))
          try simp only [Act.put, List.setIfInBounds_toArray, List.set_cons_zero, List.set_cons_succ]
          refine wpAnyH_ready (rs := [11]) (by kernel_rfl) (by simp) ?_
          refine (AllReadyH.cons (o := { dst := none, op := Op.store 25 (Operand.tmp 124) (Operand.tmp 123), type := 0, pos := "law.go:226", after := #[{ on := 10, ground := Ground.data }, { on := 9, ground := Ground.data }, { on := 9, ground := Ground.chain }, { on := 0, ground := Ground.phase }, { on := 1, ground := Ground.phase }, { on := 2, ground := Ground.phase }, { on := 3, ground := Ground.phase }, { on := 4, ground := Ground.phase }, { on := 5, ground := Ground.phase }, { on := 6, ground := Ground.phase }, { on := 7, ground := Ground.phase }, { on := 8, ground := Ground.phase }, { on := 9, ground := Ground.phase }], guard := none }) rfl (fun K hK => ?_) AllReadyH.nil)
          go_simp
          have GS := Lib.hid (show Gr wh (wB.setCell ⟨wh.heap.size, 3, none⟩ (.slice (some ⟨g9, 0, none⟩) (n.props.length + 1) d9)) from Below.setCell (Gr.trans OKZ.out.2.2.1 GB.out) (p := ⟨wh.heap.size, 3, none⟩) (Nat.le_refl _) _)
          refine hK.out _ _ (KEEP.out _ (Gr.trans G5.out (Gr.trans GW.out GS.out))) (fun hHeld => ?_)
          clear hK K
          try simp only [Act.put, List.setIfInBounds_toArray, List.set_cons_zero, List.set_cons_succ]
          refine wpAnyH_done (by kernel_rfl) ?_ _
          have hbx : (wB.setCell ⟨wh.heap.size, 3, none⟩ (.slice (some ⟨g9, 0, none⟩) (n.props.length + 1) d9)).heap[wh.heap.size]? = some (.cells #[.slice (some ⟨g8, 0, none⟩) (n.nodes.length + 1) d8, .slice A2 n.ins.length c2, .slice A3 n.cells.length c3, .slice (some ⟨g9, 0, none⟩) (n.props.length + 1) d9, .slice A5 n.names.length c5] 27 (0, 0)) := by
            have h7 := heap_setCell_same wB wh.heap.size 3 _ 27 (.slice (some ⟨g9, 0, none⟩) (n.props.length + 1) d9) (heap_gr OKZ.out.2.1 GB.out)
            simpa using h7
          have NO := Lib.hid (show NtAt (wB.setCell ⟨wh.heap.size, 3, none⟩ (.slice (some ⟨g9, 0, none⟩) (n.props.length + 1) d9)) (withZ n ByteArray.empty) (ntV (some ⟨g8, 0, none⟩) A2 A3 (some ⟨g9, 0, none⟩) A5 (n.nodes.length + 1) n.ins.length n.cells.length (n.props.length + 1) n.names.length d8 c2 c3 d9 c5) from by
            have hys := YS.out
            have hzs := OKZ.out.2.2.2
            have hgw := Gr.trans (Gr.trans BW.out G5.out) (Gr.trans GW.out GS.out)
            obtain ⟨A', d', e8, hd8, -, hN⟩ := nd_own (own_put (g := wh.heap.size) (o := 3) (val := .slice (some ⟨g9, 0, none⟩) (n.props.length + 1) d9) (own_gr' OKZ.out.1 GB.out) (by omega)) (by simp)
            simp only [Value.slice.injEq, true_and] at e8
            obtain ⟨rfl, rfl⟩ := e8
            obtain ⟨A'', d'', e9, -, hP⟩ := pr_own (own_put (g := wh.heap.size) (o := 3) (val := .slice (some ⟨g9, 0, none⟩) (n.props.length + 1) d9) OB.out (by omega)) (by simp)
            simp only [Value.slice.injEq, true_and] at e9
            obtain ⟨rfl, rfl⟩ := e9
            exact ⟨some ⟨g8, 0, none⟩, A2, A3, some ⟨g9, 0, none⟩, A5, d8, c2, c3, d9, c5, by simp [withZ], by simpa [withZ] using hd8, hN, H2.out.gr hgw, H3.out.gr hgw, hP, H5.out.gr hgw⟩)
          have HO := Lib.hid (SHit_any (withZ n ByteArray.empty) _ _ (q : Int) t _ (sz_withZ HSZ.out _) NO (right_withZ hR _ H16.out) (tr_withZ hR _ HQ.out.1) HQ.out.2 (Lib.hid (HT.out.gr (Gr.trans U5.out (Gr.trans GW.out GS.out)))))
          simp only [QZ.out] at HO
          obtain ⟨y0, y1, y2, y3, y4, yf⟩ := box_five hbx
          clear hbx NO
          go_wp2_with fail
          refine HO.out.mono ?_
          rintro e wz ⟨rfl, hg⟩
          have GE := Lib.hid (Gr.trans (Gr.trans BW.out G5.out) (Gr.trans (Gr.trans GW.out GS.out) hg))
          clear hg y0 y1 y2 y3 y4 yf
          go_wp2_with fail
          go_ret
          exact ⟨rfl, GE.out⟩
      · skip
        have GN8 := Lib.hid (show Gr Z (Z.alloc (.cells #[.int .i64 9, .string ByteArray.empty, .int .i64 (n.nodes.length : Nat)] 47)) from Gr.trans (Gr.refl Z) (bel_alloc Z (.cells #[.int .i64 9, .string ByteArray.empty, .int .i64 (n.nodes.length : Nat)] 47)))
        have GN8d := Lib.hid (show Gr Z (Z.alloc (.cells #[.int .i64 9, .string ByteArray.empty, .int .i64 (n.nodes.length : Nat)] 47)).drew from Below.drew GN8.out)
        have HBB := Lib.hid (show ((Z.alloc (.cells #[.int .i64 9, .string ByteArray.empty, .int .i64 (n.nodes.length : Nat)] 47))).heap[Z.heap.size]? = some (.cells #[.int .i64 9, .string ByteArray.empty, .int .i64 (n.nodes.length : Nat)] 47 (0, 0)) from by have h := heap_new' Z (.cells #[.int .i64 9, .string ByteArray.empty, .int .i64 (n.nodes.length : Nat)] 47); simpa using h)
        go_simp
        refine hK.out _ _ (KZ.out _ GN8d.out) (fun hHeld => ?_)
        clear hK K
        try simp only [Act.put, List.setIfInBounds_toArray, List.set_cons_zero, List.set_cons_succ]
        refine wpAnyH_ready (rs := [0]) (by kernel_rfl) (by simp) ?_
        refine (AllReadyH.cons (o := { dst := some 114, op := Op.buildSlice 25 0 #[], type := 25, pos := "law.go:226", after := #[], guard := none }) rfl (fun K hK => ?_) AllReadyH.nil)
        have GN0 := Lib.hid (show Gr Z ((Z.alloc (.cells #[.int .i64 9, .string ByteArray.empty, .int .i64 (n.nodes.length : Nat)] 47)).alloc (.cells #[] 47)) from Gr.trans GN8.out (bel_alloc (Z.alloc (.cells #[.int .i64 9, .string ByteArray.empty, .int .i64 (n.nodes.length : Nat)] 47)) (.cells #[] 47)))
        have GN0d := Lib.hid (show Gr Z ((Z.alloc (.cells #[.int .i64 9, .string ByteArray.empty, .int .i64 (n.nodes.length : Nat)] 47)).alloc (.cells #[] 47)).drew from Below.drew GN0.out)
        have OA := Lib.hid (show (((Z.alloc (.cells #[.int .i64 9, .string ByteArray.empty, .int .i64 (n.nodes.length : Nat)] 47)).alloc (.cells #[] 47))).ownsRow Z.heap.size 47 3 (.slice (some ⟨Z.heap.size + 1, 0, none⟩) 0 0) 0 [] from by have h := own_empty (Z.alloc (.cells #[.int .i64 9, .string ByteArray.empty, .int .i64 (n.nodes.length : Nat)] 47)) 47 3 Z.heap.size (GN8.out).size; simpa using h)
        have HBB := Lib.hid (heap_gr HBB.out (bel_alloc (Z.alloc (.cells #[.int .i64 9, .string ByteArray.empty, .int .i64 (n.nodes.length : Nat)] 47)) (.cells #[] 47)))
        go_simp
        refine hK.out _ _ (KZ.out _ GN0d.out) (fun hHeld => ?_)
        clear hK K
        try simp only [Act.put, List.setIfInBounds_toArray, List.set_cons_zero, List.set_cons_succ]
        refine wpAnyH_ready (rs := [3]) (by kernel_rfl) (by simp) ?_
        refine (AllReadyH.cons (o := { dst := some 117, op := Op.call { callee := Callee.builtin Builtin.append, args := #[Operand.tmp 114, Operand.tmp 116], argTypes := #[25, 25] }, type := 25, pos := "law.go:226", after := #[{ on := 0, ground := Ground.data }, { on := 2, ground := Ground.data }], guard := none }) rfl (fun K hK => ?_) AllReadyH.nil)
        refine step_src _ rfl _ _ 25 rfl Z.heap.size 47 i3 (.agg #[.int .i64 0, .string ByteArray.empty, .int .i64 0]) 3 32 Try.underlying25 HJ.out.1 HJ.out.2.1 HJ.out.2.2.1 HJ.out.2.2.2 rfl (by decide) (.slice (some ⟨Z.heap.size + 1, 0, none⟩) 0 0) 0 [] rfl OA.out.drew (some ⟨b4, o4, none⟩) (by simp) n.props.length c4 (n.props.flatMap prL) rfl (flat_len prL prL_len _) (pr_news (H4.out.gr (Gr.trans BW.out (Gr.trans G5.out (Gr.trans GW.out (Gr.trans OKZ.out.2.2.1 (Below.drew GN0.out))))))) (pr_one _) (by have := H16.out; unfold maxLen; omega) (by have := H16.out; omega) (GN0.out).size ?_
        intro v9 wA hown hgrow
        have GA := Lib.hid (show Gr Z wA from Below.grown (Below.drew GN0.out) hgrow (GN0.out).size (fun k hk => (OA.out.lt k hk).1))
        have OV := Lib.hid (show wA.ownsRow Z.heap.size 47 3 v9 n.props.length (n.props.flatMap prL) from by simpa using hown)
        have HBB := Lib.hid (show wA.heap[Z.heap.size]? = some (.cells #[.int .i64 9, .string ByteArray.empty, .int .i64 (n.nodes.length : Nat)] 47 (0, 0)) from (hgrow.block (Z.heap.size) (hlt HBB.out) (fun hq => by simp [Value.ownBlock] at hq)).trans HBB.out)
        refine hK.out _ _ (KZ.out _ GA.out) (fun hHeld => ?_)
        clear hK K hown hgrow
        try simp only [Act.put, List.setIfInBounds_toArray, List.set_cons_zero, List.set_cons_succ]
        refine wpAnyH_ready (rs := [9]) (by kernel_rfl) (by simp) ?_
        refine (AllReadyH.cons (o := { dst := some 123, op := Op.call { callee := Callee.builtin Builtin.append, args := #[Operand.tmp 117, Operand.tmp 122], argTypes := #[25, 25] }, type := 25, pos := "law.go:226", after := #[{ on := 3, ground := Ground.data }, { on := 8, ground := Ground.data }, { on := 3, ground := Ground.chain }], guard := none }) rfl (fun K hK => ?_) AllReadyH.nil)
        refine step_src _ rfl _ _ 25 rfl Z.heap.size 47 i3 (.agg #[.int .i64 0, .string ByteArray.empty, .int .i64 0]) 3 32 Try.underlying25 HJ.out.1 HJ.out.2.1 HJ.out.2.2.1 HJ.out.2.2.2 rfl (by decide) v9 n.props.length (n.props.flatMap prL) rfl OV.out (some ⟨Z.heap.size, 0, none⟩) (by simp) 1 1 (prL (⟨9, ByteArray.empty, (n.nodes.length : Nat)⟩ : Pr)) rfl rfl (fun ad e => by obtain rfl := Option.some.inj e; exact World.news_of_block HBB.out) (by simpa using pr_one [(⟨9, ByteArray.empty, (n.nodes.length : Nat)⟩ : Pr)]) (by have := H16.out; unfold maxLen; omega) (by have := H16.out; omega) (GA.out).size ?_
        intro vB wB hown hgrow
        have GB := Lib.hid (show Gr Z wB from Below.grown GA.out hgrow (GA.out).size (fun k hk => (OV.out.lt k hk).1))
        have hownB : wB.ownsRow Z.heap.size 47 3 vB (n.props.length + 1) ((n.props ++ [(⟨9, ByteArray.empty, (n.nodes.length : Nat)⟩ : Pr)]).flatMap prL) := (by rw [List.flatMap_append]; simpa using hown)
        obtain ⟨g9, d9, rfl, hg9, -⟩ := hownB.form (by omega)
        have OB := Lib.hid hownB
        have HG9 := Lib.hid hg9
        obtain ⟨y0, y1, y2, y3, y4, yf⟩ := box_five (heap_gr OKZ.out.2.1 GB.out)
        refine hK.out _ _ (KZ.out _ GB.out) (fun hHeld => ?_)
        clear hK K hown hgrow hownB hg9
        try simp only [Act.put, List.setIfInBounds_toArray, List.set_cons_zero, List.set_cons_succ]
        refine wpAnyH_take (i := 10) (oi := { dst := some 124, op := Op.fieldAddr 27 (Operand.tmp 16) 3, type := 0, pos := "law.go:226", after := #[{ on := 0, ground := Ground.phase }, { on := 1, ground := Ground.phase }, { on := 2, ground := Ground.phase }, { on := 3, ground := Ground.phase }, { on := 4, ground := Ground.phase }, { on := 5, ground := Ground.phase }, { on := 6, ground := Ground.phase }, { on := 7, ground := Ground.phase }, { on := 8, ground := Ground.phase }, { on := 9, ground := Ground.phase }], guard := none }) (v := ?_) rfl (by kernel_rfl) (by kernel_rfl) (by kernel_rfl) (fun _ _ _ h => h) (Or.inl ⟨by rfl, ?_⟩) hHeld ?_
        case refine_2 => (intro w hSw; (try dsimp only at hSw); go_simp; try (with_reducible rfl))
        try simp only [Act.put, List.setIfInBounds_toArray, List.set_cons_zero, List.set_cons_succ]
        refine wpAnyH_ready (rs := [11]) (by kernel_rfl) (by simp) ?_
        refine (AllReadyH.cons (o := { dst := none, op := Op.store 25 (Operand.tmp 124) (Operand.tmp 123), type := 0, pos := "law.go:226", after := #[{ on := 10, ground := Ground.data }, { on := 9, ground := Ground.data }, { on := 9, ground := Ground.chain }, { on := 0, ground := Ground.phase }, { on := 1, ground := Ground.phase }, { on := 2, ground := Ground.phase }, { on := 3, ground := Ground.phase }, { on := 4, ground := Ground.phase }, { on := 5, ground := Ground.phase }, { on := 6, ground := Ground.phase }, { on := 7, ground := Ground.phase }, { on := 8, ground := Ground.phase }, { on := 9, ground := Ground.phase }], guard := none }) rfl (fun K hK => ?_) AllReadyH.nil)
        go_simp
        have GS := Lib.hid (show Gr wh (wB.setCell ⟨wh.heap.size, 3, none⟩ (.slice (some ⟨g9, 0, none⟩) (n.props.length + 1) d9)) from Below.setCell (Gr.trans OKZ.out.2.2.1 GB.out) (p := ⟨wh.heap.size, 3, none⟩) (Nat.le_refl _) _)
        refine hK.out _ _ (KEEP.out _ (Gr.trans G5.out (Gr.trans GW.out GS.out))) (fun hHeld => ?_)
        clear hK K
        try simp only [Act.put, List.setIfInBounds_toArray, List.set_cons_zero, List.set_cons_succ]
        refine wpAnyH_done (by kernel_rfl) ?_ _
        have hbx : (wB.setCell ⟨wh.heap.size, 3, none⟩ (.slice (some ⟨g9, 0, none⟩) (n.props.length + 1) d9)).heap[wh.heap.size]? = some (.cells #[.slice (some ⟨g8, 0, none⟩) (n.nodes.length + 1) d8, .slice A2 n.ins.length c2, .slice A3 n.cells.length c3, .slice (some ⟨g9, 0, none⟩) (n.props.length + 1) d9, .slice A5 n.names.length c5] 27 (0, 0)) := by
          have h7 := heap_setCell_same wB wh.heap.size 3 _ 27 (.slice (some ⟨g9, 0, none⟩) (n.props.length + 1) d9) (heap_gr OKZ.out.2.1 GB.out)
          simpa using h7
        have NO := Lib.hid (show NtAt (wB.setCell ⟨wh.heap.size, 3, none⟩ (.slice (some ⟨g9, 0, none⟩) (n.props.length + 1) d9)) (withZ n ByteArray.empty) (ntV (some ⟨g8, 0, none⟩) A2 A3 (some ⟨g9, 0, none⟩) A5 (n.nodes.length + 1) n.ins.length n.cells.length (n.props.length + 1) n.names.length d8 c2 c3 d9 c5) from by
          have hys := YS.out
          have hzs := OKZ.out.2.2.2
          have hgw := Gr.trans (Gr.trans BW.out G5.out) (Gr.trans GW.out GS.out)
          obtain ⟨A', d', e8, hd8, -, hN⟩ := nd_own (own_put (g := wh.heap.size) (o := 3) (val := .slice (some ⟨g9, 0, none⟩) (n.props.length + 1) d9) (own_gr' OKZ.out.1 GB.out) (by omega)) (by simp)
          simp only [Value.slice.injEq, true_and] at e8
          obtain ⟨rfl, rfl⟩ := e8
          obtain ⟨A'', d'', e9, -, hP⟩ := pr_own (own_put (g := wh.heap.size) (o := 3) (val := .slice (some ⟨g9, 0, none⟩) (n.props.length + 1) d9) OB.out (by omega)) (by simp)
          simp only [Value.slice.injEq, true_and] at e9
          obtain ⟨rfl, rfl⟩ := e9
          exact ⟨some ⟨g8, 0, none⟩, A2, A3, some ⟨g9, 0, none⟩, A5, d8, c2, c3, d9, c5, by simp [withZ], by simpa [withZ] using hd8, hN, H2.out.gr hgw, H3.out.gr hgw, hP, H5.out.gr hgw⟩)
        have HO := Lib.hid (SHit_any (withZ n ByteArray.empty) _ _ (q : Int) t _ (sz_withZ HSZ.out _) NO (right_withZ hR _ H16.out) (tr_withZ hR _ HQ.out.1) HQ.out.2 (Lib.hid (HT.out.gr (Gr.trans U5.out (Gr.trans GW.out GS.out)))))
        simp only [QZ.out] at HO
        obtain ⟨y0, y1, y2, y3, y4, yf⟩ := box_five hbx
        clear hbx NO
        go_wp2_with fail
        refine HO.out.mono ?_
        rintro e wz ⟨rfl, hg⟩
        have GE := Lib.hid (Gr.trans (Gr.trans BW.out G5.out) (Gr.trans (Gr.trans GW.out GS.out) hg))
        clear hg y0 y1 y2 y3 y4 yf
        go_wp2_with fail
        go_ret
        exact ⟨rfl, GE.out⟩
end Go.Proofs.Ytmnblcnhbafcpaa
