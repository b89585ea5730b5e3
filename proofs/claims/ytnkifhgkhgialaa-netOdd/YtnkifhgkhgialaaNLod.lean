/-
  NetOdd, WALKED.
-/
import Derived.Test.YtnkifhgkhgialaaNLtw
import Derived.Test.YtnkifhgkhgialaaNOdm
namespace Go.Proofs.Ytnkifhgkhgialaa
open Go.RowKit
open NetM
open VecM

theorem ces_set {w : World} {B B' g o : Nat} {v : Value} {A : Option Addr} {l : List Ce} (h : Ces w B A l) (hB : B ≤ B') (hne : ∀ b off, A = some ⟨b, off, none⟩ → b ≠ g) : Ces (w.setCell ⟨g, o, none⟩ v) B' A l := by
  intro i x hx
  obtain ⟨b, off, e, hb, h0, h1, h2, h3⟩ := h i x hx
  have := hne b off e
  refine ⟨b, off, e, by omega, ?_, ?_, ?_, ?_⟩
  all_goals
    rw [set_ne this]
    assumption
set_option maxRecDepth 100000 in
set_option maxHeartbeats 16000000 in
theorem odd_walk (n : Nt) (v : Value) (x m : Nat) (w : World) (hx16 : x < 65536) (hm8 : m < 256) (hn : Hid (NtAt w n v)) (hnil : Hid (NilOk v)) :
    Calls Try.prog 8 #[v, .int .u16 (x : Nat), .int .u8 (m : Nat)] w fun e w' => e = .returned (.bool true) ∧ Gr w w' := by
  have HV := Lib.hid (fun (u : World) (hu : Gr w u) => hn.out.gr hu)
  obtain ⟨A1, A2, A3, A4, A5, c1, c2, c3, c4, c5, rfl, hc1, h1, h2, h3, h4, h5⟩ := hn.out
  have H1 := Lib.hid h1
  have H2 := Lib.hid h2
  have H3 := Lib.hid h3
  have H4 := Lib.hid h4
  have H5 := Lib.hid h5
  clear h1 h2 h3 h4 h5
  obtain ⟨W0, eW, BW, KEEP⟩ : ∃ W0, w.alloc (.cells (bxC n A1 A2 A3 A4 A5 c1 c2 c3 c4 c5) 27) = W0 ∧ Hid (Gr w W0) ∧ Hid (∀ u, Gr W0 u → BxAt u w.heap.size n A1 A2 A3 A4 A5 c1 c2 c3 c4 c5) :=
    ⟨_, rfl, Lib.hid (bel_alloc _ _), Lib.hid fun u hu => bx_gr (bx_new w n A1 A2 A3 A4 A5 c1 c2 c3 c4 c5) (by simp) hu⟩
  obtain ⟨e0, e1, e2, e3, e4⟩ := KEEP.out W0 (Gr.refl _)
  have H0 := Lib.hid head_any
  obtain ⟨gb, hgb⟩ : ∃ gb : Bool, gb = true ↔ NGreat n := by classical exact ⟨decide _, decide_eq_true_iff⟩
  obtain ⟨rb, hrb⟩ : ∃ rb : Bool, rb = true ↔ NRight n := by classical exact ⟨decide _, decide_eq_true_iff⟩
  have GC := Lib.hid (fun (u : World) (hu : Gr w u) => Great_any n _ u (Lib.hid (HV.out u hu)) gb (Lib.hid hgb))
  go_enter Try.func8, Try.ntmps8
  go_wp2_with fail
  try rw [eW]
  clear eW
  refine (H0.out _).mono ?_
  rintro e w1 ⟨rfl, hg⟩
  have G1 := Lib.hid hg
  clear hg e0 e1 e2 e3 e4
  obtain ⟨e0, e1, e2, e3, e4⟩ := KEEP.out _ G1.out
  go_wp2_with fail
  refine (GC.out _ (Gr.trans BW.out G1.out)).mono ?_
  rintro e w2 ⟨rfl, hg⟩
  have G2 := Lib.hid (Gr.trans G1.out hg)
  clear hg e0 e1 e2 e3 e4
  obtain ⟨e0, e1, e2, e3, e4⟩ := KEEP.out _ G2.out
  cases gb with
  | true =>
    go_wp2_with fail
    all_goals
      go_ret
      exact ⟨rfl, Gr.trans BW.out G2.out⟩
  | false =>
  have hz := sz_of (fun h => by have := hgb.2 h; simp at this)
  have hs : Sz n := by unfold Sz; omega
  have RC := Lib.hid (fun (u : World) (hu : Gr w u) => RRight_any n _ u hs (Lib.hid (HV.out u hu)) rb (Lib.hid hrb))
  clear hgb GC
  go_wp2_with fail
  refine (RC.out _ (Gr.trans BW.out G2.out)).mono ?_
  rintro e w3 ⟨rfl, hg⟩
  have G3 := Lib.hid (Gr.trans G2.out hg)
  clear hg e0 e1 e2 e3 e4 RC
  obtain ⟨e0, e1, e2, e3, e4⟩ := KEEP.out _ G3.out
  cases rb with
  | false =>
    go_wp2_with fail
    all_goals
      go_ret
      exact ⟨rfl, Gr.trans BW.out G3.out⟩
  | true =>
  have hR := hrb.1 rfl
  clear hrb
  have hw := wok_of hR.1
  have hC := hR.2.2.1.1
  have hI := hR.2.1.2
  have hnl := hnil.out _ _ _ _ _ _ _ _ _ _ _ _ _ _ _ rfl
  have HNL := Lib.hid hnl
  clear hnl hnil
  by_cases hz0 : n.nodes.length = 0
  · have q0 : ((n.nodes.length : Int) == 0) = true := by simp [hz0]
    clear hz0
    go_wp2_with fail
    all_goals
      go_ret
      exact ⟨rfl, Gr.trans BW.out G3.out⟩
  have q0 : ((n.nodes.length : Int) == 0) = false := beq_eq_false_iff_ne.2 (by omega)
  have q1 : ¬ (n.nodes.length : Int) = 0 := by omega
  obtain ⟨i0, hi, hz0, hz1, hz2⟩ := info_parts info41
  have HI := Lib.hid (And.intro hi (And.intro hz0 (And.intro hz1 hz2)))
  clear hi hz0 hz1 hz2
  obtain ⟨i3, hi, hz0, hz1, hz2⟩ := info_parts info43
  have HJ := Lib.hid (And.intro hi (And.intro hz0 (And.intro hz1 hz2)))
  clear hi hz0 hz1 hz2
  obtain ⟨k, hk⟩ : ∃ k : Nat, x % n.nodes.length = k := ⟨_, rfl⟩
  have hkl : k < n.nodes.length := by rw [← hk]; exact Nat.mod_lt _ (by omega)
  have htm : Int.tmod (x : Int) (n.nodes.length : Int) = (k : Int) := by rw [Int.tmod_eq_emod_of_nonneg (by omega)]; omega
  have hwx := wrap_nat (a := x) (by omega)
  have hwk := wrap_nat (a := k) (by omega)
  have hy : n.nodes[k]? = some n.nodes[k] := List.getElem?_eq_getElem hkl
  generalize n.nodes[k] = y at hy
  have HY := Lib.hid hy
  have k1 : (k : Int) < (n.nodes.length : Int) := by omega
  have k2 : (0 : Int) ≤ (k : Int) := by omega
  have hw0 : w.heap.size < w3.heap.size := cell_lt (KEEP.out _ G3.out).1
  clear hy hk
  go_upto_region 5 with fail
  obtain ⟨X, eX, GX, XB, XS⟩ : ∃ X, w3.alloc (.cells #[.slice A1 n.nodes.length c1, .slice A2 n.ins.length c2, .slice A3 n.cells.length c3, .slice A4 n.props.length c4, .slice A5 n.names.length c5] 27) = X ∧ Hid (Gr w3 X) ∧ Hid (X.heap[w3.heap.size]? = some (.cells #[.slice A1 n.nodes.length c1, .slice A2 n.ins.length c2, .slice A3 n.cells.length c3, .slice A4 n.props.length c4, .slice A5 n.names.length c5] 27 (0, 0))) ∧ Hid (X.heap.size = w3.heap.size + 1) :=
    ⟨_, rfl, Lib.hid (bel_alloc _ _), Lib.hid (heap_new' _ _), Lib.hid (by simp)⟩
  rw [eX]
  clear eX e0 e1 e2 e3 e4
  obtain ⟨e0, e1, e2, e3, e4⟩ := KEEP.out _ (Gr.trans G3.out GX.out)
  obtain ⟨x0, x1, x2, x3, x4⟩ := KEEP.out (X.alloc (.cells #[] 41)) (Gr.trans G3.out (Gr.trans GX.out (bel_alloc _ _)))
  go_upto_region 6 with (at_builtin; refine append_src _ rfl _ _ 22 rfl X.heap.size 41 i0 (.agg #[.int .i64 0, .int .i64 0, .int .i64 0, .int .i64 0, .int .i64 0, .int .i64 0, .int .i64 0]) 7 56 Try.underlying22 HI.out.1 HI.out.2.1 HI.out.2.2.1 HI.out.2.2.2 rfl (by decide) (.slice (some ⟨X.heap.size, 0, none⟩) 0 0) 0 [] rfl (own_empty X 41 7 X.heap.size (Nat.le_refl _)) A1 n.nodes.length c1 (n.nodes.flatMap ndL) rfl HNL.out.1 (flat_len ndL ndL_len _) (nd_news (H1.out.gr (Gr.trans BW.out (Gr.trans G3.out (Gr.trans GX.out (bel_alloc X (.cells #[] 41))))))) (nd_one _) (by unfold maxLen; omega) (by omega) (by simp) ?_; intro v5 w5 hown hb5; have B5 := Lib.hid (show Gr X w5 from Below.trans (bel_alloc X (.cells #[] 41)) hb5); have hown5 : w5.ownsRow X.heap.size 41 7 v5 n.nodes.length (n.nodes.flatMap ndL) := (by simpa using hown); obtain ⟨g6, d6, rfl, hg6, hl6⟩ := hown5.form (by omega); have O5 := Lib.hid hown5; obtain ⟨y0, y1, y2, y3, y4, yf⟩ := box_heap (heap_gr XB.out B5.out); obtain ⟨e0, e1, e2, e3, e4⟩ := KEEP.out _ (Gr.trans G3.out (Gr.trans GX.out B5.out)); clear hown hown5 hb5)
  obtain ⟨W5, eW5, OK5⟩ : ∃ W5, w5.setCell ⟨w3.heap.size, 0, none⟩ (.slice (some ⟨g6, 0, none⟩) n.nodes.length d6) = W5 ∧ Hid (W5.ownsRow X.heap.size 41 7 (.slice (some ⟨g6, 0, none⟩) n.nodes.length d6) n.nodes.length (n.nodes.flatMap ndL) ∧
      W5.heap[w3.heap.size]? = some (.cells #[.slice (some ⟨g6, 0, none⟩) n.nodes.length d6, .slice A2 n.ins.length c2, .slice A3 n.cells.length c3, .slice A4 n.props.length c4, .slice A5 n.names.length c5] 27 (0, 0)) ∧ Gr W0 W5 ∧ X.heap.size ≤ W5.heap.size ∧ g6 < W5.heap.size ∧ W0.heap.size ≤ w3.heap.size) := by
    have hxs := XS.out
    refine ⟨_, rfl, Lib.hid ⟨own_set O5.out (by omega), ?_, ?_, by have := B5.out.size; simp; omega, by simpa using hl6, G3.out.size⟩⟩
    · have h7 := heap_setCell_same w5 w3.heap.size 0 _ 27 (.slice (some ⟨g6, 0, none⟩) n.nodes.length d6) (heap_gr XB.out B5.out)
      simpa using h7
    · exact Below.setCell (Gr.trans G3.out (Gr.trans GX.out B5.out)) (p := ⟨w3.heap.size, 0, none⟩) G3.out.size _
  rw [eW5]
  clear eW5 e0 e1 e2 e3 e4 x0 x1 x2 x3 x4 y0 y1 y2 y3 y4 yf O5 B5 hl6
  obtain ⟨e0, e1, e2, e3, e4⟩ := KEEP.out _ OK5.out.2.2.1
  obtain ⟨x0, x1, x2, x3, x4⟩ := KEEP.out (W5.alloc (.cells #[] 43)) (Gr.trans OK5.out.2.2.1 (bel_alloc _ _))
  go_upto_region 7 with (at_builtin; refine append_src _ rfl _ _ 24 rfl W5.heap.size 43 i3 (.agg #[.string ByteArray.empty, .int .i64 0, .int .i64 0, .int .i64 0]) 4 40 Try.underlying24 HJ.out.1 HJ.out.2.1 HJ.out.2.2.1 HJ.out.2.2.2 rfl (by decide) (.slice (some ⟨W5.heap.size, 0, none⟩) 0 0) 0 [] rfl (own_empty W5 43 4 W5.heap.size (Nat.le_refl _)) A3 n.cells.length c3 (n.cells.flatMap ceL) rfl HNL.out.2 (flat_len ceL ceL_len _) (ce_news (H3.out.gr (Gr.trans BW.out (Gr.trans OK5.out.2.2.1 (bel_alloc W5 (.cells #[] 43)))))) (ce_one _) (by unfold maxLen; omega) (by omega) (by simp) ?_; intro v8 w8 hown hb8; have C8 := Lib.hid (show Gr W5 w8 from Below.trans (bel_alloc W5 (.cells #[] 43)) hb8); have hown8 : w8.ownsRow W5.heap.size 43 4 v8 n.cells.length (n.cells.flatMap ceL) := (by simpa using hown); obtain ⟨A8, d8, rfl, -, -, -⟩ := ce_own hown8 rfl; have O8 := Lib.hid hown8; obtain ⟨y0, y1, y2, y3, y4, yf⟩ := box_heap (heap_gr OK5.out.2.1 C8.out); obtain ⟨e0, e1, e2, e3, e4⟩ := KEEP.out _ (Gr.trans OK5.out.2.2.1 C8.out); clear hown hown8 hb8)
  obtain ⟨W9, eW9, OK9⟩ : ∃ W9, w8.setCell ⟨w3.heap.size, 2, none⟩ (.slice A8 n.cells.length d8) = W9 ∧ Hid (W9.ownsRow X.heap.size 41 7 (.slice (some ⟨g6, 0, none⟩) n.nodes.length d6) n.nodes.length (n.nodes.flatMap ndL) ∧ W9.ownsRow W5.heap.size 43 4 (.slice A8 n.cells.length d8) n.cells.length (n.cells.flatMap ceL) ∧
      W9.heap[w3.heap.size]? = some (.cells #[.slice (some ⟨g6, 0, none⟩) n.nodes.length d6, .slice A2 n.ins.length c2, .slice A8 n.cells.length d8, .slice A4 n.props.length c4, .slice A5 n.names.length c5] 27 (0, 0)) ∧ Gr W0 W9 ∧ w3.heap.size < g6 ∧ g6 < W5.heap.size ∧ W0.heap.size ≤ w3.heap.size) := by
    have hxs := XS.out
    have hx5 := OK5.out.2.2.2.1
    refine ⟨_, rfl, Lib.hid ⟨own_set (own_gr' OK5.out.1 C8.out) (by omega), own_set O8.out (by omega), ?_, ?_, by omega, OK5.out.2.2.2.2.1, G3.out.size⟩⟩
    · have h7 := heap_setCell_same w8 w3.heap.size 2 _ 27 (.slice A8 n.cells.length d8) (heap_gr OK5.out.2.1 C8.out)
      simpa using h7
    · exact Below.setCell (Gr.trans OK5.out.2.2.1 C8.out) (p := ⟨w3.heap.size, 2, none⟩) G3.out.size _
  rw [eW9]
  clear eW9 e0 e1 e2 e3 e4 x0 x1 x2 x3 x4 y0 y1 y2 y3 y4 yf O8 C8 hg6
  have KP9 := Lib.hid (fun (u : World) (hu : Gr W9 u) => (show BxAt u w.heap.size n A1 A2 A3 A4 A5 c1 c2 c3 c4 c5 ∧ Bx5 u w3.heap.size (.slice (some ⟨g6, 0, none⟩) n.nodes.length d6) (.slice A2 n.ins.length c2) (.slice A8 n.cells.length d8) (.slice A4 n.props.length c4) (.slice A5 n.names.length c5) from by
    obtain ⟨k0, k1, k2, k3, k4, -⟩ := box_heap (heap_gr OK9.out.2.2.1 hu)
    exact ⟨KEEP.out _ (Gr.trans OK9.out.2.2.2.1 hu), k0, k1, k2, k3, k4⟩))
  have KPV := Lib.hid (fun (u : World) (b o : Nat) (val : Value) (hb : w3.heap.size < b) (hu : Gr (W9.setCell ⟨b, o, none⟩ val) u) => (show Gr W0 u ∧ BxAt u w.heap.size n A1 A2 A3 A4 A5 c1 c2 c3 c4 c5 ∧ Bx5 u w3.heap.size (.slice (some ⟨g6, 0, none⟩) n.nodes.length d6) (.slice A2 n.ins.length c2) (.slice A8 n.cells.length d8) (.slice A4 n.props.length c4) (.slice A5 n.names.length c5) from by
    have h0 : Gr W0 (W9.setCell ⟨b, o, none⟩ val) := Below.setCell OK9.out.2.2.2.1 (p := ⟨b, o, none⟩) (by have := OK9.out.2.2.2.2.2.2; show W0.heap.size ≤ b; omega) _
    have h1 : (W9.setCell ⟨b, o, none⟩ val).heap[w3.heap.size]? = some (.cells #[.slice (some ⟨g6, 0, none⟩) n.nodes.length d6, .slice A2 n.ins.length c2, .slice A8 n.cells.length d8, .slice A4 n.props.length c4, .slice A5 n.names.length c5] 27 (0, 0)) := by
      rw [heap_setCell_other W9 ⟨b, o, none⟩ w3.heap.size val (by show w3.heap.size ≠ b; omega)]
      exact OK9.out.2.2.1
    obtain ⟨k0, k1, k2, k3, k4, -⟩ := box_heap (heap_gr h1 hu)
    exact ⟨Gr.trans h0 hu, KEEP.out _ (Gr.trans h0 hu), k0, k1, k2, k3, k4⟩))
  have hCes : Ces W9 W9.heap.size A8 n.cells := by
    obtain ⟨A8', d8', e8, -, -, h⟩ := ce_own OK9.out.2.1 rfl
    simp only [Value.slice.injEq, true_and] at e8
    obtain ⟨rfl, rfl⟩ := e8
    exact h
  have hNds : Nds W9 W9.heap.size (some ⟨g6, 0, none⟩) n.nodes ∧ n.nodes.length ≤ d6 := by
    obtain ⟨A, d, e8, hd, -, h⟩ := nd_own OK9.out.1 rfl
    simp only [Value.slice.injEq, true_and] at e8
    obtain ⟨rfl, rfl⟩ := e8
    exact ⟨h, hd⟩
  have HCE := Lib.hid hCes
  have HND := Lib.hid hNds
  clear hCes hNds
  have ODD := Lib.hid (fun (f : Nat) (val : Value) (y' : Nd) (hf : f < 7) (hy' : ndL y' = (ndL y).set f val) (hno : ¬ NdOk (n.nodes.take k) y') (u : World) (hu : Gr (W9.setCell ⟨g6, k * 7 + f, none⟩ val) u) =>
    Right_any ⟨n.nodes.set k y', n.ins, n.cells, n.props, n.names⟩ (ntV (some ⟨g6, 0, none⟩) A2 A8 A4 A5 n.nodes.length n.ins.length n.cells.length n.props.length n.names.length d6 c2 d8 c4 c5) u (by unfold Sz; simp only [List.length_set]; exact hs)
      (Lib.hid (NtAt.gr (by
        have h0 := (KPV.out _ g6 (k * 7 + f) val OK9.out.2.2.2.2.1 (Gr.refl _)).1
        have h1 := (OK9.out.1.stored (k * 7 + f) val).1
        rw [flat_set ndL ndL_len (y := y') HY.out hf hy'] at h1
        obtain ⟨A, d, e8, hd, -, h⟩ := nd_own h1 (by simp)
        simp only [Value.slice.injEq, true_and] at e8
        obtain ⟨rfl, rfl⟩ := e8
        refine ⟨some ⟨g6, 0, none⟩, A2, A8, A4, A5, d6, c2, d8, c4, c5, by simp, by simpa using hd, h, H2.out.gr (Gr.trans BW.out h0), ces_set HCE.out (by simp) (fun b' off' e => ?_), H4.out.gr (Gr.trans BW.out h0), H5.out.gr (Gr.trans BW.out h0)⟩
        have h2 := (OK9.out.2.1.lt b' (by rw [e]; rfl)).1
        have h3 := OK9.out.2.2.2.2.2.1
        omega) hu)) false (Lib.hid ⟨fun h => by simp at h, fun h => absurd h (odd_nodes HY.out hno)⟩))
  have hcel : ∀ f, f < 7 → W9.cell? ⟨g6, k * 7 + f, none⟩ = (ndL y)[f]? := fun f hf => by
    rw [OK9.out.1.cellAt (k * 7 + f) (by omega), flat_at ndL ndL_len _ k f y HY.out hf]
  have HCL := Lib.hid hcel
  have HFZ := Lib.hid (fun j => OK9.out.1.frozenAt j)
  clear hcel
  obtain ⟨⟨e0, e1, e2, e3, e4⟩, f0, f1, f2, f3, f4⟩ := KP9.out _ (Gr.refl _)
  go_upto_region 8 with fail
  have hm6 : m % 6 = 0 ∨ m % 6 = 1 ∨ m % 6 = 2 ∨ m % 6 = 3 ∨ m % 6 = 4 ∨ m % 6 = 5 := by omega
  have hwm := wrap_nat (a := m) (by omega)
  have HRT := Lib.hid hR
  rcases hm6 with h6 | h6 | h6 | h6 | h6 | h6
  · skip
    have htm6 : Int.tmod (m : Int) 6 = 0 := by rw [Int.tmod_eq_emod_of_nonneg (by omega)]; omega
    clear h6
    have dc := HCL.out 1 (by decide)
    have hf0 := HFZ.out (k * 7 + 1)
    simp only [ndL, List.getElem?_cons_zero, List.getElem?_cons_succ, Nat.add_zero] at dc hf0
    have R1 := Lib.hid (fun (u : World) (hu : Gr (W9.setCell ⟨g6, k * 7 + 1, none⟩ (.int .i64 17)) u) => ODD.out 1 (.int .i64 17) (ndW y 17) (by decide) rfl odd_w17 u hu)
    have R2 := Lib.hid (fun (u : World) (hu : Gr W0 u) => Right_any n _ u hs (Lib.hid (HV.out u (Gr.trans BW.out hu))) true (Lib.hid ⟨fun _ => HRT.out, fun _ => rfl⟩))
    have hw5 := wrap_int (y := (n.nodes.length : Int) + 5) (by omega) (by omega)
    have KPX := Lib.hid (fun (u : World) (hu : Gr (W9.setCell ⟨g6, k * 7 + 1, none⟩ (.int .i64 17)) u) => KPV.out u g6 (k * 7 + 1) (.int .i64 17) OK9.out.2.2.2.2.1 hu)
    obtain ⟨-, ⟨b0, b1, b2, b3, b4⟩, m0, m1, m2, m3, m4⟩ := KPX.out _ (Gr.refl _)
    clear HCL HFZ ODD KPV hs
    try simp only [Nat.add_zero] at R1 KPX b0 b1 b2 b3 b4 m0 m1 m2 m3 m4
    go_wp2_with fail
    refine (R1.out _ (Gr.refl _)).mono ?_
    rintro e wA ⟨rfl, hg⟩
    have GA := Lib.hid (KPX.out _ hg).1
    clear e0 e1 e2 e3 e4 f0 f1 f2 f3 f4 b0 b1 b2 b3 b4 m0 m1 m2 m3 m4 dc hf0
    obtain ⟨-, ⟨e0, e1, e2, e3, e4⟩, f0, f1, f2, f3, f4⟩ := KPX.out _ hg
    clear hg
    go_wp2_with fail
    refine (R2.out _ GA.out).mono ?_
    rintro e wB ⟨rfl, hg⟩
    go_wp2_with fail
    go_ret
    exact ⟨rfl, Gr.trans BW.out (Gr.trans GA.out hg)⟩
  · skip
    have htm6 : Int.tmod (m : Int) 6 = 1 := by rw [Int.tmod_eq_emod_of_nonneg (by omega)]; omega
    clear h6
    have dc := HCL.out 1 (by decide)
    have hf0 := HFZ.out (k * 7 + 1)
    simp only [ndL, List.getElem?_cons_zero, List.getElem?_cons_succ, Nat.add_zero] at dc hf0
    have R1 := Lib.hid (fun (u : World) (hu : Gr (W9.setCell ⟨g6, k * 7 + 1, none⟩ (.int .i64 0)) u) => ODD.out 1 (.int .i64 0) (ndW y 0) (by decide) rfl odd_w0 u hu)
    have R2 := Lib.hid (fun (u : World) (hu : Gr W0 u) => Right_any n _ u hs (Lib.hid (HV.out u (Gr.trans BW.out hu))) true (Lib.hid ⟨fun _ => HRT.out, fun _ => rfl⟩))
    have hw5 := wrap_int (y := (n.nodes.length : Int) + 5) (by omega) (by omega)
    have KPX := Lib.hid (fun (u : World) (hu : Gr (W9.setCell ⟨g6, k * 7 + 1, none⟩ (.int .i64 0)) u) => KPV.out u g6 (k * 7 + 1) (.int .i64 0) OK9.out.2.2.2.2.1 hu)
    obtain ⟨-, ⟨b0, b1, b2, b3, b4⟩, m0, m1, m2, m3, m4⟩ := KPX.out _ (Gr.refl _)
    clear HCL HFZ ODD KPV hs
    try simp only [Nat.add_zero] at R1 KPX b0 b1 b2 b3 b4 m0 m1 m2 m3 m4
    go_wp2_with fail
    refine (R1.out _ (Gr.refl _)).mono ?_
    rintro e wA ⟨rfl, hg⟩
    have GA := Lib.hid (KPX.out _ hg).1
    clear e0 e1 e2 e3 e4 f0 f1 f2 f3 f4 b0 b1 b2 b3 b4 m0 m1 m2 m3 m4 dc hf0
    obtain ⟨-, ⟨e0, e1, e2, e3, e4⟩, f0, f1, f2, f3, f4⟩ := KPX.out _ hg
    clear hg
    go_wp2_with fail
    refine (R2.out _ GA.out).mono ?_
    rintro e wB ⟨rfl, hg⟩
    go_wp2_with fail
    go_ret
    exact ⟨rfl, Gr.trans BW.out (Gr.trans GA.out hg)⟩
  · skip
    have htm6 : Int.tmod (m : Int) 6 = 2 := by rw [Int.tmod_eq_emod_of_nonneg (by omega)]; omega
    clear h6
    have dc := HCL.out 0 (by decide)
    have hf0 := HFZ.out (k * 7 + 0)
    simp only [ndL, List.getElem?_cons_zero, List.getElem?_cons_succ, Nat.add_zero] at dc hf0
    have R1 := Lib.hid (fun (u : World) (hu : Gr (W9.setCell ⟨g6, k * 7 + 0, none⟩ (.int .i64 19)) u) => ODD.out 0 (.int .i64 19) (ndO y 19) (by decide) rfl odd_op u hu)
    have R2 := Lib.hid (fun (u : World) (hu : Gr W0 u) => Right_any n _ u hs (Lib.hid (HV.out u (Gr.trans BW.out hu))) true (Lib.hid ⟨fun _ => HRT.out, fun _ => rfl⟩))
    have hw5 := wrap_int (y := (n.nodes.length : Int) + 5) (by omega) (by omega)
    have KPX := Lib.hid (fun (u : World) (hu : Gr (W9.setCell ⟨g6, k * 7 + 0, none⟩ (.int .i64 19)) u) => KPV.out u g6 (k * 7 + 0) (.int .i64 19) OK9.out.2.2.2.2.1 hu)
    obtain ⟨-, ⟨b0, b1, b2, b3, b4⟩, m0, m1, m2, m3, m4⟩ := KPX.out _ (Gr.refl _)
    clear HCL HFZ ODD KPV hs
    try simp only [Nat.add_zero] at R1 KPX b0 b1 b2 b3 b4 m0 m1 m2 m3 m4
    go_wp2_with fail
    refine (R1.out _ (Gr.refl _)).mono ?_
    rintro e wA ⟨rfl, hg⟩
    have GA := Lib.hid (KPX.out _ hg).1
    clear e0 e1 e2 e3 e4 f0 f1 f2 f3 f4 b0 b1 b2 b3 b4 m0 m1 m2 m3 m4 dc hf0
    obtain ⟨-, ⟨e0, e1, e2, e3, e4⟩, f0, f1, f2, f3, f4⟩ := KPX.out _ hg
    clear hg
    go_wp2_with fail
    refine (R2.out _ GA.out).mono ?_
    rintro e wB ⟨rfl, hg⟩
    go_wp2_with fail
    go_ret
    exact ⟨rfl, Gr.trans BW.out (Gr.trans GA.out hg)⟩
  · skip
    have htm6 : Int.tmod (m : Int) 6 = 3 := by rw [Int.tmod_eq_emod_of_nonneg (by omega)]; omega
    clear h6
    have dc := HCL.out 4 (by decide)
    have hf0 := HFZ.out (k * 7 + 4)
    simp only [ndL, List.getElem?_cons_zero, List.getElem?_cons_succ, Nat.add_zero] at dc hf0
    have R1 := Lib.hid (fun (u : World) (hu : Gr (W9.setCell ⟨g6, k * 7 + 4, none⟩ (.int .i64 ((n.nodes.length : Int) + 5))) u) => ODD.out 4 (.int .i64 ((n.nodes.length : Int) + 5)) (ndC y ((n.nodes.length : Int) + 5)) (by decide) rfl odd_c u hu)
    have R2 := Lib.hid (fun (u : World) (hu : Gr W0 u) => Right_any n _ u hs (Lib.hid (HV.out u (Gr.trans BW.out hu))) true (Lib.hid ⟨fun _ => HRT.out, fun _ => rfl⟩))
    have hw5 := wrap_int (y := (n.nodes.length : Int) + 5) (by omega) (by omega)
    have KPX := Lib.hid (fun (u : World) (hu : Gr (W9.setCell ⟨g6, k * 7 + 4, none⟩ (.int .i64 ((n.nodes.length : Int) + 5))) u) => KPV.out u g6 (k * 7 + 4) (.int .i64 ((n.nodes.length : Int) + 5)) OK9.out.2.2.2.2.1 hu)
    obtain ⟨-, ⟨b0, b1, b2, b3, b4⟩, m0, m1, m2, m3, m4⟩ := KPX.out _ (Gr.refl _)
    clear HCL HFZ ODD KPV hs
    try simp only [Nat.add_zero] at R1 KPX b0 b1 b2 b3 b4 m0 m1 m2 m3 m4
    go_wp2_with fail
    refine (R1.out _ (Gr.refl _)).mono ?_
    rintro e wA ⟨rfl, hg⟩
    have GA := Lib.hid (KPX.out _ hg).1
    clear e0 e1 e2 e3 e4 f0 f1 f2 f3 f4 b0 b1 b2 b3 b4 m0 m1 m2 m3 m4 dc hf0
    obtain ⟨-, ⟨e0, e1, e2, e3, e4⟩, f0, f1, f2, f3, f4⟩ := KPX.out _ hg
    clear hg
    go_wp2_with fail
    refine (R2.out _ GA.out).mono ?_
    rintro e wB ⟨rfl, hg⟩
    go_wp2_with fail
    go_ret
    exact ⟨rfl, Gr.trans BW.out (Gr.trans GA.out hg)⟩
  · skip
    have htm6 : Int.tmod (m : Int) 6 = 4 := by rw [Int.tmod_eq_emod_of_nonneg (by omega)]; omega
    clear h6
    have dc := HCL.out 6 (by decide)
    have hf0 := HFZ.out (k * 7 + 6)
    simp only [ndL, List.getElem?_cons_zero, List.getElem?_cons_succ, Nat.add_zero] at dc hf0
    have R1 := Lib.hid (fun (u : World) (hu : Gr (W9.setCell ⟨g6, k * 7 + 6, none⟩ (.int .i64 (-1))) u) => ODD.out 6 (.int .i64 (-1)) (ndLo y (-1)) (by decide) rfl (odd_lo (fun z hz => wok_of HRT.out.1 z (List.mem_of_mem_take hz))) u hu)
    have R2 := Lib.hid (fun (u : World) (hu : Gr W0 u) => Right_any n _ u hs (Lib.hid (HV.out u (Gr.trans BW.out hu))) true (Lib.hid ⟨fun _ => HRT.out, fun _ => rfl⟩))
    have hw5 := wrap_int (y := (n.nodes.length : Int) + 5) (by omega) (by omega)
    have KPX := Lib.hid (fun (u : World) (hu : Gr (W9.setCell ⟨g6, k * 7 + 6, none⟩ (.int .i64 (-1))) u) => KPV.out u g6 (k * 7 + 6) (.int .i64 (-1)) OK9.out.2.2.2.2.1 hu)
    obtain ⟨-, ⟨b0, b1, b2, b3, b4⟩, m0, m1, m2, m3, m4⟩ := KPX.out _ (Gr.refl _)
    clear HCL HFZ ODD KPV hs
    try simp only [Nat.add_zero] at R1 KPX b0 b1 b2 b3 b4 m0 m1 m2 m3 m4
    go_wp2_with fail
    refine (R1.out _ (Gr.refl _)).mono ?_
    rintro e wA ⟨rfl, hg⟩
    have GA := Lib.hid (KPX.out _ hg).1
    clear e0 e1 e2 e3 e4 f0 f1 f2 f3 f4 b0 b1 b2 b3 b4 m0 m1 m2 m3 m4 dc hf0
    obtain ⟨-, ⟨e0, e1, e2, e3, e4⟩, f0, f1, f2, f3, f4⟩ := KPX.out _ hg
    clear hg
    go_wp2_with fail
    refine (R2.out _ GA.out).mono ?_
    rintro e wB ⟨rfl, hg⟩
    go_wp2_with fail
    go_ret
    exact ⟨rfl, Gr.trans BW.out (Gr.trans GA.out hg)⟩
  · skip
    have htm6 : Int.tmod (m : Int) 6 = 5 := by rw [Int.tmod_eq_emod_of_nonneg (by omega)]; omega
    clear h6
    have R2 := Lib.hid (fun (u : World) (hu : Gr W0 u) => Right_any n _ u hs (Lib.hid (HV.out u (Gr.trans BW.out hu))) true (Lib.hid ⟨fun _ => HRT.out, fun _ => rfl⟩))
    by_cases hc0 : n.cells.length = 0
    · have r0 : ((n.cells.length : Int) == 0) = true := by simp [hc0]
      clear hc0 HCL HFZ ODD KPV
      go_wp2_with fail
      all_goals
        go_ret
        exact ⟨rfl, Gr.trans BW.out OK9.out.2.2.2.1⟩
    have r0 : ((n.cells.length : Int) == 0) = false := beq_eq_false_iff_ne.2 (by omega)
    have r1 : ¬ (n.cells.length : Int) = 0 := by omega
    obtain ⟨q, hq⟩ : ∃ q : Nat, x % n.cells.length = q := ⟨_, rfl⟩
    have hql : q < n.cells.length := by rw [← hq]; exact Nat.mod_lt _ (by omega)
    have htq : Int.tmod (x : Int) (n.cells.length : Int) = (q : Int) := by rw [Int.tmod_eq_emod_of_nonneg (by omega)]; omega
    have hwq := wrap_nat (a := q) (by omega)
    have hc : n.cells[q]? = some n.cells[q] := List.getElem?_eq_getElem hql
    generalize n.cells[q] = c at hc
    have HC2 := Lib.hid hc
    have j1 : (q : Int) < (n.cells.length : Int) := by omega
    have j2 : (0 : Int) ≤ (q : Int) := by omega
    clear hc hq
    obtain ⟨qb, cq, e8, hbq, hlq⟩ := OK9.out.2.1.form (by omega)
    simp only [Value.slice.injEq, true_and] at e8
    obtain ⟨hA8, rfl⟩ := e8
    subst hA8
    have hg3 : w3.heap.size < qb := by have h1 := OK9.out.2.2.2.2.1; have h2 := OK9.out.2.2.2.2.2.1; omega
    have hf0 := OK9.out.2.1.frozenAt (q * 4 + 2)
    have dc : W9.cell? ⟨qb, q * 4 + 2, none⟩ = some (.int .i64 c.next) := by
      rw [OK9.out.2.1.cellAt (q * 4 + 2) (by omega), flat_at ceL ceL_len _ q 2 c HC2.out (by decide)]
      rfl
    have R1 := Lib.hid (fun (u : World) (hu : Gr (W9.setCell ⟨qb, q * 4 + 2, none⟩ (.int .i64 (-1))) u) =>
      Right_any ⟨n.nodes, n.ins, n.cells.set q (ceN c (-1)), n.props, n.names⟩ (ntV (some ⟨g6, 0, none⟩) A2 (some ⟨qb, 0, none⟩) A4 A5 n.nodes.length n.ins.length n.cells.length n.props.length n.names.length d6 c2 d8 c4 c5) u (by unfold Sz; simp only [List.length_set]; exact hs)
        (Lib.hid (NtAt.gr (by
          have h0 := (KPV.out _ qb (q * 4 + 2) (.int .i64 (-1)) hg3 (Gr.refl _)).1
          have h1 := (OK9.out.2.1.stored (q * 4 + 2) (.int .i64 (-1))).1
          rw [flat_set ceL ceL_len (y := ceN c (-1)) HC2.out (by decide) rfl] at h1
          obtain ⟨A, d, e8, hd, -, h⟩ := ce_own h1 (by simp)
          simp only [Value.slice.injEq, true_and] at e8
          obtain ⟨rfl, rfl⟩ := e8
          refine ⟨some ⟨g6, 0, none⟩, A2, some ⟨qb, 0, none⟩, A4, A5, d6, c2, d8, c4, c5, by simp, HND.out.2, nds_set HND.out.1 (by simp) (fun b' off' e => ?_), H2.out.gr (Gr.trans BW.out h0), h, H4.out.gr (Gr.trans BW.out h0), H5.out.gr (Gr.trans BW.out h0)⟩
          simp only [Option.some.injEq, Addr.mk.injEq] at e
          have h3 := OK9.out.2.2.2.2.2.1
          omega) hu)) false (Lib.hid ⟨fun h => by simp at h, fun h => absurd h (odd_cell HRT.out HC2.out)⟩))
    have KPX := Lib.hid (fun (u : World) (hu : Gr (W9.setCell ⟨qb, q * 4 + 2, none⟩ (.int .i64 (-1))) u) => KPV.out u qb (q * 4 + 2) (.int .i64 (-1)) hg3 hu)
    clear HCL HFZ ODD KPV hs
    go_upto_region 22 with fail
    refine wp_region_held_drew (S := (fun u => BxAt u w.heap.size n A1 A2 A3 A4 A5 c1 c2 c3 c4 c5 ∧ Bx5 u w3.heap.size (.slice (some ⟨g6, 0, none⟩) n.nodes.length d6) (.slice A2 n.ins.length c2) (.slice (some ⟨qb, 0, none⟩) n.cells.length d8) (.slice A4 n.props.length c4) (.slice A5 n.names.length c5))) (by kernel_rfl) (KP9.out _ (Gr.drew _)) (fun hHeld => ?_)
    refine wpAnyH_take (i := 0) (oi := { dst := some 90, op := Op.fieldAddr 27 (Operand.tmp 8) 2, type := 0, pos := "law.go:225", after := #[], guard := none }) (v := ?_) rfl (by kernel_rfl) (by kernel_rfl) (by kernel_rfl) (fun _ _ _ h => h) (Or.inl ⟨by rfl, ?_⟩) hHeld ?_
    case refine_2 => (intro w hSw; (try dsimp only at hSw); go_simp; try (with_reducible rfl))
    try simp only [Act.put, List.setIfInBounds_toArray, List.set_cons_zero, List.set_cons_succ]
    refine wpAnyH_take (i := 1) (oi := { dst := some 91, op := Op.load 24 (Operand.tmp 90), type := 24, pos := "law.go:225", after := #[{ on := 0, ground := Ground.data }], guard := none }) (v := ?_) rfl (by kernel_rfl) (by kernel_rfl) (by kernel_rfl) (fun _ _ _ h => h) (Or.inl ⟨by rfl, ?_⟩) hHeld ?_
    case refine_2 => (intro w hSw; (try dsimp only at hSw); go_simp; try (with_reducible rfl))
    try simp only [Act.put, List.setIfInBounds_toArray, List.set_cons_zero, List.set_cons_succ]
    refine wpAnyH_take (i := 2) (oi := { dst := some 92, op := Op.move (Operand.tmp 1), type := 45, pos := "law.go:225", after := #[], guard := none }) (v := ?_) rfl (by kernel_rfl) (by kernel_rfl) (by kernel_rfl) (fun _ _ _ h => h) (Or.inl ⟨by rfl, ?_⟩) hHeld ?_
    case refine_2 => (intro w hSw; (try dsimp only at hSw); go_simp; try (with_reducible rfl))
    try simp only [Act.put, List.setIfInBounds_toArray, List.set_cons_zero, List.set_cons_succ]
    refine wpAnyH_take (i := 3) (oi := { dst := some 93, op := Op.convert 45 3 (Operand.tmp 92), type := 3, pos := "law.go:225", after := #[{ on := 2, ground := Ground.data }], guard := none }) (v := ?_) rfl (by kernel_rfl) (by kernel_rfl) (by kernel_rfl) (fun _ _ _ h => h) (Or.inl ⟨by rfl, ?_⟩) hHeld ?_
    case refine_2 => (intro w hSw; (try dsimp only at hSw); go_simp; try (with_reducible rfl))
    try simp only [Act.put, List.setIfInBounds_toArray, List.set_cons_zero, List.set_cons_succ]
    refine wpAnyH_take (i := 4) (oi := { dst := some 94, op := Op.fieldAddr 27 (Operand.tmp 3) 2, type := 0, pos := "law.go:225", after := #[], guard := none }) (v := ?_) rfl (by kernel_rfl) (by kernel_rfl) (by kernel_rfl) (fun _ _ _ h => h) (Or.inl ⟨by rfl, ?_⟩) hHeld ?_
    case refine_2 => (intro w hSw; (try dsimp only at hSw); go_simp; try (with_reducible rfl))
    try simp only [Act.put, List.setIfInBounds_toArray, List.set_cons_zero, List.set_cons_succ]
    refine wpAnyH_take (i := 5) (oi := { dst := some 95, op := Op.load 24 (Operand.tmp 94), type := 24, pos := "law.go:225", after := #[{ on := 4, ground := Ground.data }], guard := none }) (v := ?_) rfl (by kernel_rfl) (by kernel_rfl) (by kernel_rfl) (fun _ _ _ h => h) (Or.inl ⟨by rfl, ?_⟩) hHeld ?_
    case refine_2 => (intro w hSw; (try dsimp only at hSw); go_simp; try (with_reducible rfl))
    try simp only [Act.put, List.setIfInBounds_toArray, List.set_cons_zero, List.set_cons_succ]
    refine wpAnyH_take (i := 6) (oi := { dst := some 96, op := Op.call { callee := Callee.builtin Builtin.len, args := #[Operand.tmp 95], argTypes := #[24] }, type := 3, pos := "law.go:225", after := #[{ on := 5, ground := Ground.data }], guard := none }) (v := ?_) rfl (by kernel_rfl) (by kernel_rfl) (by kernel_rfl) (fun _ _ _ h => h) (Or.inl ⟨by rfl, ?_⟩) hHeld ?_
    case refine_2 => (intro w hSw; (try dsimp only at hSw); go_simp; try (with_reducible rfl))
    try simp only [Act.put, List.setIfInBounds_toArray, List.set_cons_zero, List.set_cons_succ]
    refine wpAnyH_take (i := 7) (oi := { dst := some 97, op := Op.binOp BinOp.rem 3 (Operand.tmp 93) (Operand.tmp 96) 3, type := 3, pos := "law.go:225", after := #[{ on := 3, ground := Ground.data }, { on := 6, ground := Ground.data }], guard := none }) (v := ?_) rfl (by kernel_rfl) (by kernel_rfl) (by kernel_rfl) (fun _ _ _ h => h) (Or.inl ⟨by rfl, ?_⟩) hHeld ?_
    case refine_2 => (intro w hSw; (try dsimp only at hSw); go_simp; try (with_reducible rfl))
    try simp only [Act.put, List.setIfInBounds_toArray, List.set_cons_zero, List.set_cons_succ]
    refine wpAnyH_take (i := 8) (oi := { dst := some 98, op := Op.indexAddr 24 (Operand.tmp 91) (Operand.tmp 97), type := 0, pos := "law.go:225", after := #[{ on := 1, ground := Ground.data }, { on := 7, ground := Ground.data }, { on := 0, ground := Ground.phase }, { on := 1, ground := Ground.phase }, { on := 2, ground := Ground.phase }, { on := 3, ground := Ground.phase }, { on := 4, ground := Ground.phase }, { on := 5, ground := Ground.phase }, { on := 6, ground := Ground.phase }, { on := 7, ground := Ground.phase }], guard := none }) (v := ?_) rfl (by kernel_rfl) (by kernel_rfl) (by kernel_rfl) (fun _ _ _ h => h) (Or.inl ⟨by rfl, ?_⟩) hHeld ?_
    case refine_2 => (intro w hSw; (try dsimp only at hSw); go_simp; try (with_reducible rfl))
    try simp only [Act.put, List.setIfInBounds_toArray, List.set_cons_zero, List.set_cons_succ]
    refine wpAnyH_take (i := 9) (oi := { dst := some 99, op := Op.fieldAddr 43 (Operand.tmp 98) 2, type := 0, pos := "law.go:225", after := #[{ on := 8, ground := Ground.data }, { on := 0, ground := Ground.phase }, { on := 1, ground := Ground.phase }, { on := 2, ground := Ground.phase }, { on := 3, ground := Ground.phase }, { on := 4, ground := Ground.phase }, { on := 5, ground := Ground.phase }, { on := 6, ground := Ground.phase }, { on := 7, ground := Ground.phase }], guard := none }) (v := ?_) rfl (by kernel_rfl) (by kernel_rfl) (by kernel_rfl) (fun _ _ _ h => h) (Or.inl ⟨by rfl, ?_⟩) hHeld ?_
    case refine_2 => (intro w hSw; (try dsimp only at hSw); go_simp; try (with_reducible rfl))
    try simp only [Act.put, List.setIfInBounds_toArray, List.set_cons_zero, List.set_cons_succ]
    refine wpAnyH_ready (rs := [10]) (by kernel_rfl) (by simp) ?_
    refine AllReadyH.cons (o := { dst := none, op := Op.store 3 (Operand.tmp 99) (Operand.const (Value.int IntKind.i64 (-1))), type := 0, pos := "law.go:225", after := #[{ on := 9, ground := Ground.data }, { on := 0, ground := Ground.phase }, { on := 1, ground := Ground.phase }, { on := 2, ground := Ground.phase }, { on := 3, ground := Ground.phase }, { on := 4, ground := Ground.phase }, { on := 5, ground := Ground.phase }, { on := 6, ground := Ground.phase }, { on := 7, ground := Ground.phase }], guard := none }) rfl (fun K hK => ?_) AllReadyH.nil
    go_simp
    refine hK.out _ _ (KPX.out _ (Gr.drew _)).2 (fun hHeld => ?_)
    clear hK K
    try simp only [Act.put, List.setIfInBounds_toArray, List.set_cons_zero, List.set_cons_succ]
    refine wpAnyH_done (by kernel_rfl) ?_ _
    obtain ⟨-, ⟨b0, b1, b2, b3, b4⟩, m0, m1, m2, m3, m4⟩ := KPX.out _ (Gr.drew _)
    go_wp2_with fail
    refine (R1.out _ (Gr.drew _)).mono ?_
    rintro e wA ⟨rfl, hg'⟩
    have hg := Gr.trans (Gr.drew _) hg'
    have GA := Lib.hid (KPX.out _ hg).1
    clear e0 e1 e2 e3 e4 f0 f1 f2 f3 f4 b0 b1 b2 b3 b4 m0 m1 m2 m3 m4 dc hf0
    obtain ⟨-, ⟨e0, e1, e2, e3, e4⟩, f0, f1, f2, f3, f4⟩ := KPX.out _ hg
    clear hg hg'
    go_wp2_with fail
    refine (R2.out _ GA.out).mono ?_
    rintro e wB ⟨rfl, hg⟩
    go_wp2_with fail
    go_ret
    exact ⟨rfl, Gr.trans BW.out (Gr.trans GA.out hg)⟩
end Go.Proofs.Ytnkifhgkhgialaa
