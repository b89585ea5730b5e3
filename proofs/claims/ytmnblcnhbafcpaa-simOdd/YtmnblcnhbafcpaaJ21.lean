/-
  THE DOCUMENT'S fits, WALKED, the ops 12, 13, 14, 15.
-/
import Derived.Test.YtmnblcnhbafcpaaJ18
namespace Go.Proofs.Ytmnblcnhbafcpaa
open Go.RowKit
open NetM
set_option maxRecDepth 100000 in
set_option maxHeartbeats 40000000 in
theorem fits_c (n : Nt) (v : Value) (i : Nat) (x : Nd) (w : World) (hs : Sz n) (hx : n.nodes[i]? = some x) (hops : x.op = 12 ∨ x.op = 13 ∨ x.op = 14 ∨ x.op = 15) (hW1 : 1 ≤ x.w) (hW2 : x.w ≤ 16) (hwok : WOk (n.nodes.take i)) (hn : Hid (NtAt w n v)) (b : Bool) (hb : b = true ↔ FOk (opd (n.nodes.take i) x 0) (opd (n.nodes.take i) x 1) (opd (n.nodes.take i) x 2) x) :
    Calls Try.prog 47 #[v, .int .i64 (i : Nat)] w fun e w' => e = .returned (.bool b) ∧ Gr w w' := by
  have HV := Lib.hid (fun (u : World) (hu : Gr w u) => hn.out.gr hu)
  obtain ⟨A1, A2, A3, A4, A5, c1, c2, c3, c4, c5, rfl, hc1, h1, h2, h3, h4, h5⟩ := hn.out
  have H1 := Lib.hid h1
  have H2 := Lib.hid h2
  have H3 := Lib.hid h3
  have H4 := Lib.hid h4
  have H5 := Lib.hid h5
  clear h1 h2 h3 h4 h5
  obtain ⟨W0, eW, BW, KEEP⟩ : ∃ W0, w.alloc (.cells (bxC n A1 A2 A3 A4 A5 c1 c2 c3 c4 c5) 27) = W0 ∧ Hid (Gr w W0) ∧ Hid (∀ u, Gr W0 u → BxAt u w.heap.size n A1 A2 A3 A4 A5 c1 c2 c3 c4 c5) :=
    ⟨_, rfl, Lib.hid (bel_alloc _ _), Lib.hid fun u hu => bx_gr (bx_new w n A1 A2 A3 A4 A5 c1 c2 c3 c4 c5) (by simp) hu⟩
  obtain ⟨e0, e1, e2, e3, e4⟩ := KEEP.out W0 (Gr.refl _)
  have hil : i < n.nodes.length := (List.getElem?_eq_some_iff.1 hx).1
  have hi1 : (i : Int) < (n.nodes.length : Int) := by omega
  have hi0 : (0 : Int) ≤ (i : Int) := by omega
  have WC := Lib.hid (fun (p : Int) (u : World) (hu : Gr w u) => wide_any n _ p i u hs (by omega) (Lib.hid (HV.out u hu)))
  obtain ⟨a0, ha0, a1, a2⟩ : ∃ o, opd (n.nodes.take i) x 0 = o ∧ 0 ≤ o ∧ o ≤ 16 := ⟨_, rfl, (widA_ok hwok _).1, (widA_ok hwok _).2⟩
  obtain ⟨b0, hb0, b1, b2⟩ : ∃ o, opd (n.nodes.take i) x 1 = o ∧ 0 ≤ o ∧ o ≤ 16 := ⟨_, rfl, (widA_ok hwok _).1, (widA_ok hwok _).2⟩
  obtain ⟨c0, hc0, c1', c2'⟩ : ∃ o, opd (n.nodes.take i) x 2 = o ∧ 0 ≤ o ∧ o ≤ 16 := ⟨_, rfl, (widA_ok hwok _).1, (widA_ok hwok _).2⟩
  rw [ha0, hb0, hc0] at hb
  have WA := Lib.hid (fun (u : World) (hu : Gr w u) => WC.out x.a u hu)
  have WB := Lib.hid (fun (u : World) (hu : Gr w u) => WC.out x.b u hu)
  have WD := Lib.hid (fun (u : World) (hu : Gr w u) => WC.out x.c u hu)
  rw [show widA (n.nodes.take i) x.a = a0 from ha0] at WA
  rw [show widA (n.nodes.take i) x.b = b0 from hb0] at WB
  rw [show widA (n.nodes.take i) x.c = c0 from hc0] at WD
  clear ha0 hb0 hc0 WC hwok
  obtain ⟨bb, off, rfl, -, d0, d1, d2, d3, d4, d5, d6⟩ := (H1.out.gr BW.out) i x hx
  obtain ⟨m, hm⟩ : ∃ m : Nat, x.w = m := ⟨x.w.toNat, by omega⟩
  have hm2 : x.w.toNat = m := by omega
  obtain ⟨q, hq⟩ : ∃ q, 2 ^ m - 1 = q := ⟨_, rfl⟩
  have MK := Lib.hid (show ∀ u, Calls Try.prog 27 #[.int .i64 x.w] u fun e w' => e = .returned (.int .i64 (q : Nat)) ∧ w' = u from fun u => by rw [hm]; exact (rmask_is (k := m) (by omega) hq u).mono fun e w' ⟨h1, h2⟩ => ⟨h1, h2.symm⟩)
  unfold FOk at hb
  rw [hm2, hq] at hb
  clear hx hm hm2 hq hs
  obtain ⟨W1, eW1, BW1, KX, KB⟩ : ∃ W1, W0.alloc (.cells #[.int .i64 x.op, .int .i64 x.w, .int .i64 x.a, .int .i64 x.b, .int .i64 x.c, .int .i64 x.n, .int .i64 x.lo] 53) = W1 ∧ Hid (Gr w W1) ∧ Hid (∀ u, Gr W1 u → XAt u W0.heap.size x) ∧ Hid (∀ u, Gr W1 u → BxAt u w.heap.size n (some ⟨bb, off, none⟩) A2 A3 A4 A5 c1 c2 c3 c4 c5) :=
    ⟨_, rfl, Lib.hid (Gr.trans BW.out (bel_alloc _ _)), Lib.hid fun u hu => x_gr (x_new W0 x) (by simp) hu, Lib.hid fun u hu => KEEP.out u (Gr.trans (bel_alloc _ _) hu)⟩
  obtain ⟨op, W, A, B, C, N, Lo⟩ := x
  simp only at d0 d1 d2 d3 d4 d5 d6 eW1 KX hb hops MK WA WB WD a1 a2 b1 b2 c1' c2'
  have HOPS := Lib.hid hops
  obtain ⟨f0, f1, f2, f3, f4⟩ := KB.out _ (Gr.refl _)
  obtain ⟨x0, x1, x2, x3, x4, x5, x6⟩ := KX.out _ (Gr.refl _)
  clear hops
  go_enter Try.func47, Try.ntmps47
  go_wp2_with fail
  try rw [eW1]
  clear e0 e1 e2 e3 e4 d0 d1 d2 d3 d4 d5 d6 eW eW1 f0 f1 f2 f3 f4 x0 x1 x2 x3 x4 x5 x6
  obtain ⟨e0, e1, e2, e3, e4⟩ := KB.out _ (Gr.refl _)
  obtain ⟨d0, d1, d2, d3, d4, d5, d6⟩ := KX.out _ (Gr.refl _)
  refine (WA.out _ BW1.out).mono ?_
  rintro e w1 ⟨rfl, hg⟩
  have G1 := Lib.hid (Gr.trans BW1.out hg)
  have F1 : Hid (Gr W1 w1) := Lib.hid hg
  clear hg e0 e1 e2 e3 e4 d0 d1 d2 d3 d4 d5 d6
  obtain ⟨e0, e1, e2, e3, e4⟩ := KB.out _ F1.out
  obtain ⟨d0, d1, d2, d3, d4, d5, d6⟩ := KX.out _ F1.out
  go_wp2_with fail
  refine (WB.out _ G1.out).mono ?_
  rintro e w2 ⟨rfl, hg⟩
  have G2 := Lib.hid (Gr.trans G1.out hg)
  have F2 : Hid (Gr W1 w2) := Lib.hid (Gr.trans F1.out hg)
  clear hg e0 e1 e2 e3 e4 d0 d1 d2 d3 d4 d5 d6
  obtain ⟨e0, e1, e2, e3, e4⟩ := KB.out _ F2.out
  obtain ⟨d0, d1, d2, d3, d4, d5, d6⟩ := KX.out _ F2.out
  go_wp2_with fail
  refine (WD.out _ G2.out).mono ?_
  rintro e w3 ⟨rfl, hg⟩
  have G3 := Lib.hid (Gr.trans G2.out hg)
  have F3 : Hid (Gr W1 w3) := Lib.hid (Gr.trans F2.out hg)
  clear hg e0 e1 e2 e3 e4 d0 d1 d2 d3 d4 d5 d6
  obtain ⟨e0, e1, e2, e3, e4⟩ := KB.out _ F3.out
  obtain ⟨d0, d1, d2, d3, d4, d5, d6⟩ := KX.out _ F3.out
  clear G1 G2 F1 F2 F3 WA WB WD KX KB e0 e1 e2 e3 e4
  have hops := HOPS.out
  clear HOPS
  rcases hops with rfl | rfl | rfl | rfl
  · replace hb : b = true ↔ N = 0 ∧ W = 1 ∧ a0 = Lo ∧ b0 = Lo ∧ 0 < a0 := hb.trans (by simp)
    by_cases g0 : N = 0
    case neg =>
      have f0 : (N == 0) = false := by simpa using g0
      have HN := Lib.hid (bool_no hb fun h => g0 (h.1))
      clear g0
      clear hb
      go_wp2_with fail
      go_ret
      exact ⟨by rw [HN.out]; rfl, G3.out⟩
    have t0 : (N == 0) = true := by simpa using g0
    by_cases g1 : W = 1
    case neg =>
      have f1 : (W == 1) = false := by simpa using g1
      have HN := Lib.hid (bool_no hb fun h => g1 (h.2.1))
      clear g0 g1
      clear hb
      go_wp2_with fail
      go_ret
      exact ⟨by rw [HN.out]; rfl, G3.out⟩
    have t1 : (W == 1) = true := by simpa using g1
    by_cases g2 : a0 = Lo
    case neg =>
      have f2 : (a0 == Lo) = false := by simpa using g2
      have HN := Lib.hid (bool_no hb fun h => g2 (h.2.2.1))
      clear g0 g1 g2
      clear hb
      go_wp2_with fail
      go_ret
      exact ⟨by rw [HN.out]; rfl, G3.out⟩
    have t2 : (a0 == Lo) = true := by simpa using g2
    by_cases g3 : b0 = Lo
    case neg =>
      have f3 : (b0 == Lo) = false := by simpa using g3
      have HN := Lib.hid (bool_no hb fun h => g3 (h.2.2.2.1))
      clear g0 g1 g2 g3
      clear hb
      go_wp2_with fail
      go_ret
      exact ⟨by rw [HN.out]; rfl, G3.out⟩
    have t3 : (b0 == Lo) = true := by simpa using g3
    by_cases g4 : 0 < a0
    case neg =>
      have f4 : decide (0 < a0) = false := by simpa using g4
      have HN := Lib.hid (bool_no hb fun h => g4 (h.2.2.2.2))
      clear g0 g1 g2 g3 g4
      clear hb
      go_wp2_with fail
      go_ret
      exact ⟨by rw [HN.out]; first | rfl | (show Ending.returned (.bool _) = _; first | rw [f4] | (rw [wrap_int (by omega) (by omega)]; rw [f4]) | (rw [wrap_int (y := N - Lo) (by omega) (by omega), wrap_int (y := N - Lo + 1) (by omega) (by omega)]; rw [f4])), G3.out⟩
    have t4 : decide (0 < a0) = true := by simpa using g4
    have HN := Lib.hid (hb.2 ⟨g0, g1, g2, g3, g4⟩)
    clear g0 g1 g2 g3 g4
    clear hb
    go_wp2_with fail
    go_ret
    exact ⟨by rw [HN.out]; first | rfl | (show Ending.returned (.bool _) = _; first | rw [t4] | (rw [wrap_int (by omega) (by omega)]; rw [t4]) | (rw [wrap_int (y := N - Lo) (by omega) (by omega), wrap_int (y := N - Lo + 1) (by omega) (by omega)]; rw [t4])), G3.out⟩
  · replace hb : b = true ↔ N = 0 ∧ W = 1 ∧ a0 = Lo ∧ b0 = Lo ∧ 0 < a0 := hb.trans (by simp)
    by_cases g0 : N = 0
    case neg =>
      have f0 : (N == 0) = false := by simpa using g0
      have HN := Lib.hid (bool_no hb fun h => g0 (h.1))
      clear g0
      clear hb
      go_wp2_with fail
      go_ret
      exact ⟨by rw [HN.out]; rfl, G3.out⟩
    have t0 : (N == 0) = true := by simpa using g0
    by_cases g1 : W = 1
    case neg =>
      have f1 : (W == 1) = false := by simpa using g1
      have HN := Lib.hid (bool_no hb fun h => g1 (h.2.1))
      clear g0 g1
      clear hb
      go_wp2_with fail
      go_ret
      exact ⟨by rw [HN.out]; rfl, G3.out⟩
    have t1 : (W == 1) = true := by simpa using g1
    by_cases g2 : a0 = Lo
    case neg =>
      have f2 : (a0 == Lo) = false := by simpa using g2
      have HN := Lib.hid (bool_no hb fun h => g2 (h.2.2.1))
      clear g0 g1 g2
      clear hb
      go_wp2_with fail
      go_ret
      exact ⟨by rw [HN.out]; rfl, G3.out⟩
    have t2 : (a0 == Lo) = true := by simpa using g2
    by_cases g3 : b0 = Lo
    case neg =>
      have f3 : (b0 == Lo) = false := by simpa using g3
      have HN := Lib.hid (bool_no hb fun h => g3 (h.2.2.2.1))
      clear g0 g1 g2 g3
      clear hb
      go_wp2_with fail
      go_ret
      exact ⟨by rw [HN.out]; rfl, G3.out⟩
    have t3 : (b0 == Lo) = true := by simpa using g3
    by_cases g4 : 0 < a0
    case neg =>
      have f4 : decide (0 < a0) = false := by simpa using g4
      have HN := Lib.hid (bool_no hb fun h => g4 (h.2.2.2.2))
      clear g0 g1 g2 g3 g4
      clear hb
      go_wp2_with fail
      go_ret
      exact ⟨by rw [HN.out]; first | rfl | (show Ending.returned (.bool _) = _; first | rw [f4] | (rw [wrap_int (by omega) (by omega)]; rw [f4]) | (rw [wrap_int (y := N - Lo) (by omega) (by omega), wrap_int (y := N - Lo + 1) (by omega) (by omega)]; rw [f4])), G3.out⟩
    have t4 : decide (0 < a0) = true := by simpa using g4
    have HN := Lib.hid (hb.2 ⟨g0, g1, g2, g3, g4⟩)
    clear g0 g1 g2 g3 g4
    clear hb
    go_wp2_with fail
    go_ret
    exact ⟨by rw [HN.out]; first | rfl | (show Ending.returned (.bool _) = _; first | rw [t4] | (rw [wrap_int (by omega) (by omega)]; rw [t4]) | (rw [wrap_int (y := N - Lo) (by omega) (by omega), wrap_int (y := N - Lo + 1) (by omega) (by omega)]; rw [t4])), G3.out⟩
  · replace hb : b = true ↔ N = 0 ∧ W = 1 ∧ a0 = Lo ∧ b0 = Lo ∧ 0 < a0 := hb.trans (by simp)
    by_cases g0 : N = 0
    case neg =>
      have f0 : (N == 0) = false := by simpa using g0
      have HN := Lib.hid (bool_no hb fun h => g0 (h.1))
      clear g0
      clear hb
      go_wp2_with fail
      go_ret
      exact ⟨by rw [HN.out]; rfl, G3.out⟩
    have t0 : (N == 0) = true := by simpa using g0
    by_cases g1 : W = 1
    case neg =>
      have f1 : (W == 1) = false := by simpa using g1
      have HN := Lib.hid (bool_no hb fun h => g1 (h.2.1))
      clear g0 g1
      clear hb
      go_wp2_with fail
      go_ret
      exact ⟨by rw [HN.out]; rfl, G3.out⟩
    have t1 : (W == 1) = true := by simpa using g1
    by_cases g2 : a0 = Lo
    case neg =>
      have f2 : (a0 == Lo) = false := by simpa using g2
      have HN := Lib.hid (bool_no hb fun h => g2 (h.2.2.1))
      clear g0 g1 g2
      clear hb
      go_wp2_with fail
      go_ret
      exact ⟨by rw [HN.out]; rfl, G3.out⟩
    have t2 : (a0 == Lo) = true := by simpa using g2
    by_cases g3 : b0 = Lo
    case neg =>
      have f3 : (b0 == Lo) = false := by simpa using g3
      have HN := Lib.hid (bool_no hb fun h => g3 (h.2.2.2.1))
      clear g0 g1 g2 g3
      clear hb
      go_wp2_with fail
      go_ret
      exact ⟨by rw [HN.out]; rfl, G3.out⟩
    have t3 : (b0 == Lo) = true := by simpa using g3
    by_cases g4 : 0 < a0
    case neg =>
      have f4 : decide (0 < a0) = false := by simpa using g4
      have HN := Lib.hid (bool_no hb fun h => g4 (h.2.2.2.2))
      clear g0 g1 g2 g3 g4
      clear hb
      go_wp2_with fail
      go_ret
      exact ⟨by rw [HN.out]; first | rfl | (show Ending.returned (.bool _) = _; first | rw [f4] | (rw [wrap_int (by omega) (by omega)]; rw [f4]) | (rw [wrap_int (y := N - Lo) (by omega) (by omega), wrap_int (y := N - Lo + 1) (by omega) (by omega)]; rw [f4])), G3.out⟩
    have t4 : decide (0 < a0) = true := by simpa using g4
    have HN := Lib.hid (hb.2 ⟨g0, g1, g2, g3, g4⟩)
    clear g0 g1 g2 g3 g4
    clear hb
    go_wp2_with fail
    go_ret
    exact ⟨by rw [HN.out]; first | rfl | (show Ending.returned (.bool _) = _; first | rw [t4] | (rw [wrap_int (by omega) (by omega)]; rw [t4]) | (rw [wrap_int (y := N - Lo) (by omega) (by omega), wrap_int (y := N - Lo + 1) (by omega) (by omega)]; rw [t4])), G3.out⟩
  · replace hb : b = true ↔ N = 0 ∧ W = 1 ∧ a0 = Lo ∧ b0 = Lo ∧ 0 < a0 := hb.trans (by simp)
    by_cases g0 : N = 0
    case neg =>
      have f0 : (N == 0) = false := by simpa using g0
      have HN := Lib.hid (bool_no hb fun h => g0 (h.1))
      clear g0
      clear hb
      go_wp2_with fail
      go_ret
      exact ⟨by rw [HN.out]; rfl, G3.out⟩
    have t0 : (N == 0) = true := by simpa using g0
    by_cases g1 : W = 1
    case neg =>
      have f1 : (W == 1) = false := by simpa using g1
      have HN := Lib.hid (bool_no hb fun h => g1 (h.2.1))
      clear g0 g1
      clear hb
      go_wp2_with fail
      go_ret
      exact ⟨by rw [HN.out]; rfl, G3.out⟩
    have t1 : (W == 1) = true := by simpa using g1
    by_cases g2 : a0 = Lo
    case neg =>
      have f2 : (a0 == Lo) = false := by simpa using g2
      have HN := Lib.hid (bool_no hb fun h => g2 (h.2.2.1))
      clear g0 g1 g2
      clear hb
      go_wp2_with fail
      go_ret
      exact ⟨by rw [HN.out]; rfl, G3.out⟩
    have t2 : (a0 == Lo) = true := by simpa using g2
    by_cases g3 : b0 = Lo
    case neg =>
      have f3 : (b0 == Lo) = false := by simpa using g3
      have HN := Lib.hid (bool_no hb fun h => g3 (h.2.2.2.1))
      clear g0 g1 g2 g3
      clear hb
      go_wp2_with fail
      go_ret
      exact ⟨by rw [HN.out]; rfl, G3.out⟩
    have t3 : (b0 == Lo) = true := by simpa using g3
    by_cases g4 : 0 < a0
    case neg =>
      have f4 : decide (0 < a0) = false := by simpa using g4
      have HN := Lib.hid (bool_no hb fun h => g4 (h.2.2.2.2))
      clear g0 g1 g2 g3 g4
      clear hb
      go_wp2_with fail
      go_ret
      exact ⟨by rw [HN.out]; first | rfl | (show Ending.returned (.bool _) = _; first | rw [f4] | (rw [wrap_int (by omega) (by omega)]; rw [f4]) | (rw [wrap_int (y := N - Lo) (by omega) (by omega), wrap_int (y := N - Lo + 1) (by omega) (by omega)]; rw [f4])), G3.out⟩
    have t4 : decide (0 < a0) = true := by simpa using g4
    have HN := Lib.hid (hb.2 ⟨g0, g1, g2, g3, g4⟩)
    clear g0 g1 g2 g3 g4
    clear hb
    go_wp2_with fail
    go_ret
    exact ⟨by rw [HN.out]; first | rfl | (show Ending.returned (.bool _) = _; first | rw [t4] | (rw [wrap_int (by omega) (by omega)]; rw [t4]) | (rw [wrap_int (y := N - Lo) (by omega) (by omega), wrap_int (y := N - Lo + 1) (by omega) (by omega)]; rw [t4])), G3.out⟩
end Go.Proofs.Ytmnblcnhbafcpaa
