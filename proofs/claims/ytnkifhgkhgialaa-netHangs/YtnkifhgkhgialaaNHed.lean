/-
  head, WALKED.
-/
import Derived.Test.YtnkifhgkhgialaaNBas
import Derived.Test.YtnkifhgkhgialaaNLwb
import Derived.Deep.Cut
namespace Go.Proofs.Ytnkifhgkhgialaa
open Go.RowKit
open NetM

theorem NtAt.form {w : World} {n : Nt} {v : Value} (h : NtAt w n v) : ∃ A1 A2 A3 A4 A5 k1 k2 k3 k4 k5 c1 c2 c3 c4 c5, v = ntV A1 A2 A3 A4 A5 k1 k2 k3 k4 k5 c1 c2 c3 c4 c5 := by
  obtain ⟨A1, A2, A3, A4, A5, c1, c2, c3, c4, c5, e, _⟩ := h
  exact ⟨_, _, _, _, _, _, _, _, _, _, _, _, _, _, _, e⟩
theorem bad_of {w w' : World} {g : Nat} {B1 B2 B3 B4 B5 : Option Addr} {j1 j2 j3 j4 j5 d1 d2 d3 d4 d5 : Nat} (h : NtAt w baseN (ntV B1 B2 B3 B4 B5 j1 j2 j3 j4 j5 d1 d2 d3 d4 d5)) (hg : Gr w w') (hc : w'.heap[g]? = some (.cells xcellsC 43)) :
    NtAt w' badN (ntV B1 B2 (some ⟨g, 0, none⟩) B4 B5 j1 j2 1 j4 j5 d1 d2 1 d4 d5) := by
  obtain ⟨A1, A2, A3, A4, A5, c1, c2, c3, c4, c5, e, h0, h1, h2, h3, h4, h5⟩ := h
  simp only [ntV, Value.agg.injEq, Array.mk.injEq, List.cons.injEq, Value.slice.injEq, and_true] at e
  obtain ⟨⟨rfl, rfl, rfl⟩, ⟨rfl, rfl, rfl⟩, ⟨rfl, rfl, rfl⟩, ⟨rfl, rfl, rfl⟩, ⟨rfl, rfl, rfl⟩⟩ := e
  exact ⟨_, _, _, _, _, _, _, 1, _, _, rfl, h0, h1.gr hg, h2.gr hg, x_cells hc, h4.gr hg, h5.gr hg⟩
theorem no_at (w : World) : NtAt w noN (.agg #[.slice none 0 0, .slice none 0 0, .slice none 0 0, .slice none 0 0, .slice none 0 0]) :=
  ⟨none, none, none, none, none, 0, 0, 0, 0, 0, rfl, Nat.le_refl _, fun i x h => by simp [noN] at h, fun i x h => by simp [noN] at h, fun i x h => by simp [noN] at h, fun i x h => by simp [noN] at h, fun i x h => by simp [noN] at h⟩
theorem int1 (w : World) (x : Nat) : IntR (w.alloc (.cells #[.int .i64 (x : Nat)] 3)) (.slice (some ⟨w.heap.size, 0, none⟩) 1 1) (ofN [x]) := by
  refine ⟨some ⟨w.heap.size, 0, none⟩, 1, rfl, Nat.le_refl _, ?_⟩
  intro i s hi
  match i, hi with
  | 0, hi => simp [ofN] at hi; subst hi; exact ⟨_, 0, rfl, by simp, new_cells _ _ _ _ _ rfl⟩
  | i + 1, hi => simp [ofN] at hi
abbrev Bx5 (u : World) (g : Nat) (x0 x1 x2 x3 x4 : Value) : Prop := u.cell? ⟨g, 0, none⟩ = some x0 ∧ u.cell? ⟨g, 1, none⟩ = some x1 ∧ u.cell? ⟨g, 2, none⟩ = some x2 ∧ u.cell? ⟨g, 3, none⟩ = some x3 ∧ u.cell? ⟨g, 4, none⟩ = some x4
theorem bx5_new (w : World) (x0 x1 x2 x3 x4 : Value) : Bx5 (w.alloc (.cells #[x0, x1, x2, x3, x4] 27)) w.heap.size x0 x1 x2 x3 x4 := by
  refine ⟨?_, ?_, ?_, ?_, ?_⟩
  all_goals exact new_cells _ _ _ _ _ rfl
theorem bx5_gr {w u : World} {g : Nat} {x0 x1 x2 x3 x4 : Value} (h : Bx5 w g x0 x1 x2 x3 x4) (hg : g < w.heap.size) (hb : Gr w u) : Bx5 u g x0 x1 x2 x3 x4 := by
  obtain ⟨h0, h1, h2, h3, h4⟩ := h
  refine ⟨?_, ?_, ?_, ?_, ?_⟩
  all_goals
    rw [hb.cell (by simpa using hg)]
    assumption
theorem int1' (w : World) (g : Nat) (x : Nat) (hg : g = w.heap.size) : IntR (w.alloc (.cells #[.int .i64 (x : Nat)] 3)) (.slice (some ⟨g, 0, none⟩) 1 1) (ofN [x]) := by
  subst hg
  exact int1 w x
theorem ev_a : evAll baseN [11] [1] = [1, 11, 1, 12, 11, 0, 0, 0, 0, 12, 1, 1] := by decide +kernel
theorem lim_b (x y : Nat) (h : (List.range 13).all (fun k => (evL bNodes [x] [y] k).all (fun z => decide (z < 65536))) = true) : ∀ k z, k ≤ baseN.nodes.length → z ∈ evL baseN.nodes [x] [y] k → z < 65536 := by
  intro k z hk hz
  have h1 := List.all_eq_true.1 h k (List.mem_range.2 (Nat.lt_succ_of_le hk))
  exact of_decide_eq_true (List.all_eq_true.1 h1 z hz)
/-- what comes of the net, the state and the inputs built in place -/
theorem EvB (x y : Nat) (v : Value) (u : World) (hn : NtAt u baseN v) (h : (List.range 13).all (fun k => (evL bNodes [x] [y] k).all (fun z => decide (z < 65536))) = true) (u1 : World) (hu : Gr u u1) (sv iv : Value) (hs : IntR u1 sv (ofN [x])) (hi : IntR u1 iv (ofN [y])) :
    Calls Try.prog 20 #[v, sv, iv] u1 (RowRet u1 (ofN (evAll baseN [x] [y]))) :=
  Eval_any baseN v sv iv [x] [y] u1 base_sz (Lib.hid (hn.gr hu)) base_nds (by simp) (by simp) (Lib.hid hs) (Lib.hid hi) (Lib.hid (lim_b x y h))
theorem AfB (x y r : Nat) (v : Value) (u : World) (hn : NtAt u baseN v) (h : (List.range 13).all (fun k => (evL bNodes [x] [y] k).all (fun z => decide (z < 65536))) = true) (hr : getA (ofN (evAll baseN [x] [y])) 8 = (r : Nat)) (u1 : World) (hu : Gr u u1) (sv iv : Value) (hs : IntR u1 sv (ofN [x])) (hi : IntR u1 iv (ofN [y])) :
    Calls Try.prog 22 #[v, sv, iv] u1 (RowRet u1 (ofN [r])) := by
  have hl : (ofN (evAll baseN [x] [y])).length ≤ 4000 := by
    rw [ofN_len]
    unfold evAll
    rw [evL_len _ _ _ _ (Nat.le_refl _)]
    decide
  have := After_any baseN v sv iv (ofN (evAll baseN [x] [y])) u1 base_sz (Lib.hid (hn.gr hu)) hl (Lib.hid fun u2 hu2 => EvB x y v u hn h u2 (Gr.trans hu hu2) sv iv (hs.gr hu2) (hi.gr hu2))
  have e : baseN.cells.map (fun c => getA (ofN (evAll baseN [x] [y])) c.next) = ofN [r] := by
    show [getA (ofN (evAll baseN [x] [y])) 8] = [((r : Nat) : Int)]
    rw [hr]
  rw [e] at this
  exact this
theorem same_of (xs : List Int) (v v' : Value) (u : World) (hl : xs.length ≤ 4000) (h : IntR u v xs) (h' : IntR u v' xs) : Calls Try.prog 17 #[v, v'] u fun e w' => e = .returned (.bool true) ∧ Gr u w' := by
  obtain ⟨A, c, rfl, -, h1⟩ := h
  obtain ⟨A', c', rfl, -, h2⟩ := h'
  exact sameInts_any A A' c c' xs xs u hl hl (Lib.hid h1) (Lib.hid h2) true (Lib.hid (by simp))
set_option maxRecDepth 100000 in
set_option maxHeartbeats 8000000 in
theorem head_any (w : World) : Calls Try.prog 10 #[] w fun e w' => e = .returned (.bool true) ∧ Gr w w' := by
  have HB := Lib.hid Base_any
  go_enter Try.func10, Try.ntmps10
  go_wp2_with fail
  refine (HB.out _).mono ?_
  rintro e w1 ⟨v1, rfl, hn1, hg1⟩
  have HN1 := Lib.hid hn1
  have HG1 := Lib.hid hg1
  obtain ⟨A1, A2, A3, A4, A5, k1, k2, k3, k4, k5, c1, c2, c3, c4, c5, rfl⟩ := hn1.form
  clear hn1 hg1
  go_wp2_with fail
  refine (HB.out _).mono ?_
  rintro e w2 ⟨v2, rfl, hn2, hg2⟩
  have HN2 := Lib.hid hn2
  have HG2 := Lib.hid hg2
  obtain ⟨B1, B2, B3, B4, B5, j1, j2, j3, j4, j5, d1, d2, d3, d4, d5, rfl⟩ := hn2.form
  clear hn2 hg2
  go_upto_region 4 with fail
  obtain ⟨W3, eW3, G3, K3, NT, NX⟩ : ∃ W3, (w2.alloc (.cells #[.slice B1 j1 d1, .slice B2 j2 d2, .slice (some ⟨w2.heap.size + 1, 0, none⟩) 1 1, .slice B4 j4 d4, .slice B5 j5 d5] 27)).alloc (.cells #[.string ⟨#[110]⟩, .int .i64 1, .int .i64 0, .int .i64 0] 43) = W3 ∧ Hid (Gr w W3) ∧
      Hid (∀ u, Gr W3 u → Bx5 u w1.heap.size (.slice A1 k1 c1) (.slice A2 k2 c2) (.slice A3 k3 c3) (.slice A4 k4 c4) (.slice A5 k5 c5) ∧ Bx5 u w2.heap.size (.slice B1 j1 d1) (.slice B2 j2 d2) (.slice (some ⟨w2.heap.size + 1, 0, none⟩) 1 1) (.slice B4 j4 d4) (.slice B5 j5 d5)) ∧
      Hid (NtAt W3 baseN (ntV A1 A2 A3 A4 A5 k1 k2 k3 k4 k5 c1 c2 c3 c4 c5)) ∧ Hid (NtAt W3 badN (ntV B1 B2 (some ⟨w2.heap.size + 1, 0, none⟩) B4 B5 j1 j2 1 j4 j5 d1 d2 1 d4 d5)) := by
    have g23 : Gr w2 ((w2.alloc (.cells #[.slice B1 j1 d1, .slice B2 j2 d2, .slice (some ⟨w2.heap.size + 1, 0, none⟩) 1 1, .slice B4 j4 d4, .slice B5 j5 d5] 27)).alloc (.cells #[.string ⟨#[110]⟩, .int .i64 1, .int .i64 0, .int .i64 0] 43)) := Gr.trans (bel_alloc _ _) (bel_alloc _ _)
    have hx := heap_new' (w2.alloc (.cells #[.slice B1 j1 d1, .slice B2 j2 d2, .slice (some ⟨w2.heap.size + 1, 0, none⟩) 1 1, .slice B4 j4 d4, .slice B5 j5 d5] 27)) (.cells #[.string ⟨#[110]⟩, .int .i64 1, .int .i64 0, .int .i64 0] 43)
    rw [World.size_alloc] at hx
    have X1 := bx5_new w1 (.slice A1 k1 c1) (.slice A2 k2 c2) (.slice A3 k3 c3) (.slice A4 k4 c4) (.slice A5 k5 c5)
    have X2 := bx5_new w2 (.slice B1 j1 d1) (.slice B2 j2 d2) (.slice (some ⟨w2.heap.size + 1, 0, none⟩) 1 1) (.slice B4 j4 d4) (.slice B5 j5 d5)
    refine ⟨_, rfl, Lib.hid (Gr.trans HG1.out (Gr.trans (bel_alloc _ _) (Gr.trans HG2.out g23))), Lib.hid fun u hu => ⟨bx5_gr X1 (by simp) (Gr.trans HG2.out (Gr.trans g23 hu)), bx5_gr X2 (by simp) (Gr.trans (bel_alloc _ _) hu)⟩, Lib.hid (HN1.out.gr (Gr.trans (bel_alloc _ _) (Gr.trans HG2.out g23))), Lib.hid (bad_of HN2.out g23 hx)⟩
  clear HN1 HN2 HG1 HG2 HB
  try rw [eW3]
  clear eW3
  have RB := Lib.hid (fun (u : World) (hu : Gr W3 u) => Right_any baseN _ u base_sz (Lib.hid (NT.out.gr hu)) true (Lib.hid ⟨fun _ => base_right, fun _ => rfl⟩))
  have RX := Lib.hid (fun (u : World) (hu : Gr W3 u) => Right_any badN _ u bad_sz (Lib.hid (NX.out.gr hu)) false (Lib.hid ⟨fun h => by simp at h, fun h => absurd h bad_right⟩))
  have RN := Lib.hid (fun (u : World) => Right_any noN _ u no_sz (Lib.hid (no_at u)) true (Lib.hid ⟨fun _ => no_right, fun _ => rfl⟩))
  have SB := Lib.hid (fun (u : World) (hu : Gr W3 u) => Same_any baseN baseN _ _ u base_sz base_sz (Lib.hid (NT.out.gr hu)) (Lib.hid (NT.out.gr hu)) true (Lib.hid ⟨fun _ => ⟨rfl, rfl, rfl, rfl, rfl⟩, fun _ => rfl⟩))
  have SX := Lib.hid (fun (u : World) (hu : Gr W3 u) => Same_any baseN badN _ _ u base_sz bad_sz (Lib.hid (NT.out.gr hu)) (Lib.hid (NX.out.gr hu)) false (Lib.hid ⟨fun h => by simp at h, fun h => absurd h bad_same⟩))
  have FB := Lib.hid (show ∀ u, Gr W3 u → Calls Try.prog 18 #[ntV A1 A2 A3 A4 A5 k1 k2 k3 k4 k5 c1 c2 c3 c4 c5] u (RowRet u (ofN [0])) from fun u hu => First_any baseN _ u base_sz (Lib.hid (NT.out.gr hu)))
  have EV := Lib.hid (EvB 11 1 _ W3 NT.out (by decide +kernel))
  have AA := Lib.hid (AfB 3 1 4 _ W3 NT.out (by decide +kernel) (by decide +kernel))
  have AB := Lib.hid (AfB 11 1 0 _ W3 NT.out (by decide +kernel) (by decide +kernel))
  have AC := Lib.hid (AfB 7 0 7 _ W3 NT.out (by decide +kernel) (by decide +kernel))
  obtain ⟨⟨e0, e1, e2, e3, e4⟩, f0, f1, f2, f3, f4⟩ := K3.out W3 (Gr.refl _)
  go_wp2_with fail
  refine (EV.out _ (Gr.trans (bel_alloc _ _) (bel_alloc _ _)) _ _ ((int1 W3 11).gr (bel_alloc _ _)) (int1' _ _ 1 (by simp))).mono ?_
  rintro e u1 ⟨v3, rfl, hi, hg⟩
  have G4 := Lib.hid (Gr.trans (Gr.trans (bel_alloc W3 (.cells #[.int .i64 11] 3)) (bel_alloc _ (.cells #[.int .i64 1] 3))) hg)
  have U4 := Lib.hid (Gr.refl u1)
  rw [ev_a] at hi
  obtain ⟨Av, cv, rfl, -, hi⟩ := hi
  have HI3 := Lib.hid hi
  clear hi
  clear hg e0 e1 e2 e3 e4 f0 f1 f2 f3 f4
  obtain ⟨⟨e0, e1, e2, e3, e4⟩, f0, f1, f2, f3, f4⟩ := K3.out _ G4.out
  go_wp2_with fail
  refine (RB.out _ G4.out).mono ?_
  rintro e u ⟨rfl, hg⟩
  have G5 := Lib.hid (Gr.trans G4.out hg)
  have U5 := Lib.hid (Gr.trans U4.out hg)
  clear hg e0 e1 e2 e3 e4 f0 f1 f2 f3 f4
  obtain ⟨⟨e0, e1, e2, e3, e4⟩, f0, f1, f2, f3, f4⟩ := K3.out _ G5.out
  go_wp2_with fail
  refine (RX.out _ G5.out).mono ?_
  rintro e u ⟨rfl, hg⟩
  have G6 := Lib.hid (Gr.trans G5.out hg)
  have U6 := Lib.hid (Gr.trans U5.out hg)
  clear hg e0 e1 e2 e3 e4 f0 f1 f2 f3 f4
  obtain ⟨⟨e0, e1, e2, e3, e4⟩, f0, f1, f2, f3, f4⟩ := K3.out _ G6.out
  go_wp2_with fail
  refine (RN.out _).mono ?_
  rintro e u ⟨rfl, hg⟩
  have G7 := Lib.hid (Gr.trans G6.out hg)
  have U7 := Lib.hid (Gr.trans U6.out hg)
  clear hg e0 e1 e2 e3 e4 f0 f1 f2 f3 f4
  obtain ⟨⟨e0, e1, e2, e3, e4⟩, f0, f1, f2, f3, f4⟩ := K3.out _ G7.out
  go_wp2_with fail
  refine (SB.out _ G7.out).mono ?_
  rintro e u ⟨rfl, hg⟩
  have G8 := Lib.hid (Gr.trans G7.out hg)
  have U8 := Lib.hid (Gr.trans U7.out hg)
  clear hg e0 e1 e2 e3 e4 f0 f1 f2 f3 f4
  obtain ⟨⟨e0, e1, e2, e3, e4⟩, f0, f1, f2, f3, f4⟩ := K3.out _ G8.out
  go_wp2_with fail
  refine (SX.out _ G8.out).mono ?_
  rintro e u ⟨rfl, hg⟩
  have G9 := Lib.hid (Gr.trans G8.out hg)
  have U9 := Lib.hid (Gr.trans U8.out hg)
  clear hg e0 e1 e2 e3 e4 f0 f1 f2 f3 f4
  obtain ⟨⟨e0, e1, e2, e3, e4⟩, f0, f1, f2, f3, f4⟩ := K3.out _ G9.out
  go_wp2_with fail
  refine (FB.out _ G9.out).mono ?_
  rintro e u ⟨vf, rfl, hi, hg⟩
  have G10 := Lib.hid (Gr.trans G9.out hg)
  have U10 := Lib.hid (Gr.trans U9.out hg)
  have hi' := hi
  obtain ⟨Af, cf, rfl, -, -⟩ := hi'
  have HF := Lib.hid hi
  clear hi
  clear hg e0 e1 e2 e3 e4 f0 f1 f2 f3 f4
  go_wp2_with fail
  refine (same_of (ofN [0]) _ _ _ (by decide) (HF.out.gr (bel_alloc _ _)) (int1 _ 0)).mono ?_
  rintro e u ⟨rfl, hg⟩
  have G11 := Lib.hid (Gr.trans G10.out (Gr.trans (bel_alloc _ _) hg))
  have U11 := Lib.hid (Gr.trans U10.out (Gr.trans (bel_alloc _ _) hg))
  clear hg HF
  obtain ⟨⟨e0, e1, e2, e3, e4⟩, f0, f1, f2, f3, f4⟩ := K3.out _ G11.out
  go_wp2_with fail
  refine (AA.out _ (Gr.trans G11.out (Gr.trans (bel_alloc _ _) (bel_alloc _ _))) _ _ ((int1 _ 3).gr (bel_alloc _ _)) (int1' _ _ 1 (by simp))).mono ?_
  rintro e u ⟨vf, rfl, hi, hg⟩
  have G12 := Lib.hid (Gr.trans G11.out (Gr.trans (Gr.trans (bel_alloc _ _) (bel_alloc _ _)) hg))
  have U12 := Lib.hid (Gr.trans U11.out (Gr.trans (Gr.trans (bel_alloc _ _) (bel_alloc _ _)) hg))
  have hi' := hi
  obtain ⟨Af, cf, rfl, -, -⟩ := hi'
  have HF := Lib.hid hi
  clear hi
  clear hg e0 e1 e2 e3 e4 f0 f1 f2 f3 f4
  go_wp2_with fail
  refine (same_of (ofN [4]) _ _ _ (by decide) (HF.out.gr (bel_alloc _ _)) (int1 _ 4)).mono ?_
  rintro e u ⟨rfl, hg⟩
  have G13 := Lib.hid (Gr.trans G12.out (Gr.trans (bel_alloc _ _) hg))
  have U13 := Lib.hid (Gr.trans U12.out (Gr.trans (bel_alloc _ _) hg))
  clear hg HF
  obtain ⟨⟨e0, e1, e2, e3, e4⟩, f0, f1, f2, f3, f4⟩ := K3.out _ G13.out
  go_wp2_with fail
  refine (AB.out _ (Gr.trans G13.out (Gr.trans (bel_alloc _ _) (bel_alloc _ _))) _ _ ((int1 _ 11).gr (bel_alloc _ _)) (int1' _ _ 1 (by simp))).mono ?_
  rintro e u ⟨vf, rfl, hi, hg⟩
  have G14 := Lib.hid (Gr.trans G13.out (Gr.trans (Gr.trans (bel_alloc _ _) (bel_alloc _ _)) hg))
  have U14 := Lib.hid (Gr.trans U13.out (Gr.trans (Gr.trans (bel_alloc _ _) (bel_alloc _ _)) hg))
  have hi' := hi
  obtain ⟨Af, cf, rfl, -, -⟩ := hi'
  have HF := Lib.hid hi
  clear hi
  clear hg e0 e1 e2 e3 e4 f0 f1 f2 f3 f4
  go_wp2_with fail
  refine (same_of (ofN [0]) _ _ _ (by decide) (HF.out.gr (bel_alloc _ _)) (int1 _ 0)).mono ?_
  rintro e u ⟨rfl, hg⟩
  have G15 := Lib.hid (Gr.trans G14.out (Gr.trans (bel_alloc _ _) hg))
  have U15 := Lib.hid (Gr.trans U14.out (Gr.trans (bel_alloc _ _) hg))
  clear hg HF
  obtain ⟨⟨e0, e1, e2, e3, e4⟩, f0, f1, f2, f3, f4⟩ := K3.out _ G15.out
  go_wp2_with fail
  refine (AC.out _ (Gr.trans G15.out (Gr.trans (bel_alloc _ _) (bel_alloc _ _))) _ _ ((int1 _ 7).gr (bel_alloc _ _)) (int1' _ _ 0 (by simp))).mono ?_
  rintro e u ⟨vf, rfl, hi, hg⟩
  have G16 := Lib.hid (Gr.trans G15.out (Gr.trans (Gr.trans (bel_alloc _ _) (bel_alloc _ _)) hg))
  have U16 := Lib.hid (Gr.trans U15.out (Gr.trans (Gr.trans (bel_alloc _ _) (bel_alloc _ _)) hg))
  have hi' := hi
  obtain ⟨Af, cf, rfl, -, -⟩ := hi'
  have HF := Lib.hid hi
  clear hi
  clear hg e0 e1 e2 e3 e4 f0 f1 f2 f3 f4
  go_wp2_with fail
  refine (same_of (ofN [7]) _ _ _ (by decide) (HF.out.gr (bel_alloc _ _)) (int1 _ 7)).mono ?_
  rintro e u ⟨rfl, hg⟩
  have G17 := Lib.hid (Gr.trans G16.out (Gr.trans (bel_alloc _ _) hg))
  have U17 := Lib.hid (Gr.trans U16.out (Gr.trans (bel_alloc _ _) hg))
  clear hg HF
  have HI4 := HI3.out.gr U17.out
  obtain ⟨gv, ov, rfl, -, i3⟩ := HI4 3 12 rfl
  obtain ⟨gw, ow, ee, -, i10⟩ := HI4 10 1 rfl
  obtain ⟨rfl, rfl⟩ : gv = gw ∧ ov = ow := by simpa using ee
  obtain ⟨gw, ow, ee, -, i11⟩ := HI4 11 1 rfl
  obtain ⟨rfl, rfl⟩ : gv = gw ∧ ov = ow := by simpa using ee
  clear ee HI4
  go_wp2_with fail
  go_ret
  exact ⟨rfl, Gr.trans G3.out G17.out⟩
end Go.Proofs.Ytnkifhgkhgialaa
