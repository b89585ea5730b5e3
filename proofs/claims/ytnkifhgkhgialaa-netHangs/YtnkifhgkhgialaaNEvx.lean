/-
  First, After, Same, WALKED.
-/
import Derived.Test.YtnkifhgkhgialaaNEvw
namespace Go.Proofs.Ytnkifhgkhgialaa
open Go.RowKit
open NetM

set_option maxRecDepth 100000 in
set_option maxHeartbeats 4000000 in
theorem First_any (n : Nt) (v : Value) (w : World) (hs : Sz n) (hn : Hid (NtAt w n v)) :
    Calls Try.prog 18 #[v] w (RowRet w (n.cells.map Ce.reset)) := by
  obtain ⟨z1, z2, z3, z4, z5⟩ := hs
  obtain ⟨A1, A2, A3, A4, A5, c1, c2, c3, c4, c5, rfl, hc1, h1, h2, h3, h4, h5⟩ := hn.out
  have H1 := Lib.hid h1
  have H2 := Lib.hid h2
  have H3 := Lib.hid h3
  have H4 := Lib.hid h4
  have H5 := Lib.hid h5
  clear h1 h2 h3 h4 h5
  obtain ⟨W0, eW, BW, KEEP⟩ : ∃ W0, w.alloc (.cells (bxC n A1 A2 A3 A4 A5 c1 c2 c3 c4 c5) 27) = W0 ∧ Hid (Gr w W0) ∧ Hid (∀ u, Gr W0 u → BxAt u w.heap.size n A1 A2 A3 A4 A5 c1 c2 c3 c4 c5) :=
    ⟨_, rfl, Lib.hid (bel_alloc _ _), Lib.hid fun u hu => bx_gr (bx_new w n A1 A2 A3 A4 A5 c1 c2 c3 c4 c5) (by simp) hu⟩
  obtain ⟨e0, e1, e2, e3, e4⟩ := KEEP.out W0 (Gr.refl _)
  obtain ⟨i0, hi, hz0, hz1, hz2⟩ := info_parts info3
  have HI := Lib.hid (And.intro hi (And.intro hz0 (And.intro hz1 hz2)))
  clear hi hz0 hz1 hz2
  go_enter Try.func18, Try.ntmps18
  go_wp2_with fail
  try rw [eW]
  clear eW
  go_loopg [3, 9] n.cells.length (fun g v i wr => ∃ j : Nat, j + g = n.cells.length ∧ i = .int .i64 j ∧ Hid (wr.ownsRow W0.heap.size 3 1 v j (icells ((n.cells.take j).map Ce.reset))) ∧ Hid (Gr W0 wr))
  case atStart => exact ⟨0, by omega, rfl, Lib.hid (World.ownsRow_nil _ _ _ _), Lib.hid (Gr.refl _)⟩
  case round =>
    obtain ⟨j, hjg, rfl, HO, HW⟩ := hrel
    have HJ := Lib.hid hjg
    have hjl : j ≤ n.cells.length := by omega
    clear hjg
    by_cases hlt : j < n.cells.length
    · have hs : n.cells[j]? = some n.cells[j] := List.getElem?_eq_getElem hlt
      generalize n.cells[j] = x at hs
      have HS := Lib.hid (map_step (f := Ce.reset) hs)
      obtain ⟨bb, off, rfl, -, d0, d1, d2, d3⟩ := (H3.out.gr (Gr.trans BW.out HW.out)) j x hs
      clear hs
      have hi1 : (j : Int) < (n.cells.length : Int) := by omega
      have hi0 : (0 : Int) ≤ (j : Int) := by omega
      have hws := HW.out.size
      go_wp2_with (first
            | (at_builtin; refine wpList_append_own _ rfl _ _ 32 rfl W0.heap.size 3 i0 (.int .i64 0) 1 8 Try.underlying32 HI.out.1 HI.out.2.1 HI.out.2.2.1 HI.out.2.2.2 rfl (by decide) _ _ _ rfl ((HO.out.alloc _).alloc _) ⟨wr.heap.size + 1, 0, none⟩ 1 1 [.int .i64 (x.reset)] rfl rfl (fun j' u hj => by have := int_new (wr.alloc (.cells #[.string x.s, .int .i64 x.node, .int .i64 x.next, .int .i64 x.reset] 43)) (.int .i64 (x.reset)) 3 j' u hj; simpa using this) (fun x hx => by simp at hx; subst hx; rfl) (by unfold maxLen; omega) (by omega) (by simp; omega) ?_; intro v' w3 hown' hgrow3 hnil3; have HO3 := Lib.hid hown'; have HB3 := Lib.hid (app_row (HO.out.alloc (.cells #[.string x.s, .int .i64 x.node, .int .i64 x.next, .int .i64 x.reset] 43)) (HW.out.alloc hws _) hgrow3); clear hown' hgrow3 hnil3)
            | fail)
      go_roundg (gk - 1)
      case measure => have := HJ.out; omega
      case rel => exact ⟨j + 1, by have := HJ.out; omega, by go_num, Lib.hid (by rw [HS.out, icells_snoc]; exact HO3.out), HB3⟩
    · have hjn : j = n.cells.length := by omega
      subst hjn
      have hrow := ints_of_own HO.out (by rw [List.length_map, List.length_take]; omega)
      rw [List.take_length] at hrow
      clear HO
      have HR := Lib.hid hrow
      clear hrow
      go_wp2_with fail
      go_ret
      exact ⟨_, rfl, HR.out, Gr.trans BW.out HW.out⟩
set_option maxRecDepth 100000 in
set_option maxHeartbeats 4000000 in
theorem After_any (n : Nt) (v sv iv : Value) (ma : List Int) (w : World) (hs : Sz n) (hn : Hid (NtAt w n v)) (hma : ma.length ≤ 4000)
    (hev : Hid (∀ u, Gr w u → Calls Try.prog 20 #[v, sv, iv] u (RowRet u ma))) :
    Calls Try.prog 22 #[v, sv, iv] w (RowRet w (n.cells.map (fun c : Ce => getA ma c.next))) := by
  obtain ⟨z1, z2, z3, z4, z5⟩ := hs
  obtain ⟨A1, A2, A3, A4, A5, c1, c2, c3, c4, c5, rfl, hc1, h1, h2, h3, h4, h5⟩ := hn.out
  have H1 := Lib.hid h1
  have H2 := Lib.hid h2
  have H3 := Lib.hid h3
  have H4 := Lib.hid h4
  have H5 := Lib.hid h5
  clear h1 h2 h3 h4 h5
  obtain ⟨W0, eW, BW, KEEP⟩ : ∃ W0, w.alloc (.cells (bxC n A1 A2 A3 A4 A5 c1 c2 c3 c4 c5) 27) = W0 ∧ Hid (Gr w W0) ∧ Hid (∀ u, Gr W0 u → BxAt u w.heap.size n A1 A2 A3 A4 A5 c1 c2 c3 c4 c5) :=
    ⟨_, rfl, Lib.hid (bel_alloc _ _), Lib.hid fun u hu => bx_gr (bx_new w n A1 A2 A3 A4 A5 c1 c2 c3 c4 c5) (by simp) hu⟩
  obtain ⟨e0, e1, e2, e3, e4⟩ := KEEP.out W0 (Gr.refl _)
  obtain ⟨i0, hi, hz0, hz1, hz2⟩ := info_parts info3
  have HI := Lib.hid (And.intro hi (And.intro hz0 (And.intro hz1 hz2)))
  clear hi hz0 hz1 hz2
  have EV := Lib.hid (hev.out _ BW.out)
  clear hev
  go_enter Try.func22, Try.ntmps22
  go_wp2_with fail
  try rw [eW]
  refine EV.out.mono ?_
  rintro e w1 ⟨v1, rfl, hi1, hg1⟩
  obtain ⟨Am, cm, rfl, -, him⟩ := hi1
  have HM := Lib.hid him
  have HG := Lib.hid hg1
  clear him hg1 eW e0 e1 e2 e3 e4
  obtain ⟨e0, e1, e2, e3, e4⟩ := KEEP.out _ HG.out
  go_wp2_with fail
  go_loopg [8, 18] n.cells.length (fun g v i wr => ∃ j : Nat, j + g = n.cells.length ∧ i = .int .i64 j ∧ Hid (wr.ownsRow w1.heap.size 3 1 v j (icells ((n.cells.take j).map (fun c : Ce => getA ma c.next)))) ∧ Hid (Gr w1 wr))
  case atStart => exact ⟨0, by omega, rfl, Lib.hid (World.ownsRow_nil _ _ _ _), Lib.hid (Gr.refl _)⟩
  case round =>
    obtain ⟨j, hjg, rfl, HO, HW⟩ := hrel
    have HJ := Lib.hid hjg
    have hjl : j ≤ n.cells.length := by omega
    clear hjg
    by_cases hlt : j < n.cells.length
    · have hs : n.cells[j]? = some n.cells[j] := List.getElem?_eq_getElem hlt
      generalize n.cells[j] = x at hs
      have HS := Lib.hid (map_step (f := (fun c : Ce => getA ma c.next)) hs)
      obtain ⟨bb, off, rfl, -, d0, d1, d2, d3⟩ := (H3.out.gr (Gr.trans BW.out (Gr.trans HG.out HW.out))) j x hs
      clear hs
      have hi1 : (j : Int) < (n.cells.length : Int) := by omega
      have hi0 : (0 : Int) ≤ (j : Int) := by omega
      have hws := HW.out.size
      have AT := Lib.hid (at_any Am cm _ ma x.next (wr.alloc (.cells #[.string x.s, .int .i64 x.node, .int .i64 x.next, .int .i64 x.reset] 43)) hma (Lib.hid (HM.out.gr (Gr.trans HW.out (bel_alloc _ _)))))
      generalize getA ma x.next = r at AT HS
      go_wp2_with fail
      refine AT.out.mono ?_
      rintro e w' ⟨rfl, rfl⟩
      go_wp2_with (first
          | (at_builtin; refine wpList_append_own _ rfl _ _ 32 rfl w1.heap.size 3 i0 (.int .i64 0) 1 8 Try.underlying32 HI.out.1 HI.out.2.1 HI.out.2.2.1 HI.out.2.2.2 rfl (by decide) _ _ _ rfl ((HO.out.alloc _).alloc _) ⟨wr.heap.size + 1, 0, none⟩ 1 1 [.int .i64 (r)] rfl rfl (fun j' u hj => by have := int_new (wr.alloc (.cells #[.string x.s, .int .i64 x.node, .int .i64 x.next, .int .i64 x.reset] 43)) (.int .i64 (r)) 3 j' u hj; simpa using this) (fun x hx => by simp at hx; subst hx; rfl) (by unfold maxLen; omega) (by omega) (by simp; omega) ?_; intro v' w3 hown' hgrow3 hnil3; have HO3 := Lib.hid hown'; have HB3 := Lib.hid (app_row (HO.out.alloc (.cells #[.string x.s, .int .i64 x.node, .int .i64 x.next, .int .i64 x.reset] 43)) (HW.out.alloc hws _) hgrow3); clear hown' hgrow3 hnil3)
          | fail)
      go_roundg (gk - 1)
      case measure => have := HJ.out; omega
      case rel => exact ⟨j + 1, by have := HJ.out; omega, by go_num, Lib.hid (by rw [HS.out, icells_snoc]; exact HO3.out), HB3⟩
    · have hjn : j = n.cells.length := by omega
      subst hjn
      have hrow := ints_of_own HO.out (by rw [List.length_map, List.length_take]; omega)
      rw [List.take_length] at hrow
      have HR := Lib.hid hrow
      clear hrow HO
      go_wp2_with fail
      go_ret
      exact ⟨_, rfl, HR.out, Gr.trans BW.out (Gr.trans HG.out HW.out)⟩
def NSame (a b : Nt) : Prop := a.nodes = b.nodes ∧ a.ins = b.ins ∧ a.cells = b.cells ∧ a.props = b.props ∧ a.names = b.names
set_option maxRecDepth 100000 in
set_option maxHeartbeats 4000000 in
theorem Same_any (n m : Nt) (v u : Value) (w : World) (hs : Sz n) (hs' : Sz m) (hn : Hid (NtAt w n v)) (hm : Hid (NtAt w m u)) (b : Bool) (hb : Hid (b = true ↔ NSame n m)) :
    Calls Try.prog 14 #[v, u] w fun e w' => e = .returned (.bool b) ∧ Gr w w' := by
  obtain ⟨z1, z2, z3, z4, z5⟩ := hs
  obtain ⟨y1, y2, y3, y4, y5⟩ := hs'
  obtain ⟨A1, A2, A3, A4, A5, c1, c2, c3, c4, c5, rfl, hc1, h1, h2, h3, h4, h5⟩ := hn.out
  obtain ⟨B1, B2, B3, B4, B5, g1, g2, g3, g4, g5, rfl, hg1, k1, k2, k3, k4, k5⟩ := hm.out
  obtain ⟨b1, hb1⟩ : ∃ b1 : Bool, b1 = true ↔ n.nodes = m.nodes := by classical exact ⟨decide _, decide_eq_true_iff⟩
  have E1 := Lib.hid (fun (u : World) (hu : Gr w u) => equalNd_any A1 B1 c1 g1 n.nodes m.nodes u (by omega) (by omega) (Lib.hid (h1.gr hu)) (Lib.hid (k1.gr hu)) b1 (Lib.hid hb1))
  obtain ⟨b2, hb2⟩ : ∃ b2 : Bool, b2 = true ↔ n.ins = m.ins := by classical exact ⟨decide _, decide_eq_true_iff⟩
  have E2 := Lib.hid (fun (u : World) (hu : Gr w u) => equalPn_any A2 B2 c2 g2 n.ins m.ins u (by omega) (by omega) (Lib.hid (h2.gr hu)) (Lib.hid (k2.gr hu)) b2 (Lib.hid hb2))
  obtain ⟨b3, hb3⟩ : ∃ b3 : Bool, b3 = true ↔ n.cells = m.cells := by classical exact ⟨decide _, decide_eq_true_iff⟩
  have E3 := Lib.hid (fun (u : World) (hu : Gr w u) => equalCe_any A3 B3 c3 g3 n.cells m.cells u (by omega) (by omega) (Lib.hid (h3.gr hu)) (Lib.hid (k3.gr hu)) b3 (Lib.hid hb3))
  obtain ⟨b4, hb4⟩ : ∃ b4 : Bool, b4 = true ↔ n.props = m.props := by classical exact ⟨decide _, decide_eq_true_iff⟩
  have E4 := Lib.hid (fun (u : World) (hu : Gr w u) => equalPr_any A4 B4 c4 g4 n.props m.props u (by omega) (by omega) (Lib.hid (h4.gr hu)) (Lib.hid (k4.gr hu)) b4 (Lib.hid hb4))
  obtain ⟨b5, hb5⟩ : ∃ b5 : Bool, b5 = true ↔ n.names = m.names := by classical exact ⟨decide _, decide_eq_true_iff⟩
  have E5 := Lib.hid (fun (u : World) (hu : Gr w u) => equalPn_any A5 B5 c5 g5 n.names m.names u (by omega) (by omega) (Lib.hid (h5.gr hu)) (Lib.hid (k5.gr hu)) b5 (Lib.hid hb5))
  have hbb : b = (b1 && b2 && b3 && b4 && b5) := by
    rw [Bool.eq_iff_iff, hb.out]
    simp only [Bool.and_eq_true, hb1, hb2, hb3, hb4, hb5, and_assoc]
    rfl
  clear h1 h2 h3 h4 h5 k1 k2 k3 k4 k5 hb hb1 hb2 hb3 hb4 hb5
  obtain rfl := hbb
  have X0 := bx_new w n A1 A2 A3 A4 A5 c1 c2 c3 c4 c5
  have Y0 := bx_new (w.alloc (.cells (bxC n A1 A2 A3 A4 A5 c1 c2 c3 c4 c5) 27)) m B1 B2 B3 B4 B5 g1 g2 g3 g4 g5
  rw [World.size_alloc] at Y0
  obtain ⟨W0, eW, BW, KEEP⟩ : ∃ W0, (w.alloc (.cells (bxC n A1 A2 A3 A4 A5 c1 c2 c3 c4 c5) 27)).alloc (.cells (bxC m B1 B2 B3 B4 B5 g1 g2 g3 g4 g5) 27) = W0 ∧ Hid (Gr w W0) ∧ Hid (∀ u, Gr W0 u → BxAt u w.heap.size n A1 A2 A3 A4 A5 c1 c2 c3 c4 c5 ∧ BxAt u (w.heap.size + 1) m B1 B2 B3 B4 B5 g1 g2 g3 g4 g5) :=
    ⟨_, rfl, Lib.hid (Gr.trans (bel_alloc _ _) (bel_alloc _ _)), Lib.hid fun u hu => ⟨bx_gr X0 (by simp) (Gr.trans (bel_alloc _ _) hu), bx_gr Y0 (by simp) hu⟩⟩
  clear X0 Y0
  obtain ⟨⟨e0, e1, e2, e3, e4⟩, f0, f1, f2, f3, f4⟩ := KEEP.out W0 (Gr.refl _)
  go_enter Try.func14, Try.ntmps14
  go_wp2_with fail
  try rw [eW]
  clear eW
  refine (E1.out _ BW.out).mono ?_
  rintro e w1 ⟨rfl, hg⟩
  have G1 := Lib.hid hg
  clear hg e0 e1 e2 e3 e4 f0 f1 f2 f3 f4
  obtain ⟨⟨e0, e1, e2, e3, e4⟩, f0, f1, f2, f3, f4⟩ := KEEP.out _ G1.out
  cases b1 with
  | false =>
    go_wp2_with fail
    go_ret
    exact ⟨rfl, Gr.trans BW.out G1.out⟩
  | true =>
  go_wp2_with fail
  refine (E2.out _ (Gr.trans BW.out G1.out)).mono ?_
  rintro e w2 ⟨rfl, hg⟩
  have G2 := Lib.hid (Gr.trans G1.out hg)
  clear hg e0 e1 e2 e3 e4 f0 f1 f2 f3 f4
  obtain ⟨⟨e0, e1, e2, e3, e4⟩, f0, f1, f2, f3, f4⟩ := KEEP.out _ G2.out
  cases b2 with
  | false =>
    go_wp2_with fail
    go_ret
    exact ⟨rfl, Gr.trans BW.out G2.out⟩
  | true =>
  go_wp2_with fail
  refine (E3.out _ (Gr.trans BW.out G2.out)).mono ?_
  rintro e w3 ⟨rfl, hg⟩
  have G3 := Lib.hid (Gr.trans G2.out hg)
  clear hg e0 e1 e2 e3 e4 f0 f1 f2 f3 f4
  obtain ⟨⟨e0, e1, e2, e3, e4⟩, f0, f1, f2, f3, f4⟩ := KEEP.out _ G3.out
  cases b3 with
  | false =>
    go_wp2_with fail
    go_ret
    exact ⟨rfl, Gr.trans BW.out G3.out⟩
  | true =>
  go_wp2_with fail
  refine (E4.out _ (Gr.trans BW.out G3.out)).mono ?_
  rintro e w4 ⟨rfl, hg⟩
  have G4 := Lib.hid (Gr.trans G3.out hg)
  clear hg e0 e1 e2 e3 e4 f0 f1 f2 f3 f4
  obtain ⟨⟨e0, e1, e2, e3, e4⟩, f0, f1, f2, f3, f4⟩ := KEEP.out _ G4.out
  cases b4 with
  | false =>
    go_wp2_with fail
    go_ret
    exact ⟨rfl, Gr.trans BW.out G4.out⟩
  | true =>
  go_wp2_with fail
  refine (E5.out _ (Gr.trans BW.out G4.out)).mono ?_
  rintro e w5 ⟨rfl, hg⟩
  have G5 := Lib.hid (Gr.trans G4.out hg)
  clear hg e0 e1 e2 e3 e4 f0 f1 f2 f3 f4
  obtain ⟨⟨e0, e1, e2, e3, e4⟩, f0, f1, f2, f3, f4⟩ := KEEP.out _ G5.out
  go_wp2_with fail
  go_ret
  exact ⟨rfl, Gr.trans BW.out G5.out⟩
end Go.Proofs.Ytnkifhgkhgialaa
