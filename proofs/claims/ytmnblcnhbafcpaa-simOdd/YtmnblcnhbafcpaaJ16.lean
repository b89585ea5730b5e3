/-
  First, After, Same, WALKED.
-/
import Derived.Test.YtmnblcnhbafcpaaJ15
namespace Go.Proofs.Ytmnblcnhbafcpaa
open Go.RowKit
open NetM

set_option maxRecDepth 100000 in
set_option maxHeartbeats 4000000 in
theorem First_any (n : Nt) (v : Value) (w : World) (hs : Sz n) (hn : Hid (NtAt w n v)) :
    Calls Try.prog 24 #[v] w (RowRet w (n.cells.map Ce.reset)) := by
  obtain ⟨z1, z2, z3, z4, z5⟩ := hs
  obtain ⟨A1, A2, A3, A4, A5, c1, c2, c3, c4, c5, rfl, hc1, h1, h2, h3, h4, h5⟩ := hn.out
  have H1 := Lib.hid h1
  have H2 := Lib.hid h2
  have H3 := Lib.hid h3
  have H4 := Lib.hid h4
  have H5 := Lib.hid h5
  clear h1 h2 h3 h4 h5
  obtain ⟨W0, eW, BW, KEEP⟩ : ∃ W0, w.alloc (.cells (bxC n A1 A2 A3 A4 A5 c1 c2 c3 c4 c5) 27) = W0 ∧ Hid (Gr w W0) ∧ Hid (∀ u, Gr W0 u → BxAt u w.heap.size n A1 A2 A3 A4 A5 c1 c2 c3 c4 c5) :=
    ⟨_, rfl, Lib.hid (bel_alloc _ _), Lib.hid fun u hu => bx_gr (bx_new w n A1 A2 A3 A4 A5 c1 c2 c3 c4 c5) (by simp) hu⟩
  obtain ⟨e0, e1, e2, e3, e4⟩ := KEEP.out W0 (Gr.refl _)
  obtain ⟨i0, hi, hz0, hz1, hz2⟩ := info_parts info3
  have HI := Lib.hid (And.intro hi (And.intro hz0 (And.intro hz1 hz2)))
  clear hi hz0 hz1 hz2
  go_enter Try.func24, Try.ntmps24
  go_wp2_with fail
  try rw [eW]
  clear eW
  go_loopg [3, 9] n.cells.length (fun g v i wr => ∃ j : Nat, j + g = n.cells.length ∧ i = .int .i64 j ∧ Hid (wr.ownsRow W0.heap.size 3 1 v j (icells ((n.cells.take j).map Ce.reset))) ∧ Hid (Gr W0 wr))
  case atStart => exact ⟨0, by omega, rfl, Lib.hid (World.ownsRow_nil _ _ _ _), Lib.hid (Gr.refl _)⟩
  case round =>
    obtain ⟨j, hjg, rfl, HO, HW⟩ := hrel
    have HJ := Lib.hid hjg
    have hjl : j ≤ n.cells.length := by omega
    clear hjg
    by_cases hlt : j < n.cells.length
    · have hs : n.cells[j]? = some n.cells[j] := List.getElem?_eq_getElem hlt
      generalize n.cells[j] = x at hs
      have HS := Lib.hid (map_step (f := Ce.reset) hs)
      obtain ⟨bb, off, rfl, -, d0, d1, d2, d3⟩ := (H3.out.gr (Gr.trans BW.out HW.out)) j x hs
      clear hs
      have hi1 : (j : Int) < (n.cells.length : Int) := by omega
      have hi0 : (0 : Int) ≤ (j : Int) := by omega
      have hws := HW.out.size
      go_wp2_with (first
            | (at_builtin; refine wpList_append_own _ rfl _ _ 42 rfl W0.heap.size 3 i0 (.int .i64 0) 1 8 Try.underlying42 HI.out.1 HI.out.2.1 HI.out.2.2.1 HI.out.2.2.2 rfl (by decide) _ _ _ rfl ((HO.out.alloc _).alloc _) ⟨wr.heap.size + 1, 0, none⟩ 1 1 [.int .i64 (x.reset)] rfl rfl (fun j' u hj => by have := int_new (wr.alloc (.cells #[.string x.s, .int .i64 x.node, .int .i64 x.next, .int .i64 x.reset] 60)) (.int .i64 (x.reset)) 3 j' u hj; simpa using this) (fun x hx => by simp at hx; subst hx; rfl) (by unfold maxLen; omega) (by omega) (by simp; omega) ?_; intro v' w3 hown' hgrow3 hnil3; have HO3 := Lib.hid hown'; have HB3 := Lib.hid (app_row (HO.out.alloc (.cells #[.string x.s, .int .i64 x.node, .int .i64 x.next, .int .i64 x.reset] 60)) (HW.out.alloc hws _) hgrow3); clear hown' hgrow3 hnil3)
            | fail)
      go_roundg (gk - 1)
      case measure => have := HJ.out; omega
      case rel => exact ⟨j + 1, by have := HJ.out; omega, by go_num, Lib.hid (by rw [HS.out, icells_snoc]; exact HO3.out), HB3⟩
    · have hjn : j = n.cells.length := by omega
      subst hjn
      have HFR := Lib.hid HO.out.lt
      have hrow := ints_of_own HO.out (by rw [List.length_map, List.length_take]; omega)
      rw [List.take_length] at hrow
      clear HO
      have HR := Lib.hid hrow
      clear hrow
      go_wp2_with fail
      go_ret
      exact ⟨_, rfl, HR.out, Gr.trans BW.out HW.out, fun b hb => Nat.le_trans BW.out.size (HFR.out b hb).1⟩
set_option maxRecDepth 100000 in
set_option maxHeartbeats 4000000 in
theorem After_any (n : Nt) (v sv iv : Value) (ma : List Int) (w : World) (hs : Sz n) (hn : Hid (NtAt w n v)) (hma : ma.length ≤ 4000)
    (hev : Hid (∀ u, Gr w u → Calls Try.prog 26 #[v, sv, iv] u (RowRet u ma))) :
    Calls Try.prog 25 #[v, sv, iv] w (RowRet w (n.cells.map (fun c : Ce => getA ma c.next))) := by
  obtain ⟨z1, z2, z3, z4, z5⟩ := hs
  obtain ⟨A1, A2, A3, A4, A5, c1, c2, c3, c4, c5, rfl, hc1, h1, h2, h3, h4, h5⟩ := hn.out
  have H1 := Lib.hid h1
  have H2 := Lib.hid h2
  have H3 := Lib.hid h3
  have H4 := Lib.hid h4
  have H5 := Lib.hid h5
  clear h1 h2 h3 h4 h5
  obtain ⟨W0, eW, BW, KEEP⟩ : ∃ W0, w.alloc (.cells (bxC n A1 A2 A3 A4 A5 c1 c2 c3 c4 c5) 27) = W0 ∧ Hid (Gr w W0) ∧ Hid (∀ u, Gr W0 u → BxAt u w.heap.size n A1 A2 A3 A4 A5 c1 c2 c3 c4 c5) :=
    ⟨_, rfl, Lib.hid (bel_alloc _ _), Lib.hid fun u hu => bx_gr (bx_new w n A1 A2 A3 A4 A5 c1 c2 c3 c4 c5) (by simp) hu⟩
  obtain ⟨e0, e1, e2, e3, e4⟩ := KEEP.out W0 (Gr.refl _)
  obtain ⟨i0, hi, hz0, hz1, hz2⟩ := info_parts info3
  have HI := Lib.hid (And.intro hi (And.intro hz0 (And.intro hz1 hz2)))
  clear hi hz0 hz1 hz2
  have EV := Lib.hid (hev.out _ BW.out)
  clear hev
  go_enter Try.func25, Try.ntmps25
  go_wp2_with fail
  try rw [eW]
  refine EV.out.mono ?_
  rintro e w1 ⟨v1, rfl, hi1, hg1, -⟩
  obtain ⟨Am, cm, rfl, -, him⟩ := hi1
  have HM := Lib.hid him
  have HG := Lib.hid hg1
  clear him hg1 eW e0 e1 e2 e3 e4
  obtain ⟨e0, e1, e2, e3, e4⟩ := KEEP.out _ HG.out
  go_wp2_with fail
  go_loopg [8, 18] n.cells.length (fun g v i wr => ∃ j : Nat, j + g = n.cells.length ∧ i = .int .i64 j ∧ Hid (wr.ownsRow w1.heap.size 3 1 v j (icells ((n.cells.take j).map (fun c : Ce => getA ma c.next)))) ∧ Hid (Gr w1 wr))
  case atStart => exact ⟨0, by omega, rfl, Lib.hid (World.ownsRow_nil _ _ _ _), Lib.hid (Gr.refl _)⟩
  case round =>
    obtain ⟨j, hjg, rfl, HO, HW⟩ := hrel
    have HJ := Lib.hid hjg
    have hjl : j ≤ n.cells.length := by omega
    clear hjg
    by_cases hlt : j < n.cells.length
    · have hs : n.cells[j]? = some n.cells[j] := List.getElem?_eq_getElem hlt
      generalize n.cells[j] = x at hs
      have HS := Lib.hid (map_step (f := (fun c : Ce => getA ma c.next)) hs)
      obtain ⟨bb, off, rfl, -, d0, d1, d2, d3⟩ := (H3.out.gr (Gr.trans BW.out (Gr.trans HG.out HW.out))) j x hs
      clear hs
      have hi1 : (j : Int) < (n.cells.length : Int) := by omega
      have hi0 : (0 : Int) ≤ (j : Int) := by omega
      have hws := HW.out.size
      have AT := Lib.hid (at_any Am cm _ ma x.next (wr.alloc (.cells #[.string x.s, .int .i64 x.node, .int .i64 x.next, .int .i64 x.reset] 60)) hma (Lib.hid (HM.out.gr (Gr.trans HW.out (bel_alloc _ _)))))
      generalize getA ma x.next = r at AT HS
      go_wp2_with fail
      refine AT.out.mono ?_
      rintro e w' ⟨rfl, rfl⟩
      go_wp2_with (first
          | (at_builtin; refine wpList_append_own _ rfl _ _ 42 rfl w1.heap.size 3 i0 (.int .i64 0) 1 8 Try.underlying42 HI.out.1 HI.out.2.1 HI.out.2.2.1 HI.out.2.2.2 rfl (by decide) _ _ _ rfl ((HO.out.alloc _).alloc _) ⟨wr.heap.size + 1, 0, none⟩ 1 1 [.int .i64 (r)] rfl rfl (fun j' u hj => by have := int_new (wr.alloc (.cells #[.string x.s, .int .i64 x.node, .int .i64 x.next, .int .i64 x.reset] 60)) (.int .i64 (r)) 3 j' u hj; simpa using this) (fun x hx => by simp at hx; subst hx; rfl) (by unfold maxLen; omega) (by omega) (by simp; omega) ?_; intro v' w3 hown' hgrow3 hnil3; have HO3 := Lib.hid hown'; have HB3 := Lib.hid (app_row (HO.out.alloc (.cells #[.string x.s, .int .i64 x.node, .int .i64 x.next, .int .i64 x.reset] 60)) (HW.out.alloc hws _) hgrow3); clear hown' hgrow3 hnil3)
          | fail)
      go_roundg (gk - 1)
      case measure => have := HJ.out; omega
      case rel => exact ⟨j + 1, by have := HJ.out; omega, by go_num, Lib.hid (by rw [HS.out, icells_snoc]; exact HO3.out), HB3⟩
    · have hjn : j = n.cells.length := by omega
      subst hjn
      have HFR := Lib.hid HO.out.lt
      have hrow := ints_of_own HO.out (by rw [List.length_map, List.length_take]; omega)
      rw [List.take_length] at hrow
      have HR := Lib.hid hrow
      clear hrow HO
      go_wp2_with fail
      go_ret
      exact ⟨_, rfl, HR.out, Gr.trans BW.out (Gr.trans HG.out HW.out), fun b hb => Nat.le_trans (Gr.trans BW.out HG.out).size (HFR.out b hb).1⟩
def NSame (a b : Nt) : Prop := a.nodes = b.nodes ∧ a.ins = b.ins ∧ a.cells = b.cells ∧ a.props = b.props ∧ a.names = b.names
end Go.Proofs.Ytmnblcnhbafcpaa
