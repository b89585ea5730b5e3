/-
  Rows, WALKED.
-/
import Derived.Test.YtnkifhgkhgialaaNLwa
import Derived.Test.YtnkifhgkhgialaaNDoj
namespace Go.Proofs.Ytnkifhgkhgialaa
open Go.RowKit
open NetM
open VecM

/-- a number of raw ones, of so many bits -/
def rowG (l : List Nd) (ps : List Int) (a : List Nat) (i : Nat) : Nat := (a[i]?.getD 0) % 2 ^ (widA l (ps[i]?.getD (-1))).toNat
def rowOf (l : List Nd) (ps : List Int) (a : List Nat) : List Nat := (List.range ps.length).map (rowG l ps a)
def stOf (n : Nt) (a : List Nat) : List Nat := rowOf n.nodes (n.cells.map Ce.node) a
def inOf (n : Nt) (a : List Nat) : List Nat := rowOf n.nodes (n.ins.map Pn.node) a
theorem row_step (g : Nat → Nat) (j : Nat) : (List.range (j + 1)).map g = (List.range j).map g ++ [g j] := by rw [List.range_succ]; simp
theorem stOf_len (n : Nt) (a : List Nat) : (stOf n a).length = n.cells.length := by simp [stOf, rowOf]
theorem inOf_len (n : Nt) (a : List Nat) : (inOf n a).length = n.ins.length := by simp [inOf, rowOf]
set_option maxRecDepth 100000 in
set_option maxHeartbeats 10000000 in
theorem Rows_any (n : Nt) (v : Value) (Pa Pb : Option Addr) (ca cb : Nat) (a b : List Nat) (w : World) (hs : Sz n) (hn : Hid (NtAt w n v)) (hw : WOk n.nodes) (hcm : n.cells.map Ce.node = places n.nodes 22) (him : n.ins.map Pn.node = places n.nodes 21)
    (ha : a.length ≤ maxLen) (hb : b.length ≤ maxLen) (hA : Hid (U16s w w.heap.size Pa a)) (hB : Hid (U16s w w.heap.size Pb b)) (ha2 : Hid (∀ x ∈ a, x < 65536)) (hb2 : Hid (∀ x ∈ b, x < 65536)) :
    Calls Try.prog 16 #[v, .slice Pa a.length ca, .slice Pb b.length cb] w fun e w' => ∃ v1 v2, e = .returned (.tuple #[v1, v2]) ∧ IntR w' v1 (ofN (stOf n a)) ∧ IntR w' v2 (ofN (inOf n b)) ∧ Gr w w' := by
  unfold maxLen at ha hb
  obtain ⟨z1, z2, z3, z4, z5⟩ := hs
  obtain ⟨A1, A2, A3, A4, A5, c1, c2, c3, c4, c5, rfl, hc1, h1, h2, h3, h4, h5⟩ := hn.out
  have H1 := Lib.hid h1
  have H2 := Lib.hid h2
  have H3 := Lib.hid h3
  have H4 := Lib.hid h4
  have H5 := Lib.hid h5
  clear h1 h2 h3 h4 h5
  obtain ⟨W0, eW, BW, KEEP⟩ : ∃ W0, w.alloc (.cells (bxC n A1 A2 A3 A4 A5 c1 c2 c3 c4 c5) 27) = W0 ∧ Hid (Gr w W0) ∧ Hid (∀ u, Gr W0 u → BxAt u w.heap.size n A1 A2 A3 A4 A5 c1 c2 c3 c4 c5) :=
    ⟨_, rfl, Lib.hid (bel_alloc _ _), Lib.hid fun u hu => bx_gr (bx_new w n A1 A2 A3 A4 A5 c1 c2 c3 c4 c5) (by simp) hu⟩
  obtain ⟨e0, e1, e2, e3, e4⟩ := KEEP.out W0 (Gr.refl _)
  obtain ⟨i0, hi, hz0, hz1, hz2⟩ := info_parts info3
  have HI := Lib.hid (And.intro hi (And.intro hz0 (And.intro hz1 hz2)))
  clear hi hz0 hz1 hz2
  have HCM := Lib.hid hcm
  have HIM := Lib.hid him
  clear hcm him
  go_enter Try.func16, Try.ntmps16
  go_wp2_with fail
  try rw [eW]
  clear eW
  go_loopg [8, 10] n.cells.length (fun g v i wr => ∃ j : Nat, j + g = n.cells.length ∧ i = .int .i64 j ∧ Hid (wr.ownsRow W0.heap.size 3 1 v j (icells (ofN ((List.range j).map (rowG n.nodes (n.cells.map Ce.node) a))))) ∧ Hid (Gr W0 wr))
  case atStart => exact ⟨0, by omega, rfl, Lib.hid (World.ownsRow_nil _ _ _ _), Lib.hid (Gr.refl _)⟩
  case round =>
    obtain ⟨j, hjg, rfl, HO, HW⟩ := hrel
    have HJ := Lib.hid hjg
    have hjl : j ≤ n.cells.length := by omega
    clear hjg
    have HWW := Lib.hid (Gr.trans (Gr.refl _) HW.out)
    obtain ⟨e0, e1, e2, e3, e4⟩ := KEEP.out _ HWW.out
    have hws := HW.out.size
    by_cases hlt : j < n.cells.length
    case pos =>
      have hs : n.cells[j]? = some n.cells[j] := List.getElem?_eq_getElem hlt
      generalize n.cells[j] = x at hs
      have HS := Lib.hid hs
      have hi1 : (j : Int) < (n.cells.length : Int) := by omega
      have hi0 : (0 : Int) ≤ (j : Int) := by omega
      have RS := Lib.hid (row_step (rowG n.nodes (n.cells.map Ce.node) a) j)
      obtain ⟨r, hr⟩ : ∃ r, rowG n.nodes (n.cells.map Ce.node) a j = r := ⟨_, rfl⟩
      rw [hr] at RS
      have hr2 : (a[j]?.getD 0) % 2 ^ (widA n.nodes x.node).toNat = r := by rw [← hr]; unfold rowG; rw [List.getElem?_map, hs]; rfl
      clear hr
      by_cases hja : j < a.length
      case neg =>
        have hja2 : ¬ (j : Int) < (a.length : Int) := by omega
        rw [List.getElem?_eq_none (by omega)] at hr2
        simp only [Option.getD_none, Nat.zero_mod] at hr2
        subst hr2
        go_wp2_with (at_builtin; refine wpList_append_own _ rfl _ _ 32 rfl W0.heap.size 3 i0 (.int .i64 0) 1 8 Try.underlying32 HI.out.1 HI.out.2.1 HI.out.2.2.1 HI.out.2.2.2 rfl (by decide) _ _ _ rfl (HO.out.alloc _) ⟨wr.heap.size, 0, none⟩ 1 1 [.int .i64 0] rfl rfl (fun j' u hj => by have := int_new wr (.int .i64 0) 3 j' u hj; simpa using this) (fun x hx => by simp at hx; subst hx; rfl) (by unfold maxLen; omega) (by omega) (by simp; omega) ?_; intro v' w3 hown' hgrow3 hnil3; have HO3 := Lib.hid hown'; have HB3 := Lib.hid (app_row HO.out HW.out hgrow3); clear hown' hgrow3 hnil3)
        go_roundg (gk - 1)
        case measure => have := HJ.out; omega
        case rel => exact ⟨j + 1, by have := HJ.out; omega, by go_num, Lib.hid (by rw [RS.out, ofN_snoc, icells_snoc]; exact HO3.out), HB3⟩
      case pos =>
        have hja2 : (j : Int) < (a.length : Int) := by omega
        have hsa : a[j]? = some a[j] := List.getElem?_eq_getElem hja
        generalize a[j] = y at hsa
        rw [hsa] at hr2
        simp only [Option.getD_some] at hr2
        have hy2 := ha2.out y (List.mem_of_getElem? hsa)
        obtain ⟨ba, offa, rfl, -, f0⟩ := (hA.out.gr (Gr.trans BW.out HWW.out)) j y hsa
        obtain ⟨bb, off, rfl, -, d0, d1, d2, d3⟩ := (H3.out.gr (Gr.trans BW.out HWW.out)) j x hs
        obtain ⟨k, yn, hk, hyn, -⟩ := places_mem (op := 22) (l := n.nodes) (p := x.node) (by rw [← HCM.out]; exact List.mem_map.2 ⟨x, List.mem_of_getElem? hs, rfl⟩)
        obtain ⟨by1, offy, rfl, -, y0, y1, y2, y3, y4, y5, y6⟩ := (H1.out.gr (Gr.trans BW.out HWW.out)) k yn hyn
        have hkl : k < n.nodes.length := (List.getElem?_eq_some_iff.1 hyn).1
        obtain ⟨hyw1, hyw2⟩ := hw yn (List.mem_of_getElem? hyn)
        have hww : widA n.nodes x.node = yn.w := by rw [hk]; exact widA_some hyn
        obtain ⟨mm, hm⟩ : ∃ m : Nat, yn.w = m := ⟨yn.w.toNat, by omega⟩
        rw [hww, hm, Int.toNat_natCast] at hr2
        obtain ⟨q, hq⟩ : ∃ q, 2 ^ mm - 1 = q := ⟨_, rfl⟩
        have MK := Lib.hid (show ∀ u, Calls Try.prog 24 #[.int .i64 yn.w] u fun e w' => e = .returned (.int .i64 (q : Nat)) ∧ w' = u from fun u => by rw [hm]; exact (rmask_is (k := mm) (by omega) hq u).mono fun e w' ⟨h1, h2⟩ => ⟨h1, h2.symm⟩)
        have hx := and_mask_nat (a := y) (k := mm) (by omega)
        rw [hq, hr2] at hx
        have hwy := wrap_nat (a := y) (by omega)
        rw [hk] at d1
        have hk1 : (k : Int) < (n.nodes.length : Int) := by omega
        have hk0 : (0 : Int) ≤ (k : Int) := by omega
        have HX := Lib.hid hx
        clear hs hsa hyn hk hww hm hq hr2
        go_wp2_with fail
        go_quiet ((go_at_call 24; exact Calls.quiet_of_same (MK.out _)))
        try rw [HX.out]
        have HOQ := Lib.hid (own_gr HO.out (Below.drewN (Gr.refl _) nq))
        have HWQ := Lib.hid (show Gr W0 (wr.drewN nq) from Below.drewN HW.out nq)
        go_wp2_with (at_builtin; refine wpList_append_own _ rfl _ _ 32 rfl W0.heap.size 3 i0 (.int .i64 0) 1 8 Try.underlying32 HI.out.1 HI.out.2.1 HI.out.2.2.1 HI.out.2.2.2 rfl (by decide) _ _ _ rfl (HOQ.out.alloc _) ⟨wr.heap.size, 0, none⟩ 1 1 [.int .i64 (r : Nat)] rfl rfl (fun j' u hj => by have := int_new (wr.drewN nq) (.int .i64 (r : Nat)) 3 j' u hj; simpa using this) (fun x hx => by simp at hx; subst hx; rfl) (by unfold maxLen; omega) (by omega) (by simp; omega) ?_; intro v' w3 hown' hgrow3 hnil3; have HO3 := Lib.hid hown'; have HB3 := Lib.hid (app_row HOQ.out HWQ.out hgrow3); clear hown' hgrow3 hnil3)
        go_roundg (gk - 1)
        case measure => have := HJ.out; omega
        case rel => exact ⟨j + 1, by have := HJ.out; omega, by go_num, Lib.hid (by rw [RS.out, ofN_snoc, icells_snoc]; exact HO3.out), HB3⟩
    have hjn : j = n.cells.length := by omega
    subst hjn
    have hrow := ints_of_own HO.out (by rw [ofN_len]; simp)
    have HR1 := Lib.hid (show IntR wr _ (ofN (stOf n a)) by unfold stOf rowOf; rw [List.length_map]; exact hrow)
    clear hrow
    obtain ⟨W2, eW2⟩ : ∃ W2, W2 = wr := ⟨_, rfl⟩
    subst eW2
    have G2 := Lib.hid HW.out
    clear HO HW HWW HJ
    go_wp2_with fail
    go_loopg [9, 12] n.ins.length (fun g v i wr => ∃ j : Nat, j + g = n.ins.length ∧ i = .int .i64 j ∧ Hid (wr.ownsRow W2.heap.size 3 1 v j (icells (ofN ((List.range j).map (rowG n.nodes (n.ins.map Pn.node) b))))) ∧ Hid (Gr W2 wr))
    case atStart => exact ⟨0, by omega, rfl, Lib.hid (World.ownsRow_nil _ _ _ _), Lib.hid (Gr.refl _)⟩
    case round =>
      obtain ⟨j, hjg, rfl, HO, HW⟩ := hrel
      have HJ := Lib.hid hjg
      have hjl : j ≤ n.ins.length := by omega
      clear hjg
      have HWW := Lib.hid (Gr.trans G2.out HW.out)
      obtain ⟨e0, e1, e2, e3, e4⟩ := KEEP.out _ HWW.out
      have hws := HW.out.size
      by_cases hlt : j < n.ins.length
      case pos =>
        have hs : n.ins[j]? = some n.ins[j] := List.getElem?_eq_getElem hlt
        generalize n.ins[j] = x at hs
        have HS := Lib.hid hs
        have hi1 : (j : Int) < (n.ins.length : Int) := by omega
        have hi0 : (0 : Int) ≤ (j : Int) := by omega
        have RS := Lib.hid (row_step (rowG n.nodes (n.ins.map Pn.node) b) j)
        obtain ⟨r, hr⟩ : ∃ r, rowG n.nodes (n.ins.map Pn.node) b j = r := ⟨_, rfl⟩
        rw [hr] at RS
        have hr2 : (b[j]?.getD 0) % 2 ^ (widA n.nodes x.node).toNat = r := by rw [← hr]; unfold rowG; rw [List.getElem?_map, hs]; rfl
        clear hr
        by_cases hja : j < b.length
        case neg =>
          have hja2 : ¬ (j : Int) < (b.length : Int) := by omega
          rw [List.getElem?_eq_none (by omega)] at hr2
          simp only [Option.getD_none, Nat.zero_mod] at hr2
          subst hr2
          go_wp2_with (at_builtin; refine wpList_append_own _ rfl _ _ 32 rfl W2.heap.size 3 i0 (.int .i64 0) 1 8 Try.underlying32 HI.out.1 HI.out.2.1 HI.out.2.2.1 HI.out.2.2.2 rfl (by decide) _ _ _ rfl (HO.out.alloc _) ⟨wr.heap.size, 0, none⟩ 1 1 [.int .i64 0] rfl rfl (fun j' u hj => by have := int_new wr (.int .i64 0) 3 j' u hj; simpa using this) (fun x hx => by simp at hx; subst hx; rfl) (by unfold maxLen; omega) (by omega) (by simp; omega) ?_; intro v' w3 hown' hgrow3 hnil3; have HO3 := Lib.hid hown'; have HB3 := Lib.hid (app_row HO.out HW.out hgrow3); clear hown' hgrow3 hnil3)
          go_roundg (gk - 1)
          case measure => have := HJ.out; omega
          case rel => exact ⟨j + 1, by have := HJ.out; omega, by go_num, Lib.hid (by rw [RS.out, ofN_snoc, icells_snoc]; exact HO3.out), HB3⟩
        case pos =>
          have hja2 : (j : Int) < (b.length : Int) := by omega
          have hsa : b[j]? = some b[j] := List.getElem?_eq_getElem hja
          generalize b[j] = y at hsa
          rw [hsa] at hr2
          simp only [Option.getD_some] at hr2
          have hy2 := hb2.out y (List.mem_of_getElem? hsa)
          obtain ⟨ba, offa, rfl, -, f0⟩ := (hB.out.gr (Gr.trans BW.out HWW.out)) j y hsa
          obtain ⟨bb, off, rfl, -, d0, d1⟩ := (H2.out.gr (Gr.trans BW.out HWW.out)) j x hs
          obtain ⟨k, yn, hk, hyn, -⟩ := places_mem (op := 21) (l := n.nodes) (p := x.node) (by rw [← HIM.out]; exact List.mem_map.2 ⟨x, List.mem_of_getElem? hs, rfl⟩)
          obtain ⟨by1, offy, rfl, -, y0, y1, y2, y3, y4, y5, y6⟩ := (H1.out.gr (Gr.trans BW.out HWW.out)) k yn hyn
          have hkl : k < n.nodes.length := (List.getElem?_eq_some_iff.1 hyn).1
          obtain ⟨hyw1, hyw2⟩ := hw yn (List.mem_of_getElem? hyn)
          have hww : widA n.nodes x.node = yn.w := by rw [hk]; exact widA_some hyn
          obtain ⟨mm, hm⟩ : ∃ m : Nat, yn.w = m := ⟨yn.w.toNat, by omega⟩
          rw [hww, hm, Int.toNat_natCast] at hr2
          obtain ⟨q, hq⟩ : ∃ q, 2 ^ mm - 1 = q := ⟨_, rfl⟩
          have MK := Lib.hid (show ∀ u, Calls Try.prog 24 #[.int .i64 yn.w] u fun e w' => e = .returned (.int .i64 (q : Nat)) ∧ w' = u from fun u => by rw [hm]; exact (rmask_is (k := mm) (by omega) hq u).mono fun e w' ⟨h1, h2⟩ => ⟨h1, h2.symm⟩)
          have hx := and_mask_nat (a := y) (k := mm) (by omega)
          rw [hq, hr2] at hx
          have hwy := wrap_nat (a := y) (by omega)
          rw [hk] at d1
          have hk1 : (k : Int) < (n.nodes.length : Int) := by omega
          have hk0 : (0 : Int) ≤ (k : Int) := by omega
          have HX := Lib.hid hx
          clear hs hsa hyn hk hww hm hq hr2
          go_wp2_with fail
          go_quiet ((go_at_call 24; exact Calls.quiet_of_same (MK.out _)))
          try rw [HX.out]
          have HOQ := Lib.hid (own_gr HO.out (Below.drewN (Gr.refl _) nq))
          have HWQ := Lib.hid (show Gr W2 (wr.drewN nq) from Below.drewN HW.out nq)
          go_wp2_with (at_builtin; refine wpList_append_own _ rfl _ _ 32 rfl W2.heap.size 3 i0 (.int .i64 0) 1 8 Try.underlying32 HI.out.1 HI.out.2.1 HI.out.2.2.1 HI.out.2.2.2 rfl (by decide) _ _ _ rfl (HOQ.out.alloc _) ⟨wr.heap.size, 0, none⟩ 1 1 [.int .i64 (r : Nat)] rfl rfl (fun j' u hj => by have := int_new (wr.drewN nq) (.int .i64 (r : Nat)) 3 j' u hj; simpa using this) (fun x hx => by simp at hx; subst hx; rfl) (by unfold maxLen; omega) (by omega) (by simp; omega) ?_; intro v' w3 hown' hgrow3 hnil3; have HO3 := Lib.hid hown'; have HB3 := Lib.hid (app_row HOQ.out HWQ.out hgrow3); clear hown' hgrow3 hnil3)
          go_roundg (gk - 1)
          case measure => have := HJ.out; omega
          case rel => exact ⟨j + 1, by have := HJ.out; omega, by go_num, Lib.hid (by rw [RS.out, ofN_snoc, icells_snoc]; exact HO3.out), HB3⟩
      have hjn : j = n.ins.length := by omega
      subst hjn
      have hrow := ints_of_own HO.out (by rw [ofN_len]; simp)
      have HR2 := Lib.hid (show IntR wr _ (ofN (inOf n b)) by unfold inOf rowOf; rw [List.length_map]; exact hrow)
      clear hrow
      go_wp2_with fail
      go_ret2
      exact ⟨_, _, rfl, HR1.out.gr HW.out, HR2.out, Gr.trans BW.out HWW.out⟩
end Go.Proofs.Ytnkifhgkhgialaa
