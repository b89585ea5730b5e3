/-
  NetFits, WALKED.
-/
import Derived.Test.YtnkifhgkhgialaaNHed
import Derived.Test.YtnkifhgkhgialaaNMth
namespace Go.Proofs.Ytnkifhgkhgialaa
open Go.RowKit
open NetM

set_option maxRecDepth 100000 in
set_option maxHeartbeats 16000000 in
theorem fits_walk (n : Nt) (v : Value) (Pa Pb : Option Addr) (ca cb : Nat) (a b : List Nat) (w : World) (hn : Hid (NtAt w n v)) (ha : a.length ≤ maxLen) (ha2 : Hid (∀ x ∈ a, x < 65536)) (hA : Hid (U16s w w.heap.size Pa a)) (hb : b.length ≤ maxLen) (hb2 : Hid (∀ x ∈ b, x < 65536)) (hB : Hid (U16s w w.heap.size Pb b)) :
    Calls Try.prog 4 #[v, .slice Pa a.length ca, .slice Pb b.length cb] w fun e w' => e = .returned (.bool true) ∧ Gr w w' := by
  have HV := Lib.hid (fun (u : World) (hu : Gr w u) => hn.out.gr hu)
  obtain ⟨A1, A2, A3, A4, A5, c1, c2, c3, c4, c5, rfl, hc1, h1, h2, h3, h4, h5⟩ := hn.out
  have H1 := Lib.hid h1
  have H2 := Lib.hid h2
  have H3 := Lib.hid h3
  have H4 := Lib.hid h4
  have H5 := Lib.hid h5
  clear h1 h2 h3 h4 h5
  obtain ⟨W0, eW, BW, KEEP⟩ : ∃ W0, w.alloc (.cells (bxC n A1 A2 A3 A4 A5 c1 c2 c3 c4 c5) 27) = W0 ∧ Hid (Gr w W0) ∧ Hid (∀ u, Gr W0 u → BxAt u w.heap.size n A1 A2 A3 A4 A5 c1 c2 c3 c4 c5) :=
    ⟨_, rfl, Lib.hid (bel_alloc _ _), Lib.hid fun u hu => bx_gr (bx_new w n A1 A2 A3 A4 A5 c1 c2 c3 c4 c5) (by simp) hu⟩
  obtain ⟨e0, e1, e2, e3, e4⟩ := KEEP.out W0 (Gr.refl _)
  have H0 := Lib.hid head_any
  obtain ⟨gb, hgb⟩ : ∃ gb : Bool, gb = true ↔ NGreat n := by classical exact ⟨decide _, decide_eq_true_iff⟩
  obtain ⟨rb, hrb⟩ : ∃ rb : Bool, rb = true ↔ NRight n := by classical exact ⟨decide _, decide_eq_true_iff⟩
  have GC := Lib.hid (fun (u : World) (hu : Gr w u) => Great_any n _ u (Lib.hid (HV.out u hu)) gb (Lib.hid hgb))
  go_enter Try.func4, Try.ntmps4
  go_wp2_with fail
  try rw [eW]
  clear eW
  refine (H0.out _).mono ?_
  rintro e w1 ⟨rfl, hg⟩
  have G1 := Lib.hid hg
  clear hg e0 e1 e2 e3 e4
  obtain ⟨e0, e1, e2, e3, e4⟩ := KEEP.out _ G1.out
  go_wp2_with fail
  refine (GC.out _ (Gr.trans BW.out G1.out)).mono ?_
  rintro e w2 ⟨rfl, hg⟩
  have G2 := Lib.hid (Gr.trans G1.out hg)
  clear hg e0 e1 e2 e3 e4
  obtain ⟨e0, e1, e2, e3, e4⟩ := KEEP.out _ G2.out
  cases gb with
  | true =>
    go_wp2_with fail
    go_ret
    exact ⟨rfl, Gr.trans BW.out G2.out⟩
  | false =>
  have hz := sz_of (fun h => by have := hgb.2 h; simp at this)
  have hs : Sz n := by unfold Sz; omega
  have RC := Lib.hid (fun (u : World) (hu : Gr w u) => RRight_any n _ u hs (Lib.hid (HV.out u hu)) rb (Lib.hid hrb))
  clear hgb GC
  go_wp2_with fail
  refine (RC.out _ (Gr.trans BW.out G2.out)).mono ?_
  rintro e w3 ⟨rfl, hg⟩
  have G3 := Lib.hid (Gr.trans G2.out hg)
  clear hg e0 e1 e2 e3 e4 RC
  obtain ⟨e0, e1, e2, e3, e4⟩ := KEEP.out _ G3.out
  cases rb with
  | false =>
    go_wp2_with fail
    go_ret
    exact ⟨rfl, Gr.trans BW.out G3.out⟩
  | true =>
  have hR := hrb.1 rfl
  clear hrb
  have hw := wok_of hR.1
  have hC := hR.2.2.1.1
  have hI := hR.2.1.2
  have RW := Lib.hid (fun (u : World) (hu : Gr w u) => Rows_any n _ Pa Pb ca cb a b u hs (Lib.hid (HV.out u hu)) hw hC hI ha hb (Lib.hid (hA.out.gr hu)) (Lib.hid (hB.out.gr hu)) ha2 hb2)
  have HSO := Lib.hid (stOf_ok n a)
  have HIO := Lib.hid (inOf_ok n b)
  go_wp2_with fail
  refine (RW.out _ (Gr.trans BW.out G3.out)).mono ?_
  rintro e w4 ⟨sv, iv, rfl, hsv, hiv, hg⟩
  have HSV := Lib.hid hsv
  have HIV := Lib.hid hiv
  have G4 := Lib.hid (Gr.trans G3.out hg)
  obtain ⟨As, cs, rfl, hcs, -⟩ := hsv
  obtain ⟨Ai, ci, rfl, hci, -⟩ := hiv
  rw [ofN_len, stOf_len] at hcs HSV ⊢
  rw [ofN_len, inOf_len] at hci HIV ⊢
  clear hg e0 e1 e2 e3 e4 RW
  obtain ⟨e0, e1, e2, e3, e4⟩ := KEEP.out _ G4.out
  have HLT := Lib.hid (evL_lt hR.1 hC hI HSO.out HIO.out n.nodes.length (Nat.le_refl _))
  have HLM := Lib.hid (evL_lim hR HSO.out HIO.out)
  have EV := Lib.hid (fun (u : World) (hu : Gr w4 u) => Eval_any n _ _ _ (stOf n a) (inOf n b) u hs (Lib.hid (HV.out u (Gr.trans BW.out (Gr.trans G4.out hu)))) hR.1 (by rw [stOf_len]; omega) (by rw [inOf_len]; omega) (Lib.hid (HSV.out.gr hu)) (Lib.hid (HIV.out.gr hu)) HLM)
  have hvl : (evAll n (stOf n a) (inOf n b)).length = n.nodes.length := evL_len _ _ _ _ (Nat.le_refl _)
  obtain ⟨ev, hev⟩ : ∃ ev, evAll n (stOf n a) (inOf n b) = ev := ⟨_, rfl⟩
  rw [hev] at hvl
  have HLT : Hid (∀ (i : Nat) (x : Nd) (z : Nat), ev[i]? = some z → n.nodes[i]? = some x → z < 2 ^ x.w.toNat) := Lib.hid (by rw [← hev]; exact HLT.out)
  simp only [hev] at EV
  have AF := Lib.hid (fun (u : World) (hu : Gr w4 u) => After_any n _ _ _ (ofN ev) u hs (Lib.hid (HV.out u (Gr.trans BW.out (Gr.trans G4.out hu)))) (by rw [ofN_len]; omega) (Lib.hid fun u2 hu2 => EV.out u2 (Gr.trans hu hu2)))
  have FI := Lib.hid (fun (u : World) (hu : Gr w u) => First_any n _ u hs (Lib.hid (HV.out u hu)))
  clear hev HSO HIO HLM
  go_wp2_with fail
  refine (EV.out _ (Gr.refl _)).mono ?_
  rintro e w5 ⟨v5, rfl, hi, hg⟩
  obtain ⟨Av, cv, rfl, -, hiv5⟩ := hi
  rw [ofN_len, hvl]
  have E5 := Lib.hid hiv5
  have U5 := Lib.hid hg
  have G5 := Lib.hid (Gr.trans G4.out hg)
  clear hg hiv5 e0 e1 e2 e3 e4
  obtain ⟨e0, e1, e2, e3, e4⟩ := KEEP.out _ G5.out
  go_wp2_with fail
  refine (FI.out _ (Gr.trans BW.out G5.out)).mono ?_
  rintro e w6 ⟨v6, rfl, hi, hg⟩
  obtain ⟨Af, cf, rfl, -, hiv6⟩ := hi
  rw [List.length_map]
  have E6 := Lib.hid hiv6
  have U6 := Lib.hid (Gr.trans U5.out hg)
  have D5 := Lib.hid (E5.out.gr hg)
  have G6 := Lib.hid (Gr.trans G5.out hg)
  clear hg hiv6 e0 e1 e2 e3 e4
  obtain ⟨e0, e1, e2, e3, e4⟩ := KEEP.out _ G6.out
  go_wp2_with fail
  refine (AF.out _ U6.out).mono ?_
  rintro e w7 ⟨v7, rfl, hi, hg⟩
  obtain ⟨Ag, cg, rfl, -, hiv7⟩ := hi
  rw [List.length_map]
  have D7 := Lib.hid hiv7
  have D6 := Lib.hid (E6.out.gr hg)
  have D5 := Lib.hid (D5.out.gr hg)
  have G7 := Lib.hid (Gr.trans G6.out hg)
  clear hg hiv7 e0 e1 e2 e3 e4 EV AF FI E5 E6 U5 U6
  obtain ⟨e0, e1, e2, e3, e4⟩ := KEEP.out _ G7.out
  have N7 := Lib.hid (H1.out.gr (Gr.trans BW.out G7.out))
  have C7 := Lib.hid (H3.out.gr (Gr.trans BW.out G7.out))
  have HR := Lib.hid hR
  have q1 : ((n.nodes.length : Int) != (n.nodes.length : Int)) = false := by simp
  have q2 : ((n.cells.length : Int) != (n.cells.length : Int)) = false := by simp
  go_wp2_with fail
  go_loopg [13] n.nodes.length (fun g i wr => ∃ j : Nat, j + g = n.nodes.length ∧ i = .int .i64 j ∧ Hid (Gr w7 wr))
  case atStart => exact ⟨0, by omega, rfl, Lib.hid (Gr.refl _)⟩
  case round =>
    obtain ⟨j, hjg, rfl, HW⟩ := hrel
    obtain ⟨e0, e1, e2, e3, e4⟩ := KEEP.out _ (Gr.trans G7.out HW.out)
    have HJ := Lib.hid hjg
    have hjl : j ≤ n.nodes.length := by omega
    clear hjg
    by_cases hlt : j < n.nodes.length
    case pos =>
      have hsx : n.nodes[j]? = some n.nodes[j] := List.getElem?_eq_getElem hlt
      generalize n.nodes[j] = x at hsx
      have hsz : ev[j]? = some ev[j] := List.getElem?_eq_getElem (by omega)
      generalize ev[j] = z at hsz
      have hzx := HLT.out j x z hsz hsx
      obtain ⟨b1, o1, rfl, -, d0, d1, d2, d3, d4, d5, d6⟩ := (N7.out.gr HW.out) j x hsx
      obtain ⟨b2, o2, rfl, -, g0⟩ := (D5.out.gr HW.out) j _ (ofN_at hsz)
      obtain ⟨hw1, hw2⟩ := hw x (List.mem_of_getElem? hsx)
      obtain ⟨mm, hm⟩ : ∃ m : Nat, x.w = m := ⟨x.w.toNat, by omega⟩
      rw [hm, Int.toNat_natCast] at hzx
      obtain ⟨q, hq⟩ : ∃ q, 2 ^ mm - 1 = q := ⟨_, rfl⟩
      have MK := Lib.hid (show ∀ u, Calls Try.prog 24 #[.int .i64 x.w] u fun e w' => e = .returned (.int .i64 (q : Nat)) ∧ w' = u from fun u => by rw [hm]; exact (rmask_is (k := mm) (by omega) hq u).mono fun e w' ⟨h1, h2⟩ => ⟨h1, h2.symm⟩)
      have hi1 : (j : Int) < (n.nodes.length : Int) := by omega
      have hi0 : (0 : Int) ≤ (j : Int) := by omega
      have r1 : decide ((z : Int) < 0) = false := by simp
      have r2 : decide ((q : Int) < (z : Int)) = false := by simp; omega
      have r3 : decide (q < z) = false := by simp; omega
      clear hsx hsz hm hq hzx
      go_wp2_with fail
      go_quiet ((go_at_call 24; exact Calls.quiet_of_same (MK.out _)))
      go_wp2_with fail
      go_roundg (gk - 1)
      case measure => have := HJ.out; omega
      case rel => exact ⟨j + 1, by have := HJ.out; omega, by go_num, Lib.hid (Below.drewN HW.out _)⟩
    case neg =>
      go_wp2_with fail
      go_loopg [14] n.cells.length (fun g i wr => ∃ j : Nat, j + g = n.cells.length ∧ i = .int .i64 j ∧ Hid (Gr w7 wr))
      case atStart => exact ⟨0, by omega, rfl, HW⟩
      case round =>
        obtain ⟨j, hjg, rfl, HW⟩ := hrel
        obtain ⟨e0, e1, e2, e3, e4⟩ := KEEP.out _ (Gr.trans G7.out HW.out)
        have HJ := Lib.hid hjg
        have hjl : j ≤ n.cells.length := by omega
        clear hjg
        by_cases hlt : j < n.cells.length
        case pos =>
          have hsx : n.cells[j]? = some n.cells[j] := List.getElem?_eq_getElem hlt
          generalize n.cells[j] = x at hsx
          obtain ⟨ck1, ck2, ck3⟩ := HR.out.2.2.1.2.1 x (List.mem_of_getElem? hsx)
          obtain ⟨k, y, hk, hy, -⟩ := places_mem (op := 22) (l := n.nodes) (p := x.node) (by rw [← hC]; exact List.mem_map.2 ⟨x, List.mem_of_getElem? hsx, rfl⟩)
          have hwn : widA n.nodes x.node = y.w := by rw [hk]; exact widA_some hy
          rw [hwn] at ck1 ck3
          obtain ⟨hw1, hw2⟩ := hw y (List.mem_of_getElem? hy)
          obtain ⟨k2, y2, hk2, hy2, hkl2⟩ := opd_pos (show widA n.nodes x.next ≠ 0 by omega)
          have hwn2 : widA n.nodes x.next = y2.w := by rw [hk2]; exact widA_some hy2
          have hsz : ev[k2]? = some ev[k2] := List.getElem?_eq_getElem (by omega)
          generalize ev[k2] = z at hsz
          have hzx := HLT.out k2 y2 z hsz hy2
          rw [show y2.w = y.w by omega] at hzx
          obtain ⟨b1, o1, rfl, -, d0, d1, d2, d3⟩ := (C7.out.gr HW.out) j x hsx
          obtain ⟨b2, o2, rfl, -, g0⟩ := (D5.out.gr HW.out) k2 _ (ofN_at hsz)
          obtain ⟨b3, o3, rfl, -, f0⟩ := (D6.out.gr HW.out) j x.reset (by rw [List.getElem?_map, hsx]; rfl)
          obtain ⟨b4, o4, rfl, -, s0⟩ := (D7.out.gr HW.out) j (z : Int) (by rw [List.getElem?_map, hsx]; simp only [Option.map_some]; rw [hk2, getA_some (ofN_at hsz)])
          obtain ⟨b5, o5, rfl, -, y0, y1, y2', y3, y4, y5, y6⟩ := (N7.out.gr HW.out) k y hy
          obtain ⟨mm, hm⟩ : ∃ m : Nat, y.w = m := ⟨y.w.toNat, by omega⟩
          rw [hm, Int.toNat_natCast] at hzx ck3
          obtain ⟨q, hq⟩ : ∃ q, 2 ^ mm - 1 = q := ⟨_, rfl⟩
          rw [hq] at ck3
          have MK := Lib.hid (show ∀ u, Calls Try.prog 24 #[.int .i64 y.w] u fun e w' => e = .returned (.int .i64 (q : Nat)) ∧ w' = u from fun u => by rw [hm]; exact (rmask_is (k := mm) (by omega) hq u).mono fun e w' ⟨h1, h2⟩ => ⟨h1, h2.symm⟩)
          have hkl : k < n.nodes.length := (List.getElem?_eq_some_iff.1 hy).1
          have hi1 : (j : Int) < (n.cells.length : Int) := by omega
          have hi0 : (0 : Int) ≤ (j : Int) := by omega
          have hk1 : (k : Int) < (n.nodes.length : Int) := by omega
          have hk0 : (0 : Int) ≤ (k : Int) := by omega
          have hk3 : (k2 : Int) < (n.nodes.length : Int) := by omega
          have hk4 : (0 : Int) ≤ (k2 : Int) := by omega
          rw [hk] at d1
          rw [hk2] at d2
          have r1 : decide ((z : Int) < 0) = false := by simp
          have r2 : decide ((q : Int) < (z : Int)) = false := by simp; omega
          have r3 : decide (q < z) = false := by simp; omega
          have r4 : decide (x.reset < 0) = false := by simp; omega
          have r5 : decide ((q : Int) < x.reset) = false := by simp; omega
          have r6 : ((z : Int) != (z : Int)) = false := by simp
          clear hsx hsz hm hq hzx hk hk2 hy hy2 hwn hwn2 ck1 ck2 ck3
          go_wp2_with fail
          go_quiet ((go_at_call 24; exact Calls.quiet_of_same (MK.out _)))
          obtain ⟨n1, en1⟩ : ∃ n, nq = n := ⟨_, rfl⟩
          rw [en1]
          clear en1 nq
          go_wp2_with fail
          go_quiet (fail)
          go_wp2_with fail
          go_roundg (gk - 1)
          case measure => have := HJ.out; omega
          case rel => exact ⟨j + 1, by have := HJ.out; omega, by go_num, Lib.hid (by first | exact Below.drewN HW.out _ | exact Below.drewN (Below.drewN HW.out _) _)⟩
        case neg =>
          go_wp2_with fail
          go_ret
          exact ⟨rfl, Gr.trans BW.out (Gr.trans G7.out HW.out)⟩
end Go.Proofs.Ytnkifhgkhgialaa
