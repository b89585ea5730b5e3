/-
  NetHangs, WALKED.
-/
import Derived.Test.YtnkifhgkhgialaaNLah
import Derived.Test.YtnkifhgkhgialaaNRea
import Derived.Test.YtnkifhgkhgialaaNHan
import Derived.Test.YtnkifhgkhgialaaNHac
import Derived.Deep.CutRange
namespace Go.Proofs.Ytnkifhgkhgialaa
open Go.RowKit
open NetM
open VecM

theorem icells_set (l : List Nat) (k x : Nat) : icells (ofN (l.set k x)) = (icells (ofN l)).set k (.int .i64 (x : Nat)) := by
  unfold icells ofN
  simp [List.map_set]
/-- what holds where both ways meet: rows that differ at most in what hangs on one node */ -/
def HgP (n : Nt) (st ins : List Nat) (pin : Int) (st' ins' : List Nat) (v5 v6 : Value) (w4 wx : World) : Prop :=
  Gr w4 wx ∧ IntR wx v5 (ofN st') ∧ IntR wx v6 (ofN ins') ∧ StOk n st' ∧ InOk n ins' ∧ st'.length = n.cells.length ∧ ins'.length = n.ins.length ∧ (∀ i : Nat, (rcL n.nodes pin n.nodes.length)[i]? = some false → (evAll n st' ins')[i]? = (evAll n st ins)[i]?)
set_option maxRecDepth 100000 in
set_option maxHeartbeats 16000000 in
theorem hangs_walk (n : Nt) (v : Value) (x : Nat) (Pa Pb : Option Addr) (ca cb : Nat) (a b : List Nat) (z : Nat) (w : World) (hx16 : x < 65536) (hz16 : z < 65536) (hn : Hid (NtAt w n v)) (ha : a.length ≤ maxLen) (ha2 : Hid (∀ x ∈ a, x < 65536)) (hA : Hid (U16s w w.heap.size Pa a)) (hb : b.length ≤ maxLen) (hb2 : Hid (∀ x ∈ b, x < 65536)) (hB : Hid (U16s w w.heap.size Pb b)) :
    Calls Try.prog 6 #[v, .int .u16 (x : Nat), .slice Pa a.length ca, .slice Pb b.length cb, .int .u16 (z : Nat)] w fun e w' => e = .returned (.bool true) ∧ Gr w w' := by
  have HV := Lib.hid (fun (u : World) (hu : Gr w u) => hn.out.gr hu)
  obtain ⟨A1, A2, A3, A4, A5, c1, c2, c3, c4, c5, rfl, hc1, h1, h2, h3, h4, h5⟩ := hn.out
  have H1 := Lib.hid h1
  have H2 := Lib.hid h2
  have H3 := Lib.hid h3
  have H4 := Lib.hid h4
  have H5 := Lib.hid h5
  clear h1 h2 h3 h4 h5
  obtain ⟨W0, eW, BW, KEEP⟩ : ∃ W0, w.alloc (.cells (bxC n A1 A2 A3 A4 A5 c1 c2 c3 c4 c5) 27) = W0 ∧ Hid (Gr w W0) ∧ Hid (∀ u, Gr W0 u → BxAt u w.heap.size n A1 A2 A3 A4 A5 c1 c2 c3 c4 c5) :=
    ⟨_, rfl, Lib.hid (bel_alloc _ _), Lib.hid fun u hu => bx_gr (bx_new w n A1 A2 A3 A4 A5 c1 c2 c3 c4 c5) (by simp) hu⟩
  obtain ⟨e0, e1, e2, e3, e4⟩ := KEEP.out W0 (Gr.refl _)
  have H0 := Lib.hid head_any
  obtain ⟨gb, hgb⟩ : ∃ gb : Bool, gb = true ↔ NGreat n := by classical exact ⟨decide _, decide_eq_true_iff⟩
  obtain ⟨rb, hrb⟩ : ∃ rb : Bool, rb = true ↔ NRight n := by classical exact ⟨decide _, decide_eq_true_iff⟩
  have GC := Lib.hid (fun (u : World) (hu : Gr w u) => Great_any n _ u (Lib.hid (HV.out u hu)) gb (Lib.hid hgb))
  go_enter Try.func6, Try.ntmps6
  go_wp2_with fail
  try rw [eW]
  clear eW
  refine (H0.out _).mono ?_
  rintro e w1 ⟨rfl, hg⟩
  have G1 := Lib.hid hg
  clear hg e0 e1 e2 e3 e4
  obtain ⟨e0, e1, e2, e3, e4⟩ := KEEP.out _ G1.out
  go_wp2_with fail
  refine (GC.out _ (Gr.trans BW.out G1.out)).mono ?_
  rintro e w2 ⟨rfl, hg⟩
  have G2 := Lib.hid (Gr.trans G1.out hg)
  clear hg e0 e1 e2 e3 e4
  obtain ⟨e0, e1, e2, e3, e4⟩ := KEEP.out _ G2.out
  cases gb with
  | true =>
    go_wp2_with fail
    all_goals
      go_ret
      exact ⟨rfl, Gr.trans BW.out G2.out⟩
  | false =>
  have hz := sz_of (fun h => by have := hgb.2 h; simp at this)
  have hs : Sz n := by unfold Sz; omega
  have RC := Lib.hid (fun (u : World) (hu : Gr w u) => RRight_any n _ u hs (Lib.hid (HV.out u hu)) rb (Lib.hid hrb))
  clear hgb GC
  go_wp2_with fail
  refine (RC.out _ (Gr.trans BW.out G2.out)).mono ?_
  rintro e w3 ⟨rfl, hg⟩
  have G3 := Lib.hid (Gr.trans G2.out hg)
  clear hg e0 e1 e2 e3 e4 RC
  obtain ⟨e0, e1, e2, e3, e4⟩ := KEEP.out _ G3.out
  cases rb with
  | false =>
    go_wp2_with fail
    all_goals
      go_ret
      exact ⟨rfl, Gr.trans BW.out G3.out⟩
  | true =>
  have hR := hrb.1 rfl
  clear hrb
  have hw := wok_of hR.1
  have hC := hR.2.2.1.1
  have hI := hR.2.1.2
  have hsw : IntKind.i64.wrap ((n.ins.length : Int) + (n.cells.length : Int)) = ((n.ins.length + n.cells.length : Nat) : Int) := by rw [wrap_int (by omega) (by omega)]; omega
  by_cases hz0 : n.ins.length + n.cells.length = 0
  · have q0 : (((n.ins.length + n.cells.length : Nat) : Int) == 0) = true := by rw [hz0]; rfl
    have hza : n.ins.length = 0 := by omega
    have hzb : n.cells.length = 0 := by omega
    have q1 : (IntKind.i64.wrap ((n.ins.length : Int) + (n.cells.length : Int)) == 0) = true := by rw [hsw]; exact q0
    clear hz0
    go_wp2_with fail
    all_goals
      go_ret
      exact ⟨rfl, Gr.trans BW.out G3.out⟩
  have q1 : (IntKind.i64.wrap ((n.ins.length : Int) + (n.cells.length : Int)) == 0) = false := by rw [hsw]; exact beq_eq_false_iff_ne.2 (by omega)
  have RW := Lib.hid (fun (u : World) (hu : Gr w u) => Rows_any n _ Pa Pb ca cb a b u hs (Lib.hid (HV.out u hu)) hw hC hI ha hb (Lib.hid (hA.out.gr hu)) (Lib.hid (hB.out.gr hu)) ha2 hb2)
  have HSO := Lib.hid (stOf_ok n a)
  have HIO := Lib.hid (inOf_ok n b)
  obtain ⟨i0, hi, hz0, hz1, hz2⟩ := info_parts info3
  have HI := Lib.hid (And.intro hi (And.intro hz0 (And.intro hz1 hz2)))
  clear hi hz0 hz1 hz2
  go_wp2_with fail
  refine (RW.out _ (Gr.trans BW.out G3.out)).mono ?_
  rintro e w4 ⟨sv, iv, rfl, hsv, hiv, hg⟩
  have HSV := Lib.hid hsv
  have HIV := Lib.hid hiv
  have G4 := Lib.hid (Gr.trans G3.out hg)
  obtain ⟨As, cs, rfl, hcs, hss⟩ := hsv
  obtain ⟨Ai, ci, rfl, hci, hii⟩ := hiv
  have HSS := Lib.hid hss
  have HII := Lib.hid hii
  rw [ofN_len, stOf_len] at hcs HSV ⊢
  rw [ofN_len, inOf_len] at hci HIV ⊢
  clear hg hss hii e0 e1 e2 e3 e4 RW
  obtain ⟨e0, e1, e2, e3, e4⟩ := KEEP.out _ G4.out
  go_upto_region 6 with (at_builtin; refine app_ints _ rfl _ _ rfl w4.heap.size HI.out.1 HI.out.2.1 HI.out.2.2.1 HI.out.2.2.2 (.slice (some ⟨w4.heap.size, 0, none⟩) 0 0) 0 [] rfl (own_empty w4 3 1 w4.heap.size (Nat.le_refl _)) As n.cells.length cs _ (ofN (stOf n a)) rfl (by rw [ofN_len, stOf_len]) (HSS.out.gr (bel_alloc w4 (.cells #[] 3))) (by omega) (by simp) ?_; intro v5 w5 hown hb5; have B5 := Lib.hid (show Gr w4 w5 from Below.trans (bel_alloc w4 (.cells #[] 3)) hb5); have O5 := Lib.hid (show w5.ownsRow w4.heap.size 3 1 v5 n.cells.length (icells (ofN (stOf n a))) from by simpa using hown); clear hown hb5)
  go_upto_region 7 with (at_builtin; refine app_ints _ rfl _ _ rfl w5.heap.size HI.out.1 HI.out.2.1 HI.out.2.2.1 HI.out.2.2.2 (.slice (some ⟨w5.heap.size, 0, none⟩) 0 0) 0 [] rfl (own_empty w5 3 1 w5.heap.size (Nat.le_refl _)) Ai n.ins.length ci _ (ofN (inOf n b)) rfl (by rw [ofN_len, inOf_len]) (HII.out.gr (Gr.trans B5.out (bel_alloc w5 (.cells #[] 3)))) (by omega) (by simp) ?_; intro v6 w6 hown hb6; have B6 := Lib.hid (show Gr w5 w6 from Below.trans (bel_alloc w5 (.cells #[] 3)) hb6); have O6 := Lib.hid (show w6.ownsRow w5.heap.size 3 1 v6 n.ins.length (icells (ofN (inOf n b))) from by simpa using hown); clear hown hb6)
  obtain ⟨k, hk⟩ : ∃ k : Nat, x % (n.ins.length + n.cells.length) = k := ⟨_, rfl⟩
  have hkl : k < n.ins.length + n.cells.length := by rw [← hk]; exact Nat.mod_lt _ (by omega)
  have htm : Int.tmod (x : Int) ((n.ins.length : Int) + (n.cells.length : Int)) = (k : Int) := by rw [Int.tmod_eq_emod_of_nonneg (by omega), ← Int.natCast_add, ← Int.natCast_emod, hk]
  have hsw2 : IntKind.i64.wrap ((n.ins.length : Int) + (n.cells.length : Int)) = (n.ins.length : Int) + (n.cells.length : Int) := wrap_int (by omega) (by omega)
  have hnz : ¬ (n.ins.length : Int) + (n.cells.length : Int) = 0 := by omega
  have hwx := wrap_nat (a := x) (by omega)
  have hwz := wrap_nat (a := z) (by omega)
  have hwk := wrap_nat (a := k) (by omega)
  have G6 := Lib.hid (Gr.trans G4.out (Gr.trans B5.out B6.out))
  have O5' := Lib.hid (own_gr O5.out B6.out)
  clear hk e0 e1 e2 e3 e4 hsw
  obtain ⟨e0, e1, e2, e3, e4⟩ := KEEP.out _ G6.out
  have HGI := Lib.hid (fun (kn Wy : Nat) (p : Pn) (gi di k : Nat) (hk : (k : Int) < (n.ins.length : Int)) (hp : n.ins[k]? = some p) (hkn : p.node = ((kn : Nat) : Int)) (hwd : (widA n.nodes p.node).toNat = Wy) (hv : v6 = .slice (some ⟨gi, 0, none⟩) n.ins.length di) => (show HgP n (stOf n a) (inOf n b) ((kn : Nat) : Int) (stOf n a) ((inOf n b).set k (z % 2 ^ Wy)) v5 v6 w4 (w6.setCell ⟨gi, k, none⟩ (.int .i64 ((z : Int) % 2 ^ Wy))) from by
    rw [show ((z : Int) % 2 ^ Wy) = (((z % 2 ^ Wy) : Nat) : Int) from by simp]
    have h6 := O6.out
    rw [hv] at h6
    have hgi := (h6.lt gi rfl).1
    have h45 := B5.out.size
    refine ⟨Below.setCell (Gr.trans B5.out B6.out) (p := ⟨gi, k, none⟩) (by show w4.heap.size ≤ gi; omega) _, ?_, ?_, HSO.out, inOk_set HIO.out (by rw [inOf_len]; omega) hp (by rw [hwd]; exact Nat.mod_lt _ (Nat.two_pow_pos _)), stOf_len _ _, by rw [List.length_set, inOf_len], fun i hi => hang_in hR _ _ hp i (by rw [hkn]; exact hi)⟩
    · refine ints_of_own (own_keep (own_gr O5.out B6.out) (fun q hq => ?_)) (by rw [ofN_len, stOf_len])
      have h1 := (O5.out.lt q hq).2
      exact set_ne_heap (by omega)
    · have h2 := (h6.stored k (.int .i64 (((z % 2 ^ Wy) : Nat) : Int))).1
      rw [← icells_set] at h2
      rw [hv]
      exact ints_of_own h2 (by rw [ofN_len, List.length_set, inOf_len])))
  have HGC := Lib.hid (fun (kn Wy : Nat) (p : Ce) (gi di k : Nat) (hk : (k : Int) < (n.cells.length : Int)) (hp : n.cells[k]? = some p) (hkn : p.node = ((kn : Nat) : Int)) (hwd : (widA n.nodes p.node).toNat = Wy) (hv : v5 = .slice (some ⟨gi, 0, none⟩) n.cells.length di) => (show HgP n (stOf n a) (inOf n b) ((kn : Nat) : Int) ((stOf n a).set k (z % 2 ^ Wy)) (inOf n b) v5 v6 w4 (w6.drew.setCell ⟨gi, k, none⟩ (.int .i64 ((z : Int) % 2 ^ Wy))) from by
    rw [show ((z : Int) % 2 ^ Wy) = (((z % 2 ^ Wy) : Nat) : Int) from by simp]
    have B6' : Gr w5 w6.drew := Gr.trans B6.out (Gr.drew _)
    have h5 := own_gr O5.out B6'
    have h5' := O5.out
    rw [hv] at h5 h5'
    have hgi := (h5'.lt gi rfl)
    refine ⟨Below.setCell (Gr.trans B5.out B6') (p := ⟨gi, k, none⟩) (by show w4.heap.size ≤ gi; omega) _, ?_, ?_, stOk_set HSO.out (by rw [stOf_len]; omega) hp (by rw [hwd]; exact Nat.mod_lt _ (Nat.two_pow_pos _)), HIO.out, by rw [List.length_set, stOf_len], inOf_len _ _, fun i hi => hang_st hR _ _ hp i (by rw [hkn]; exact hi)⟩
    · have h2 := (h5.stored k (.int .i64 (((z % 2 ^ Wy) : Nat) : Int))).1
      rw [← icells_set] at h2
      rw [hv]
      exact ints_of_own h2 (by rw [ofN_len, List.length_set, stOf_len])
    · refine ints_of_own (own_keep (own_gr O6.out (Gr.drew _)) (fun q hq => ?_)) (by rw [ofN_len, inOf_len])
      have h1 := (O6.out.lt q hq).1
      exact set_ne_heap (by omega)))
  have hte : decide ((k : Int) < (n.ins.length : Int)) = decide ((k : Int) < (n.ins.length : Int)) := rfl
  go_upto_if 68 with fail
  go_cut [17] from 68 to 114 (fun s17 wx => ∃ (pin : Int) (st' ins' : List Nat), s17 = .int .i64 pin ∧ Hid (HgP n (stOf n a) (inOf n b) pin st' ins' v5 v6 w4 wx))
  case first =>
   by_cases hki : k < n.ins.length
   · have hsx : n.ins[k]? = some n.ins[k] := List.getElem?_eq_getElem hki
     generalize n.ins[k] = p at hsx
     have HP := Lib.hid hsx
     obtain ⟨kn, y, hkn, hy, -⟩ := places_mem (op := 21) (l := n.nodes) (p := p.node) (by rw [← hI]; exact List.mem_map.2 ⟨p, List.mem_of_getElem? hsx, rfl⟩)
     have hwy := hw y (List.mem_of_getElem? hy)
     obtain ⟨Wy, hWy⟩ : ∃ Wy : Nat, y.w = Wy := ⟨y.w.toNat, by omega⟩
     have hyl := (List.getElem?_eq_some_iff.1 hy).1
     obtain ⟨b2, o2, rfl, -, dS, dN⟩ := (H2.out.gr (Gr.trans BW.out G6.out)) k p hsx
     obtain ⟨bb, off, rfl, -, d0, d1, d2, d3, d4, d5, d6⟩ := (H1.out.gr (Gr.trans BW.out G6.out)) kn y hy
     rw [hWy] at d1
     rw [hkn] at dN
     obtain ⟨gi, di, rfl, hgi, hli⟩ := O6.out.form (by omega)
     have hfz := O6.out.frozenAt k
     have hck := O6.out.cellAt k (by omega)
     have hcv : (icells (ofN (inOf n b)))[k]? = some (.int .i64 (getN (inOf n b) (k : Nat) : Nat)) := by
       unfold icells
       rw [List.getElem?_map, ofN_at (x := getN (inOf n b) (k : Nat)) (by rw [getN_nat, List.getElem?_eq_getElem (by rw [inOf_len]; exact hki)]; rfl)]
       rfl
     rw [hcv] at hck
     have RM := Lib.hid (fun (u : World) => RMask_any Wy (by omega) u)
     have hmk := and_mask_nat (a := z) (k := Wy) (by omega)
     have i1 : (k : Int) < (n.ins.length : Int) := by omega
     have i2 : (0 : Int) ≤ (k : Int) := by omega
     have i3 : (kn : Int) < (n.nodes.length : Int) := by omega
     have i4 : (0 : Int) ≤ (kn : Int) := by omega
     have HWY := Lib.hid hWy
     have HKN := Lib.hid hkn
     have HY2 := Lib.hid hy
     clear hsx hkn hy hWy hcv
     go_wp2_with fail
     refine (RM.out _).mono ?_
     rintro e wq ⟨rfl, rfl⟩
     go_wp2_with fail
     go_meet
     refine ⟨((kn : Nat) : Int), stOf n a, (inOf n b).set k (z % 2 ^ Wy), rfl, Lib.hid (HGI.out kn Wy p gi di k i1 HP.out HKN.out (by rw [HKN.out, widA_some HY2.out, HWY.out]; rfl) rfl)⟩
   · obtain ⟨J, hJ⟩ : ∃ J : Nat, k = n.ins.length + J := ⟨k - n.ins.length, by omega⟩
     have hjl : J < n.cells.length := by omega
     have hsx : n.cells[J]? = some n.cells[J] := List.getElem?_eq_getElem hjl
     generalize n.cells[J] = p at hsx
     have HP := Lib.hid hsx
     obtain ⟨kn, y, hkn, hy, -⟩ := places_mem (op := 22) (l := n.nodes) (p := p.node) (by rw [← hC]; exact List.mem_map.2 ⟨p, List.mem_of_getElem? hsx, rfl⟩)
     have hwy := hw y (List.mem_of_getElem? hy)
     obtain ⟨Wy, hWy⟩ : ∃ Wy : Nat, y.w = Wy := ⟨y.w.toNat, by omega⟩
     have hyl := (List.getElem?_eq_some_iff.1 hy).1
     obtain ⟨b2, o2, rfl, -, dS, dN, dX, dR⟩ := (H3.out.gr (Gr.trans BW.out G6.out)) J p hsx
     obtain ⟨bb, off, rfl, -, d0, d1, d2, d3, d4, d5, d6⟩ := (H1.out.gr (Gr.trans BW.out G6.out)) kn y hy
     rw [hWy] at d1
     rw [hkn] at dN
     obtain ⟨gi, di, rfl, hgi, hli⟩ := O5'.out.form (by omega)
     have hfz := O5'.out.frozenAt J
     have hck := O5'.out.cellAt J (by omega)
     have hcv : (icells (ofN (stOf n a)))[J]? = some (.int .i64 (getN (stOf n a) (J : Nat) : Nat)) := by
       unfold icells
       rw [List.getElem?_map, ofN_at (x := getN (stOf n a) (J : Nat)) (by rw [getN_nat, List.getElem?_eq_getElem (by rw [stOf_len]; exact hjl)]; rfl)]
       rfl
     rw [hcv] at hck
     have RM := Lib.hid (fun (u : World) => RMask_any Wy (by omega) u)
     have hmk := and_mask_nat (a := z) (k := Wy) (by omega)
     have hws : IntKind.i64.wrap ((k : Int) - (n.ins.length : Int)) = (J : Int) := by rw [wrap_int (by omega) (by omega)]; omega
     have i1 : ¬ (k : Int) < (n.ins.length : Int) := by omega
     have i2 : (0 : Int) ≤ (J : Int) := by omega
     have i5 : (J : Int) < (n.cells.length : Int) := by omega
     have i3 : (kn : Int) < (n.nodes.length : Int) := by omega
     have i4 : (0 : Int) ≤ (kn : Int) := by omega
     have HWY := Lib.hid hWy
     have HKN := Lib.hid hkn
     have HY2 := Lib.hid hy
     have HJ := Lib.hid hJ
     have SX := Lib.hid (fun (u : World) (hu : Gr W0 u) => (show (fun u : World => u.cell? ⟨w.heap.size, 0, none⟩ = some (.slice (some ⟨bb, off, none⟩) n.nodes.length c1) ∧ u.cell? ⟨w.heap.size, 1, none⟩ = some (.slice A2 n.ins.length c2) ∧ u.cell? ⟨w.heap.size, 2, none⟩ = some (.slice (some ⟨b2, o2, none⟩) n.cells.length c3) ∧ u.cell? ⟨w.heap.size, 3, none⟩ = some (.slice A4 n.props.length c4) ∧ u.cell? ⟨w.heap.size, 4, none⟩ = some (.slice A5 n.names.length c5) ∧ u.cell? ⟨bb, off + kn * 7 + 1, none⟩ = some (.int .i64 (Wy : Nat))) u from by
       obtain ⟨h0, h1, h2, h3, h4⟩ := KEEP.out _ hu
       obtain ⟨b', o', e', -, -, h6, -⟩ := (H1.out.gr (Gr.trans BW.out hu)) kn y HY2.out
       simp only [Option.some.injEq, Addr.mk.injEq, and_true] at e'
       obtain ⟨rfl, rfl⟩ := e'
       rw [HWY.out] at h6
       exact ⟨h0, h1, h2, h3, h4, h6⟩))
     have GSX := Lib.hid (fun (val : Value) => (show Gr W0 ((w6.drew).setCell ⟨gi, J, none⟩ val) from by
       have h7 := (O5.out.lt gi rfl).1
       have h8 := G4.out.size
       exact Below.setCell (Gr.trans G6.out (Gr.drew _)) (p := ⟨gi, J, none⟩) (by show W0.heap.size ≤ gi; omega) _))
     clear hsx hkn hy hWy hcv hJ hki
     go_upto_region 13 with fail
     refine wp_region_held_drew (S := (fun u : World => u.cell? ⟨w.heap.size, 0, none⟩ = some (.slice (some ⟨bb, off, none⟩) n.nodes.length c1) ∧ u.cell? ⟨w.heap.size, 1, none⟩ = some (.slice A2 n.ins.length c2) ∧ u.cell? ⟨w.heap.size, 2, none⟩ = some (.slice (some ⟨b2, o2, none⟩) n.cells.length c3) ∧ u.cell? ⟨w.heap.size, 3, none⟩ = some (.slice A4 n.props.length c4) ∧ u.cell? ⟨w.heap.size, 4, none⟩ = some (.slice A5 n.names.length c5) ∧ u.cell? ⟨bb, off + kn * 7 + 1, none⟩ = some (.int .i64 (Wy : Nat)))) (by kernel_rfl) (SX.out _ (Gr.trans G6.out (Gr.drew _))) (fun hHeld => ?_)
     refine wpAnyH_take (i := 0) (oi := { dst := some 98, op := Op.move (Operand.tmp 14), type := 32, pos := "law.go:166", after := #[], guard := none }) (v := ?_) rfl (by kernel_rfl) (by kernel_rfl) (by kernel_rfl) (fun _ _ _ h => h) (Or.inl ⟨by rfl, ?_⟩) hHeld ?_
     case refine_2 => (intro w hSw; (try dsimp only at hSw); go_simp; try (with_reducible rfl))
     try simp only [Act.put, List.setIfInBounds_toArray, List.set_cons_zero, List.set_cons_succ]
     refine wpAnyH_take (i := 1) (oi := { dst := some 99, op := Op.move (Operand.tmp 16), type := 3, pos := "law.go:166", after := #[], guard := none }) (v := ?_) rfl (by kernel_rfl) (by kernel_rfl) (by kernel_rfl) (fun _ _ _ h => h) (Or.inl ⟨by rfl, ?_⟩) hHeld ?_
     case refine_2 => (intro w hSw; (try dsimp only at hSw); go_simp; try (with_reducible rfl))
     try simp only [Act.put, List.setIfInBounds_toArray, List.set_cons_zero, List.set_cons_succ]
     refine wpAnyH_take (i := 2) (oi := { dst := some 100, op := Op.fieldAddr 27 (Operand.tmp 5) 1, type := 0, pos := "law.go:166", after := #[], guard := none }) (v := ?_) rfl (by kernel_rfl) (by kernel_rfl) (by kernel_rfl) (fun _ _ _ h => h) (Or.inl ⟨by rfl, ?_⟩) hHeld ?_
     case refine_2 => (intro w hSw; (try dsimp only at hSw); go_simp; try (with_reducible rfl))
     try simp only [Act.put, List.setIfInBounds_toArray, List.set_cons_zero, List.set_cons_succ]
     refine wpAnyH_take (i := 3) (oi := { dst := some 101, op := Op.load 23 (Operand.tmp 100), type := 23, pos := "law.go:166", after := #[{ on := 2, ground := Ground.data }], guard := none }) (v := ?_) rfl (by kernel_rfl) (by kernel_rfl) (by kernel_rfl) (fun _ _ _ h => h) (Or.inl ⟨by rfl, ?_⟩) hHeld ?_
     case refine_2 => (intro w hSw; (try dsimp only at hSw); go_simp; try (with_reducible rfl))
     try simp only [Act.put, List.setIfInBounds_toArray, List.set_cons_zero, List.set_cons_succ]
     refine wpAnyH_take (i := 4) (oi := { dst := some 102, op := Op.call { callee := Callee.builtin Builtin.len, args := #[Operand.tmp 101], argTypes := #[23] }, type := 3, pos := "law.go:166", after := #[{ on := 3, ground := Ground.data }], guard := none }) (v := ?_) rfl (by kernel_rfl) (by kernel_rfl) (by kernel_rfl) (fun _ _ _ h => h) (Or.inl ⟨by rfl, ?_⟩) hHeld ?_
     case refine_2 => (intro w hSw; (try dsimp only at hSw); go_simp; try (with_reducible rfl))
     try simp only [Act.put, List.setIfInBounds_toArray, List.set_cons_zero, List.set_cons_succ]
     refine wpAnyH_take (i := 5) (oi := { dst := some 103, op := Op.binOp BinOp.sub 3 (Operand.tmp 99) (Operand.tmp 102) 3, type := 3, pos := "law.go:166", after := #[{ on := 1, ground := Ground.data }, { on := 4, ground := Ground.data }], guard := none }) (v := ?_) rfl (by kernel_rfl) (by kernel_rfl) (by kernel_rfl) (fun _ _ _ h => h) (Or.inl ⟨by rfl, ?_⟩) hHeld ?_
     case refine_2 => (intro w hSw; (try dsimp only at hSw); go_simp; try (with_reducible rfl))
     try simp only [Act.put, List.setIfInBounds_toArray, List.set_cons_zero, List.set_cons_succ]
     refine wpAnyH_take (i := 6) (oi := { dst := some 104, op := Op.move (Operand.tmp 4), type := 45, pos := "law.go:166", after := #[], guard := none }) (v := ?_) rfl (by kernel_rfl) (by kernel_rfl) (by kernel_rfl) (fun _ _ _ h => h) (Or.inl ⟨by rfl, ?_⟩) hHeld ?_
     case refine_2 => (intro w hSw; (try dsimp only at hSw); go_simp; try (with_reducible rfl))
     try simp only [Act.put, List.setIfInBounds_toArray, List.set_cons_zero, List.set_cons_succ]
     refine wpAnyH_take (i := 7) (oi := { dst := some 105, op := Op.convert 45 3 (Operand.tmp 104), type := 3, pos := "law.go:166", after := #[{ on := 6, ground := Ground.data }], guard := none }) (v := ?_) rfl (by kernel_rfl) (by kernel_rfl) (by kernel_rfl) (fun _ _ _ h => h) (Or.inl ⟨by rfl, ?_⟩) hHeld ?_
     case refine_2 => (intro w hSw; (try dsimp only at hSw); go_simp; try (with_reducible rfl))
     try simp only [Act.put, List.setIfInBounds_toArray, List.set_cons_zero, List.set_cons_succ]
     refine wpAnyH_take (i := 8) (oi := { dst := some 106, op := Op.fieldAddr 27 (Operand.tmp 5) 0, type := 0, pos := "law.go:166", after := #[], guard := none }) (v := ?_) rfl (by kernel_rfl) (by kernel_rfl) (by kernel_rfl) (fun _ _ _ h => h) (Or.inl ⟨by rfl, ?_⟩) hHeld ?_
     case refine_2 => (intro w hSw; (try dsimp only at hSw); go_simp; try (with_reducible rfl))
     try simp only [Act.put, List.setIfInBounds_toArray, List.set_cons_zero, List.set_cons_succ]
     refine wpAnyH_take (i := 9) (oi := { dst := some 107, op := Op.load 22 (Operand.tmp 106), type := 22, pos := "law.go:166", after := #[{ on := 8, ground := Ground.data }], guard := none }) (v := ?_) rfl (by kernel_rfl) (by kernel_rfl) (by kernel_rfl) (fun _ _ _ h => h) (Or.inl ⟨by rfl, ?_⟩) hHeld ?_
     case refine_2 => (intro w hSw; (try dsimp only at hSw); go_simp; try (with_reducible rfl))
     try simp only [Act.put, List.setIfInBounds_toArray, List.set_cons_zero, List.set_cons_succ]
     refine wpAnyH_take (i := 10) (oi := { dst := some 108, op := Op.move (Operand.tmp 17), type := 3, pos := "law.go:166", after := #[], guard := none }) (v := ?_) rfl (by kernel_rfl) (by kernel_rfl) (by kernel_rfl) (fun _ _ _ h => h) (Or.inl ⟨by rfl, ?_⟩) hHeld ?_
     case refine_2 => (intro w hSw; (try dsimp only at hSw); go_simp; try (with_reducible rfl))
     try simp only [Act.put, List.setIfInBounds_toArray, List.set_cons_zero, List.set_cons_succ]
     refine wpAnyH_take (i := 11) (oi := { dst := some 109, op := Op.indexAddr 22 (Operand.tmp 107) (Operand.tmp 108), type := 0, pos := "law.go:166", after := #[{ on := 9, ground := Ground.data }, { on := 10, ground := Ground.data }], guard := none }) (v := ?_) rfl (by kernel_rfl) (by kernel_rfl) (by kernel_rfl) (fun _ _ _ h => h) (Or.inl ⟨by rfl, ?_⟩) hHeld ?_
     case refine_2 => (intro w hSw; (try dsimp only at hSw); go_simp; try (with_reducible rfl))
     try simp only [Act.put, List.setIfInBounds_toArray, List.set_cons_zero, List.set_cons_succ]
     refine wpAnyH_take (i := 12) (oi := { dst := some 110, op := Op.fieldAddr 41 (Operand.tmp 109) 1, type := 0, pos := "law.go:166", after := #[{ on := 11, ground := Ground.data }], guard := none }) (v := ?_) rfl (by kernel_rfl) (by kernel_rfl) (by kernel_rfl) (fun _ _ _ h => h) (Or.inl ⟨by rfl, ?_⟩) hHeld ?_
     case refine_2 => (intro w hSw; (try dsimp only at hSw); go_simp; try (with_reducible rfl))
     try simp only [Act.put, List.setIfInBounds_toArray, List.set_cons_zero, List.set_cons_succ]
     refine wpAnyH_take (i := 13) (oi := { dst := some 111, op := Op.load 3 (Operand.tmp 110), type := 3, pos := "law.go:166", after := #[{ on := 12, ground := Ground.data }], guard := none }) (v := ?_) rfl (by kernel_rfl) (by kernel_rfl) (by kernel_rfl) (fun _ _ _ h => h) (Or.inl ⟨by rfl, ?_⟩) hHeld ?_
     case refine_2 => (intro w hSw; (try dsimp only at hSw); go_simp; try (with_reducible rfl))
     try simp only [Act.put, List.setIfInBounds_toArray, List.set_cons_zero, List.set_cons_succ]
     refine wpAnyH_ready (rs := [14]) (by kernel_rfl) (by simp) ?_
     refine AllReadyH.cons (o := { dst := some 112, op := Op.call { callee := Callee.value (Operand.func 24), args := #[Operand.tmp 111], argTypes := #[3] }, type := 3, pos := "law.go:166", after := #[{ on := 13, ground := Ground.data }], guard := none }) rfl (fun K hK => ?_) AllReadyH.nil
     go_simp
     refine (RM.out _).mono ?_
     rintro e u1 ⟨rfl, rfl⟩
     refine hK.out _ _ (SX.out _ (Gr.trans G6.out (Gr.drew _))) (fun hHeld => ?_)
     clear hK K
     try simp only [Act.put, List.setIfInBounds_toArray, List.set_cons_zero, List.set_cons_succ]
     refine wpAnyH_take (i := 15) (oi := { dst := some 113, op := Op.binOp BinOp.and 3 (Operand.tmp 105) (Operand.tmp 112) 3, type := 3, pos := "law.go:166", after := #[{ on := 7, ground := Ground.data }, { on := 14, ground := Ground.data }], guard := none }) (v := ?_) rfl (by kernel_rfl) (by kernel_rfl) (by kernel_rfl) (fun _ _ _ h => h) (Or.inl ⟨by rfl, ?_⟩) hHeld ?_
     case refine_2 => (intro w hSw; (try dsimp only at hSw); go_simp; try (with_reducible rfl))
     try simp only [Act.put, List.setIfInBounds_toArray, List.set_cons_zero, List.set_cons_succ]
     refine wpAnyH_take (i := 16) (oi := { dst := some 114, op := Op.indexAddr 32 (Operand.tmp 98) (Operand.tmp 103), type := 0, pos := "law.go:166", after := #[{ on := 0, ground := Ground.data }, { on := 5, ground := Ground.data }, { on := 0, ground := Ground.phase }, { on := 1, ground := Ground.phase }, { on := 2, ground := Ground.phase }, { on := 3, ground := Ground.phase }, { on := 4, ground := Ground.phase }, { on := 5, ground := Ground.phase }, { on := 6, ground := Ground.phase }, { on := 7, ground := Ground.phase }, { on := 8, ground := Ground.phase }, { on := 9, ground := Ground.phase }, { on := 10, ground := Ground.phase }, { on := 11, ground := Ground.phase }, { on := 12, ground := Ground.phase }, { on := 13, ground := Ground.phase }, { on := 14, ground := Ground.phase }, { on := 15, ground := Ground.phase }], guard := none }) (v := ?_) rfl (by kernel_rfl) (by kernel_rfl) (by kernel_rfl) (fun _ _ _ h => h) (Or.inl ⟨by rfl, ?_⟩) hHeld ?_
     case refine_2 => (intro w hSw; (try dsimp only at hSw); go_simp; try (with_reducible rfl))
     try simp only [Act.put, List.setIfInBounds_toArray, List.set_cons_zero, List.set_cons_succ]
     refine wpAnyH_ready (rs := [17]) (by kernel_rfl) (by simp) ?_
     refine AllReadyH.cons (o := { dst := none, op := Op.store 3 (Operand.tmp 114) (Operand.tmp 113), type := 0, pos := "law.go:166", after := #[{ on := 16, ground := Ground.data }, { on := 15, ground := Ground.data }, { on := 14, ground := Ground.chain }, { on := 0, ground := Ground.phase }, { on := 1, ground := Ground.phase }, { on := 2, ground := Ground.phase }, { on := 3, ground := Ground.phase }, { on := 4, ground := Ground.phase }, { on := 5, ground := Ground.phase }, { on := 6, ground := Ground.phase }, { on := 7, ground := Ground.phase }, { on := 8, ground := Ground.phase }, { on := 9, ground := Ground.phase }, { on := 10, ground := Ground.phase }, { on := 11, ground := Ground.phase }, { on := 12, ground := Ground.phase }, { on := 13, ground := Ground.phase }, { on := 14, ground := Ground.phase }, { on := 15, ground := Ground.phase }], guard := none }) rfl (fun K hK => ?_) AllReadyH.nil
     go_simp
     refine hK.out _ _ (SX.out _ (GSX.out _)) (fun hHeld => ?_)
     clear hK K
     try simp only [Act.put, List.setIfInBounds_toArray, List.set_cons_zero, List.set_cons_succ]
     refine wpAnyH_done (by kernel_rfl) ?_ _
     go_wp2_with fail
     go_meet
     refine ⟨((kn : Nat) : Int), (stOf n a).set J (z % 2 ^ Wy), inOf n b, rfl, Lib.hid (HGC.out kn Wy p gi di J i5 HP.out HKN.out (by rw [HKN.out, widA_some HY2.out, HWY.out]; rfl) rfl)⟩
  case rest =>
  obtain ⟨pin, st', ins', rfl, HG⟩ := hcut
  obtain ⟨gx, h5, h6, hst, hin, hls, hli, hh⟩ := HG.out
  have GX := Lib.hid gx
  have I5 := Lib.hid h5
  have I6 := Lib.hid h6
  have HHX := Lib.hid hh
  obtain ⟨ev, hev⟩ : ∃ ev, evAll n (stOf n a) (inOf n b) = ev := ⟨_, rfl⟩
  obtain ⟨ev', hev'⟩ : ∃ ev', evAll n st' ins' = ev' := ⟨_, rfl⟩
  have hl1 : ev.length = n.nodes.length := by rw [← hev]; exact evL_len _ _ _ _ (Nat.le_refl _)
  have hl2 : ev'.length = n.nodes.length := by rw [← hev']; exact evL_len _ _ _ _ (Nat.le_refl _)
  have HLN := Lib.hid (evL_lim hR HSO.out HIO.out)
  have HLX := Lib.hid (evL_lim hR hst hin)
  have EVo := Lib.hid (fun (u : World) (hu : Gr w4 u) => Eval_any n _ _ _ (stOf n a) (inOf n b) u hs (Lib.hid (HV.out u (Gr.trans BW.out (Gr.trans G4.out hu)))) hR.1 (by rw [stOf_len]; omega) (by rw [inOf_len]; omega) (Lib.hid (HSV.out.gr hu)) (Lib.hid (HIV.out.gr hu)) HLN)
  have EVc := Lib.hid (fun (u : World) (hu : Gr wc u) => Eval_any n _ v5 v6 st' ins' u hs (Lib.hid (HV.out u (Gr.trans BW.out (Gr.trans G4.out (Gr.trans GX.out hu))))) hR.1 (by omega) (by omega) (Lib.hid (I5.out.gr hu)) (Lib.hid (I6.out.gr hu)) HLX)
  rw [hev] at EVo
  rw [hev'] at EVc
  rw [hev, hev'] at HHX
  have RCH := Lib.hid (fun (u : World) (hu : Gr wc u) => Rch_any n _ pin u hs (Lib.hid (HV.out u (Gr.trans BW.out (Gr.trans G4.out (Gr.trans GX.out hu))))) hR.1)
  have hrl : (rcL n.nodes pin n.nodes.length).length = n.nodes.length := rcL_len _ _ _ (Nat.le_refl _)
  have HRL := Lib.hid (And.intro hrl (And.intro hl1 hl2))
  clear hrl hl1 hl2 hev hev' hst hin hls hli hh h5 h6 gx HG HLN HLX e0 e1 e2 e3 e4
  obtain ⟨e0, e1, e2, e3, e4⟩ := KEEP.out _ (Gr.trans G4.out GX.out)
  go_wp2_with fail
  refine (EVo.out _ GX.out).mono ?_
  rintro e wA ⟨vA, rfl, hiA, hg⟩
  have GA := Lib.hid hg
  obtain ⟨AA, cA, rfl, -, hA1⟩ := hiA
  have IA := Lib.hid hA1
  rw [ofN_len, HRL.out.2.1]
  clear hg hA1 e0 e1 e2 e3 e4
  obtain ⟨e0, e1, e2, e3, e4⟩ := KEEP.out _ (Gr.trans G4.out (Gr.trans GX.out GA.out))
  go_wp2_with fail
  refine (EVc.out _ GA.out).mono ?_
  rintro e wB ⟨vB, rfl, hiB, hg⟩
  have GB := Lib.hid hg
  obtain ⟨AB, cB, rfl, -, hB1⟩ := hiB
  have IB := Lib.hid hB1
  rw [ofN_len, HRL.out.2.2]
  clear hg hB1 e0 e1 e2 e3 e4
  obtain ⟨e0, e1, e2, e3, e4⟩ := KEEP.out _ (Gr.trans G4.out (Gr.trans GX.out (Gr.trans GA.out GB.out)))
  go_wp2_with fail
  refine (RCH.out _ (Gr.trans GA.out GB.out)).mono ?_
  rintro e wC ⟨gr, rfl, hgl, hbr, hg⟩
  have HGL := Lib.hid hgl
  have GC := Lib.hid hg
  have IR := Lib.hid hbr
  clear hg hgl hbr e0 e1 e2 e3 e4
  have r1 : ((n.nodes.length : Int) != (n.nodes.length : Int)) = false := by simp
  have GW := Lib.hid (Gr.trans BW.out (Gr.trans G4.out (Gr.trans GX.out (Gr.trans GA.out (Gr.trans GB.out GC.out)))))
  have JA := Lib.hid (IA.out.gr (Gr.trans GB.out GC.out))
  have JB := Lib.hid (IB.out.gr GC.out)
  clear IA IB EVo EVc RCH
  go_wp2_with fail
  go_loopg [21] n.nodes.length (fun g i wr => ∃ j : Nat, j + g = n.nodes.length ∧ i = .int .i64 j ∧ Hid (Gr wC wr))
  case atStart => exact ⟨0, by omega, rfl, Lib.hid (Gr.refl _)⟩
  case round =>
    obtain ⟨j, hjg, rfl, hwr⟩ := hrel
    have HJ2 := Lib.hid hjg
    have hjl : j ≤ n.nodes.length := by omega
    clear hjg
    by_cases hlt2 : j < n.nodes.length
    · have ha : ev[j]? = some (getN ev (j : Nat)) := by rw [getN_nat, List.getElem?_eq_getElem (by have := HRL.out.2.1; omega)]; rfl
      generalize getN ev (j : Nat) = xa at ha
      have hb : ev'[j]? = some (getN ev' (j : Nat)) := by rw [getN_nat, List.getElem?_eq_getElem (by have := HRL.out.2.2; omega)]; rfl
      generalize getN ev' (j : Nat) = xb at hb
      have hr : (rcL n.nodes pin n.nodes.length)[j]? = some (getB (rcL n.nodes pin n.nodes.length) (j : Nat)) := by have h1 := getB_at (l := rcL n.nodes pin n.nodes.length) (i := (j : Nat)) (by omega) (by rw [HRL.out.1]; omega); simpa using h1
      generalize getB (rcL n.nodes pin n.nodes.length) (j : Nat) = bj at hr
      obtain ⟨ba, oa, rfl, -, ca⟩ := (JA.out.gr hwr.out) j (xa : Int) (ofN_at ha)
      obtain ⟨bx, ob, rfl, -, cb⟩ := (JB.out.gr hwr.out) j (xb : Int) (ofN_at hb)
      have cr : wr.cell? ⟨gr, j, none⟩ = some (.bool bj) := (hwr.out.cell (p := ⟨gr, j, none⟩) HGL.out).trans (IR.out j bj hr)
      have i1 : (j : Int) < (n.nodes.length : Int) := by omega
      have i2 : (0 : Int) ≤ (j : Int) := by omega
      have hbt : xa ≠ xb → bj = true := fun hq => by
        cases bj with
        | true => rfl
        | false =>
          have h1 := HHX.out j hr
          rw [ha, hb] at h1
          exact absurd (Option.some.inj h1).symm hq
      clear ha hb hr
      by_cases hq : xa = xb
      · subst hq
        have r2 : ((xa : Int) != (xa : Int)) = false := by simp
        clear hbt
        go_wp2_with fail
        go_quiet (fail)
        go_wp2_with fail
        go_roundg (gk - 1)
        case measure => have := HJ2.out; omega
        case rel => exact ⟨j + 1, by have := HJ2.out; omega, by go_num, Lib.hid (Below.drewN hwr.out _)⟩
      · obtain rfl := hbt hq
        have r2 : ((xa : Int) != (xb : Int)) = true := bne_iff_ne.2 (by omega)
        clear hbt hq
        go_wp2_with fail
        go_quiet (fail)
        go_wp2_with fail
        go_roundg (gk - 1)
        case measure => have := HJ2.out; omega
        case rel => exact ⟨j + 1, by have := HJ2.out; omega, by go_num, Lib.hid (Below.drewN hwr.out _)⟩
    · have hjn : j = n.nodes.length := by omega
      subst hjn
      have i1 : ¬ (n.nodes.length : Int) < (n.nodes.length : Int) := by omega
      go_wp2_with fail
      go_ret
      exact ⟨rfl, Gr.trans GW.out hwr.out⟩
end Go.Proofs.Ytnkifhgkhgialaa
