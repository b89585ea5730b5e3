/-
  sim's holds and hitAs, WALKED.
-/
import Derived.Test.YtmnblcnhbafcpaaJ45
import Derived.Test.YtmnblcnhbafcpaaJ43
import Derived.Test.YtmnblcnhbafcpaaJ32
/-
  sim's Right and what it asks, WALKED.
-/
namespace Go.Proofs.Ytmnblcnhbafcpaa
open Go.RowKit
open NetM
open VecM

set_option maxRecDepth 100000 in
set_option maxHeartbeats 4000000 in
theorem stands_yes (n : Nt) (v : Value) (k : Nat) (w : World) (hn : Hid (NtAt w n v)) (hk : k < n.nodes.length) :
    Calls Try.prog 51 #[v, .int .i64 (k : Nat)] w fun e w' => e = .returned (.bool true) ∧ Gr w w' := by
  obtain ⟨A1, A2, A3, A4, A5, c1, c2, c3, c4, c5, rfl, hc1, h1, h2, h3, h4, h5⟩ := hn.out
  clear h1 h2 h3 h4 h5
  obtain ⟨W0, eW, BW, KEEP⟩ : ∃ W0, w.alloc (.cells (bxC n A1 A2 A3 A4 A5 c1 c2 c3 c4 c5) 27) = W0 ∧ Hid (Gr w W0) ∧ Hid (∀ u, Gr W0 u → BxAt u w.heap.size n A1 A2 A3 A4 A5 c1 c2 c3 c4 c5) :=
    ⟨_, rfl, Lib.hid (bel_alloc _ _), Lib.hid fun u hu => bx_gr (bx_new w n A1 A2 A3 A4 A5 c1 c2 c3 c4 c5) (by simp) hu⟩
  obtain ⟨e0, e1, e2, e3, e4⟩ := KEEP.out W0 (Gr.refl _)
  have k1 : (k : Int) < (n.nodes.length : Int) := by omega
  have k2 : (0 : Int) ≤ (k : Int) := by omega
  go_enter Try.func51, Try.ntmps51
  go_upto_region 1 with fail
  try rw [eW]
  clear eW
  go_wp2_with fail
  go_ret
  exact ⟨by first | rfl | simp, BW.out⟩

set_option maxRecDepth 100000 in
set_option maxHeartbeats 4000000 in
theorem sfits_any (n : Nt) (v : Value) (s : ByteArray) (kn mm : Nat) (yn : Nd) (x : Int) (w : World) (hn : Hid (NtAt w n v)) (hy : n.nodes[kn]? = some yn) (hm : yn.w = mm) (hm2 : mm ≤ 16) (R : Bool) (hR : Hid (R = true ↔ 0 ≤ x ∧ x < ((2 ^ mm : Nat) : Int))) :
    Calls Try.prog 49 #[v, .agg #[.string s, .int .i64 (kn : Nat)], .int .i64 x] w fun e w' => e = .returned (.bool R) ∧ Gr w w' := by
  have HV := Lib.hid (fun (u : World) (hu : Gr w u) => hn.out.gr hu)
  obtain ⟨A1, A2, A3, A4, A5, c1, c2, c3, c4, c5, rfl, hc1, h1, h2, h3, h4, h5⟩ := hn.out
  have H1 := Lib.hid h1
  clear h1 h2 h3 h4 h5
  have hkn : kn < n.nodes.length := (List.getElem?_eq_some_iff.1 hy).1
  have SY := Lib.hid (fun (u : World) (hu : Gr w u) => stands_yes n _ kn u (Lib.hid (HV.out u hu)) hkn)
  obtain ⟨W0, eW, BW, KEEP⟩ : ∃ W0, (w.alloc (.cells (bxC n A1 A2 A3 A4 A5 c1 c2 c3 c4 c5) 27)).alloc (.cells #[.string s, .int .i64 (kn : Nat)] 55) = W0 ∧ Hid (Gr w W0) ∧ Hid (∀ u, Gr W0 u → BxAt u w.heap.size n A1 A2 A3 A4 A5 c1 c2 c3 c4 c5 ∧ u.cell? ⟨w.heap.size + 1, 0, none⟩ = some (.string s) ∧ u.cell? ⟨w.heap.size + 1, 1, none⟩ = some (.int .i64 (kn : Nat))) := by
    refine ⟨_, rfl, Lib.hid (Gr.trans (bel_alloc _ _) (bel_alloc _ _)), Lib.hid fun u hu => ⟨bx_gr (bx_new w n A1 A2 A3 A4 A5 c1 c2 c3 c4 c5) (by simp) (Gr.trans (bel_alloc _ _) hu), ?_, ?_⟩⟩
    · exact cell_up hu (by simp) (by simp)
    · exact cell_up hu (by simp) (by simp)
  have hp := pow_le32 (show mm ≤ 32 by omega)
  have HP := Lib.hid (wrap_pow (show mm ≤ 32 by omega))
  have kn1 : (kn : Int) < (n.nodes.length : Int) := by omega
  have kn0 : (0 : Int) ≤ (kn : Int) := by omega
  obtain ⟨⟨e0, e1, e2, e3, e4⟩, f0, f1⟩ := KEEP.out W0 (Gr.refl _)
  go_enter Try.func49, Try.ntmps49
  go_upto_region 1 with fail
  try rw [eW]
  clear eW
  by_cases hx : 0 ≤ x
  case neg =>
    obtain rfl : R = false := bool_no hR.out (fun h => hx h.1)
    go_wp2_with fail
    with_reducible refine (SY.out _ BW.out).mono ?_
    rintro e w1 ⟨rfl, hg⟩
    have G1 := Lib.hid (Gr.trans BW.out hg)
    clear hg e0 e1 e2 e3 e4 f0 f1
    go_wp2_with fail
    go_ret
    exact ⟨by first | rfl | simp, G1.out⟩
  case pos =>
    go_wp2_with fail
    with_reducible refine (SY.out _ BW.out).mono ?_
    rintro e w2 ⟨rfl, hg⟩
    have G2 := Lib.hid hg
    clear hg e0 e1 e2 e3 e4 f0 f1
    obtain ⟨⟨e0, e1, e2, e3, e4⟩, f0, f1⟩ := KEEP.out _ G2.out
    obtain ⟨by1, offy, rfl, -, y0, y1, y2, y3, y4, y5, y6⟩ := (H1.out.gr (Gr.trans BW.out G2.out)) kn yn hy
    rw [hm] at y1
    go_wp2_with fail
    go_ret
    refine ⟨?_, Gr.trans BW.out G2.out⟩
    have h1 := hR.out
    have h2 := HP.out
    show Ending.returned (.bool (decide (x < wrap64 ((2 : Int) ^ mm)))) = _
    rw [h2]
    congr 2
    cases R with
    | true => exact decide_eq_true (h1.1 rfl).2
    | false => exact decide_eq_false (fun h3 => by have := h1.2 ⟨hx, h3⟩; cases this)

theorem RowOk.len {n : Nt} {l : List Int} (h : RowOk n l) : l.length = n.ins.length := h.1
set_option maxRecDepth 100000 in
set_option maxHeartbeats 8000000 in
theorem rightRow_any (n : Nt) (v rv : Value) (l : List Int) (w : World) (hs : Sz n) (hn : Hid (NtAt w n v)) (hw : WOk n.nodes) (him : n.ins.map Pn.node = places n.nodes 21) (hll0 : l.length ≤ maxLen) (hrv : Hid (IntR w rv l)) (R : Bool) (hR : Hid (R = true ↔ RowOk n l)) :
    Calls Try.prog 32 #[v, rv] w fun e w' => e = .returned (.bool R) ∧ Gr w w' := by
  unfold maxLen at hll0
  obtain ⟨z1, z2, z3, z4, z5⟩ := hs
  have HV := Lib.hid (fun (u : World) (hu : Gr w u) => hn.out.gr hu)
  obtain ⟨A1, A2, A3, A4, A5, c1, c2, c3, c4, c5, rfl, hc1, h1, h2, h3, h4, h5⟩ := hn.out
  have H1 := Lib.hid h1
  have H2 := Lib.hid h2
  clear h1 h2 h3 h4 h5
  obtain ⟨Ca, xa, rfl, hxa, hca⟩ := hrv.out
  have CA := Lib.hid hca
  clear hca
  obtain ⟨W0, eW, BW, KEEP⟩ : ∃ W0, w.alloc (.cells (bxC n A1 A2 A3 A4 A5 c1 c2 c3 c4 c5) 27) = W0 ∧ Hid (Gr w W0) ∧ Hid (∀ u, Gr W0 u → BxAt u w.heap.size n A1 A2 A3 A4 A5 c1 c2 c3 c4 c5) :=
    ⟨_, rfl, Lib.hid (bel_alloc _ _), Lib.hid fun u hu => bx_gr (bx_new w n A1 A2 A3 A4 A5 c1 c2 c3 c4 c5) (by simp) hu⟩
  have HIM := Lib.hid him
  clear him
  obtain ⟨e0, e1, e2, e3, e4⟩ := KEEP.out W0 (Gr.refl _)
  go_enter Try.func32, Try.ntmps32
  go_upto_region 1 with fail
  try rw [eW]
  clear eW
  by_cases hll : l.length = n.ins.length
  case neg =>
    obtain rfl : R = false := bool_no hR.out (fun h => hll h.1)
    have q1 : ((l.length : Int) != (n.ins.length : Int)) = true := by simp; omega
    go_wp2_with fail
    go_ret
    exact ⟨rfl, BW.out⟩
  have HLL := Lib.hid hll
  rw [hll]
  have q1 : ((n.ins.length : Int) != (n.ins.length : Int)) = false := by simp
  clear hll
  go_wp2_with fail
  clear e0 e1 e2 e3 e4
  go_loopg [16] n.ins.length (fun g i wr => ∃ k : Nat, k + g = n.ins.length ∧ i = .int .i64 k ∧ Hid (∀ (q : Nat) (x : Int) (p : Pn), q < k → l[q]? = some x → n.ins[q]? = some p → 0 ≤ x ∧ x < ((2 ^ (widA n.nodes p.node).toNat : Nat) : Int)) ∧ Hid (Gr W0 wr))
  case atStart => exact ⟨0, by omega, rfl, Lib.hid (fun q x p hq => by omega), Lib.hid (Gr.refl _)⟩
  case round =>
    obtain ⟨k, hkg, rfl, HB, HQ⟩ := hrel
    have HK := Lib.hid hkg
    have hkl : k ≤ n.ins.length := by omega
    clear hkg
    obtain ⟨e0, e1, e2, e3, e4⟩ := KEEP.out _ HQ.out
    by_cases hlk : k < n.ins.length
    · have hlk' : k < l.length := by have := HLL.out; omega
      have hk : l[k]? = some l[k] := List.getElem?_eq_getElem hlk'
      generalize l[k] = x at hk
      have hp : n.ins[k]? = some n.ins[k] := List.getElem?_eq_getElem hlk
      generalize n.ins[k] = p at hp
      have HX := Lib.hid hk
      have HPP := Lib.hid hp
      obtain ⟨ga, pa, rfl, hga, y1'⟩ := CA.out k x hk
      obtain ⟨bb, off, rfl, -, d0, d1⟩ := (H2.out.gr (Gr.trans BW.out HQ.out)) k p hp
      obtain ⟨kn, yn, hkn, hyn, -⟩ := places_mem (op := 21) (l := n.nodes) (p := p.node) (by rw [← HIM.out]; exact List.mem_map.2 ⟨p, List.mem_of_getElem? hp, rfl⟩)
      obtain ⟨hyw1, hyw2⟩ := hw yn (List.mem_of_getElem? hyn)
      have hww : widA n.nodes p.node = yn.w := by rw [hkn]; exact widA_some hyn
      obtain ⟨mm, hm⟩ : ∃ m : Nat, yn.w = m := ⟨yn.w.toNat, by omega⟩
      have hww2 : (widA n.nodes p.node).toNat = mm := by omega
      have HWW := Lib.hid hww2
      rw [hkn] at d1
      obtain ⟨q, hq⟩ : ∃ q : Bool, q = true ↔ 0 ≤ x ∧ x < ((2 ^ mm : Nat) : Int) := by classical exact ⟨decide _, decide_eq_true_iff⟩
      have HQ2 := Lib.hid hq
      have FT := Lib.hid (fun (u : World) (hu : Gr wr u) => sfits_any n _ p.s kn mm yn x u (Lib.hid (HV.out u (Gr.trans BW.out (Gr.trans HQ.out hu)))) hyn hm (by omega) q HQ2)
      have k3 : (k : Int) < (n.ins.length : Int) := by omega
      have k2 : (0 : Int) ≤ (k : Int) := by omega
      clear hk hp hyn hkn hww hm hww2 hq
      go_upto_region 6 with fail
      obtain ⟨V, eV, GV, CV⟩ : ∃ V, wr.alloc (.cells #[.string p.s, .int .i64 (kn : Nat)] 55) = V ∧ Hid (Gr wr V) ∧ Hid (∀ u, Gr V u → BxAt u w.heap.size n A1 (some ⟨bb, off, none⟩) A3 A4 A5 c1 c2 c3 c4 c5 ∧ u.cell? ⟨wr.heap.size, 0, none⟩ = some (.string p.s) ∧ u.cell? ⟨wr.heap.size, 1, none⟩ = some (.int .i64 (kn : Nat)) ∧ u.cell? ⟨ga, pa + k, none⟩ = some (.int .i64 x)) :=
        ⟨_, rfl, Lib.hid (bel_alloc _ _), Lib.hid fun u hu => ⟨KEEP.out _ (Gr.trans HQ.out (Gr.trans (bel_alloc _ _) hu)), cell_up hu (by simp) (new_cells _ _ _ _ _ rfl), cell_up hu (by simp) (new_cells _ _ _ _ _ rfl), cell_up (Gr.trans BW.out (Gr.trans HQ.out (Gr.trans (bel_alloc _ _) hu))) hga y1'⟩⟩
      try rw [eV]
      clear eV e0 e1 e2 e3 e4 d0 d1 y1'
      have GD := Lib.hid (fun (u : World) (hu : Gr V u) => Gr.trans HQ.out (Gr.trans GV.out hu))
      go_region_held3 (fun u => BxAt u w.heap.size n A1 (some ⟨bb, off, none⟩) A3 A4 A5 c1 c2 c3 c4 c5 ∧ u.cell? ⟨wr.heap.size, 0, none⟩ = some (.string p.s) ∧ u.cell? ⟨wr.heap.size, 1, none⟩ = some (.int .i64 (kn : Nat)) ∧ u.cell? ⟨ga, pa + k, none⟩ = some (.int .i64 x))
        (first | exact CV.out _ (Gr.drew _) | exact CV.out _ (by assumption))
        (first
          | (go_at_call 49; (with_reducible refine (FT.out _ (Gr.trans GV.out (Gr.drew _))).mono ?_); rintro e u1 ⟨rfl, hu1'⟩; have hu1 : Gr V u1 := Gr.trans (Gr.drew _) hu1'))
      have HU1 := Lib.hid hu1
      clear hu1 hu1'
      cases q with
      | false =>
        obtain rfl : R = false := bool_no hR.out (fun h => by have h9 := HQ2.out.2 (by rw [← HWW.out]; exact h.2 k x p HX.out HPP.out); cases h9)
        go_wp2_with fail
        go_ret
        exact ⟨rfl, Gr.trans BW.out (GD.out _ HU1.out)⟩
      | true =>
        go_wp2_with fail
        go_roundg (gk - 1)
        case measure => have := HK.out; omega
        case rel =>
          refine ⟨k + 1, by have := HK.out; omega, by go_num, Lib.hid (fun q' x' p' hq' hx' hp' => ?_), Lib.hid (GD.out _ HU1.out)⟩
          by_cases e : q' = k
          · subst e
            obtain rfl := Option.some.inj (HX.out.symm.trans hx')
            obtain rfl := Option.some.inj (HPP.out.symm.trans hp')
            rw [HWW.out]
            exact HQ2.out.1 (by trivial)
          · exact HB.out q' x' p' (by omega) hx' hp'
    · obtain rfl : k = n.ins.length := by omega
      have k4 : ¬ (n.ins.length : Int) < (n.ins.length : Int) := by omega
      obtain rfl : R = true := hR.out.2 ⟨HLL.out, fun q' x' p' hx' hp' => HB.out q' x' p' (List.getElem?_eq_some_iff.1 hp').1 hx' hp'⟩
      go_wp2_with fail
      go_ret
      exact ⟨rfl, Gr.trans BW.out HQ.out⟩

set_option maxRecDepth 100000 in
set_option maxHeartbeats 8000000 in
theorem Tright_any (n : Nt) (v tv : Value) (rows : List (List Int)) (w : World) (hs : Sz n) (hn : Hid (NtAt w n v)) (hw : WOk n.nodes) (him : n.ins.map Pn.node = places n.nodes 21) (hrl : rows.length ≤ maxLen) (hlen : Hid (∀ r ∈ rows, r.length ≤ maxLen)) (htv : Hid (RwsR w tv rows)) (R : Bool) (hR : Hid (R = true ↔ TrRight n rows)) :
    Calls Try.prog 13 #[v, tv] w fun e w' => e = .returned (.bool R) ∧ Gr w w' := by
  unfold maxLen at hrl
  have RR := Lib.hid (fun (l : List Int) (rv : Value) (b : Bool) (hb : b = true ↔ RowOk n l) (hl : l.length ≤ maxLen) (u : World) (hu : Gr w u) (hi : IntR u rv l) => rightRow_any n v rv l u hs (Lib.hid (hn.out.gr hu)) hw him hl (Lib.hid hi) b (Lib.hid hb))
  obtain ⟨A1, A2, A3, A4, A5, c1, c2, c3, c4, c5, rfl, hc1, h1, h2, h3, h4, h5⟩ := hn.out
  clear h1 h2 h3 h4 h5
  obtain ⟨At, ct, rfl, -, hrt⟩ := htv.out
  have HT := Lib.hid hrt
  clear hrt
  obtain ⟨W0, eW, BW, KEEP⟩ : ∃ W0, w.alloc (.cells (bxC n A1 A2 A3 A4 A5 c1 c2 c3 c4 c5) 27) = W0 ∧ Hid (Gr w W0) ∧ Hid (∀ u, Gr W0 u → BxAt u w.heap.size n A1 A2 A3 A4 A5 c1 c2 c3 c4 c5) :=
    ⟨_, rfl, Lib.hid (bel_alloc _ _), Lib.hid fun u hu => bx_gr (bx_new w n A1 A2 A3 A4 A5 c1 c2 c3 c4 c5) (by simp) hu⟩
  clear hs hw him
  go_enter Try.func13, Try.ntmps13
  by_cases h64 : rows.length ≤ 64
  case neg =>
    obtain rfl : R = false := bool_no hR.out (fun h => h64 h.1)
    have k1 : (64 : Int) < (rows.length : Int) := by omega
    go_wp2_with fail
    try rw [eW]
    go_ret
    exact ⟨rfl, BW.out⟩
  have k1 : ¬ (64 : Int) < (rows.length : Int) := by omega
  go_wp2_with fail
  try rw [eW]
  clear eW
  go_loopg [12] rows.length (fun g i wr => ∃ j : Nat, j + g = rows.length ∧ i = .int .i64 j ∧ Hid (∀ (q : Nat) (r : List Int), q < j → rows[q]? = some r → RowOk n r) ∧ Hid (Gr W0 wr))
  case atStart => exact ⟨0, by omega, rfl, Lib.hid (fun q r hq => by omega), Lib.hid (Gr.refl _)⟩
  case round =>
    obtain ⟨j, hjg, rfl, HA, HG⟩ := hrel
    have HJ := Lib.hid hjg
    have hjl : j ≤ rows.length := by omega
    clear hjg
    obtain ⟨e0, e1, e2, e3, e4⟩ := KEEP.out _ HG.out
    by_cases hlt : j < rows.length
    · have hi : rows[j]? = some rows[j] := List.getElem?_eq_getElem hlt
      generalize rows[j] = l at hi
      have HRJ := Lib.hid hi
      obtain ⟨ba, oa, ra, rfl, hba, f1', hra⟩ := HT.out j l hi
      have f1 := cell_up (Gr.trans BW.out HG.out) hba f1'
      obtain ⟨q, hq⟩ : ∃ q : Bool, q = true ↔ RowOk n l := by classical exact ⟨decide _, decide_eq_true_iff⟩
      have HQ2 := Lib.hid hq
      have RC := Lib.hid (RR.out l ra q hq (hlen.out l (List.mem_of_getElem? hi)) _ (Gr.trans BW.out HG.out) (hra.gr (Gr.trans BW.out HG.out)))
      have j1 : (j : Int) < (rows.length : Int) := by omega
      have j2 : (0 : Int) ≤ (j : Int) := by omega
      clear f1' hi hra hq
      go_wp2_with fail
      with_reducible refine RC.out.mono ?_
      rintro e w1 ⟨rfl, hg⟩
      have HG1 := Lib.hid (Gr.trans HG.out hg)
      clear hg e0 e1 e2 e3 e4 f1
      cases q with
      | false =>
        obtain rfl : R = false := bool_no hR.out (fun h => by have h9 := HQ2.out.2 (h.2 j l HRJ.out); cases h9)
        go_wp2_with fail
        go_ret
        exact ⟨rfl, Gr.trans BW.out HG1.out⟩
      | true =>
        go_wp2_with fail
        go_roundg (gk - 1)
        case measure => have := HJ.out; omega
        case rel =>
          refine ⟨j + 1, by have := HJ.out; omega, by go_num, Lib.hid (fun q' r' hq' hr' => ?_), HG1⟩
          by_cases e : q' = j
          · subst e
            obtain rfl := Option.some.inj (HRJ.out.symm.trans hr')
            exact HQ2.out.1 (by trivial)
          · exact HA.out q' r' (by omega) hr'
    · obtain rfl : j = rows.length := by omega
      have j1 : ¬ (rows.length : Int) < (rows.length : Int) := by omega
      obtain rfl : R = true := hR.out.2 ⟨h64, fun q r hr => HA.out q r (List.getElem?_eq_some_iff.1 hr).1 hr⟩
      go_wp2_with fail
      go_ret
      exact ⟨rfl, Gr.trans BW.out HG.out⟩
end Go.Proofs.Ytmnblcnhbafcpaa

namespace Go.Proofs.Ytmnblcnhbafcpaa
open Go.RowKit
open NetM
open VecM

set_option maxRecDepth 100000 in
set_option maxHeartbeats 8000000 in
theorem holds_any (n : Nt) (v sv rv : Value) (vals : List Nat) (w : World) (hs : Sz n) (hn : Hid (NtAt w n v)) (hvl : vals.length = n.nodes.length) (hpr : ∀ p ∈ n.props, 0 ≤ p.node ∧ p.node < (n.nodes.length : Int))
    (hev : Hid (∀ u, Gr w u → Calls Try.prog 26 #[v, sv, rv] u (RowRet u (ofN vals)))) :
    Calls Try.prog 35 #[v, sv, rv] w (BitRet w (prB n vals)) := by
  have SY := Lib.hid (fun (k : Nat) (hk : k < n.nodes.length) (u : World) (hu : Gr w u) => stands_yes n v k u (Lib.hid (hn.out.gr hu)) hk)
  obtain ⟨z1, z2, z3, z4, z5⟩ := hs
  obtain ⟨A1, A2, A3, A4, A5, c1, c2, c3, c4, c5, rfl, hc1, h1, h2, h3, h4, h5⟩ := hn.out
  have H4 := Lib.hid h4
  clear h1 h2 h3 h4 h5
  obtain ⟨W0, eW, BW, KEEP⟩ : ∃ W0, w.alloc (.cells (bxC n A1 A2 A3 A4 A5 c1 c2 c3 c4 c5) 27) = W0 ∧ Hid (Gr w W0) ∧ Hid (∀ u, Gr W0 u → BxAt u w.heap.size n A1 A2 A3 A4 A5 c1 c2 c3 c4 c5) :=
    ⟨_, rfl, Lib.hid (bel_alloc _ _), Lib.hid fun u hu => bx_gr (bx_new w n A1 A2 A3 A4 A5 c1 c2 c3 c4 c5) (by simp) hu⟩
  obtain ⟨e0, e1, e2, e3, e4⟩ := KEEP.out W0 (Gr.refl _)
  obtain ⟨i0, hi, hz0, hz1, hz2⟩ := info_parts info4
  have HI := Lib.hid (And.intro hi (And.intro hz0 (And.intro hz1 hz2)))
  clear hi hz0 hz1 hz2
  have EV := Lib.hid (hev.out _ BW.out)
  go_enter Try.func35, Try.ntmps35
  go_wp2_with fail
  try rw [eW]
  with_reducible refine EV.out.mono ?_
  rintro e w1 ⟨v1, rfl, hi1, hg1, -⟩
  obtain ⟨Am, cm, rfl, -, him⟩ := hi1
  rw [ofN_len, hvl]
  have HM := Lib.hid him
  have HG := Lib.hid hg1
  clear him hg1 eW e0 e1 e2 e3 e4 EV
  obtain ⟨e0, e1, e2, e3, e4⟩ := KEEP.out _ HG.out
  go_wp2_with fail
  clear e0 e1 e2 e3 e4
  go_loopg [8, 18] n.props.length (fun g s5 i wr => ∃ (o : Value) (j : Nat), o = s5 ∧ j + g = n.props.length ∧ i = .int .i64 j ∧ Hid (wr.ownsRow w1.heap.size 4 1 o j (bcells ((n.props.take j).map fun p => decide (getN vals p.node = 1)))) ∧ Hid (Gr w1 wr))
  case atStart => exact ⟨_, 0, rfl, by omega, rfl, Lib.hid (World.ownsRow_nil _ _ _ _), Lib.hid (Gr.refl _)⟩
  case round =>
    obtain ⟨o, j, rfl, hjg, rfl, HO, HW⟩ := hrel
    have HJ := Lib.hid hjg
    have hjl : j ≤ n.props.length := by omega
    clear hjg
    have HWW := Lib.hid (Gr.trans HG.out HW.out)
    obtain ⟨e0, e1, e2, e3, e4⟩ := KEEP.out _ HWW.out
    by_cases hlt : j < n.props.length
    · have hn1 : n.props[j]? = some n.props[j] := List.getElem?_eq_getElem hlt
      generalize n.props[j] = p at hn1
      have HS := Lib.hid (prb_step (v := vals) hn1)
      obtain ⟨k0, k1⟩ := hpr p (List.mem_of_getElem? hn1)
      obtain ⟨k, hk⟩ : ∃ k : Nat, p.node = k := ⟨p.node.toNat, by omega⟩
      obtain ⟨bp, op, rfl, -, d0, d1, d2⟩ := (H4.out.gr (Gr.trans BW.out HWW.out)) j p hn1
      have hkl : k < vals.length := by omega
      obtain ⟨bv, ov, rfl, hbv, f0⟩ := (HM.out.gr HW.out) k (getN vals (k : Nat) : Nat) (ofN_at (by rw [getN_nat, List.getElem?_eq_getElem hkl]; rfl))
      rw [hk] at d2 HS
      generalize getN vals (k : Nat) = x at f0 HS
      have i1 : (j : Int) < (n.props.length : Int) := by omega
      have i2 : (0 : Int) ≤ (j : Int) := by omega
      have i3 : (k : Int) < (n.nodes.length : Int) := by omega
      have i4 : (0 : Int) ≤ (k : Int) := by omega
      have HKL := Lib.hid (show k < n.nodes.length by omega)
      obtain ⟨q, hq⟩ : ∃ q : Bool, decide (x = 1) = q := ⟨_, rfl⟩
      rw [hq] at HS
      have hx : ((x : Int) == 1) = q := by
        rw [← hq]
        by_cases h : x = 1
        · simp [h]
        · have : ¬ (x : Int) = 1 := by omega
          simp [h, this]
      obtain ⟨V, eV, GV, CV⟩ : ∃ V, wr.alloc (.cells #[.int .i64 p.kind, .string p.s, .int .i64 (k : Nat)] 47) = V ∧ Hid (Gr wr V) ∧ Hid (∀ u, Gr V u → BxAt u w.heap.size n A1 A2 A3 (some ⟨bp, op, none⟩) A5 c1 c2 c3 c4 c5 ∧ u.cell? ⟨wr.heap.size, 2, none⟩ = some (.int .i64 (k : Nat)) ∧ u.cell? ⟨bv, ov + k, none⟩ = some (.int .i64 (x : Nat))) :=
        ⟨_, rfl, Lib.hid (bel_alloc _ _), Lib.hid fun u hu => ⟨KEEP.out _ (Gr.trans HWW.out (Gr.trans (bel_alloc _ _) hu)), cell_up hu (by simp) (new_cells _ _ _ _ _ rfl), cell_up (Gr.trans (bel_alloc _ _) hu) hbv f0⟩⟩
      have HX := Lib.hid hx
      clear hn1 hk k0 k1 hq f0 hx hkl
      go_upto_region 6 with fail
      try rw [eV]
      clear eV e0 e1 e2 e3 e4 d0 d1 d2
      obtain ⟨⟨e0, e1, e2, e3, e4⟩, f2, f0⟩ := CV.out _ (Gr.refl _)
      go_wp2_with fail
      with_reducible refine (SY.out k HKL.out _ (Gr.trans BW.out (Gr.trans HWW.out GV.out))).mono ?_
      rintro e w5 ⟨rfl, hg⟩
      have HG5 := Lib.hid (Gr.trans GV.out hg)
      have hg5 := CV.out _ hg
      clear hg e0 e1 e2 e3 e4 f2 f0
      obtain ⟨⟨e0, e1, e2, e3, e4⟩, f2, f0⟩ := hg5
      have HO5 := Lib.hid (own_gr' HO.out HG5.out)
      go_wp2_with (at_builtin; (try rw [HX.out]); refine wpList_append_own _ rfl _ _ 44 rfl w1.heap.size 4 i0 (.bool false) 1 1 Try.underlying44 HI.out.1 HI.out.2.1 HI.out.2.2.1 HI.out.2.2.2 rfl (by decide) _ _ _ rfl (HO5.out.alloc _) ⟨w5.heap.size, 0, none⟩ 1 1 [.bool q] rfl rfl (fun j' u hj => by have h := World.news_of_block (heap_new' w5 (.cells #[.bool q] 4)) j' u hj; exact h) (fun u hu => by obtain rfl := List.mem_singleton.1 hu; rfl) (by unfold maxLen; omega) (by omega) (by have := (Gr.trans HW.out HG5.out).size; simp; omega) ?_; intro v' w3 hown' hgrow3 hnil3; have HO3 := Lib.hid hown'; have HB3 := Lib.hid (app_row HO5.out (Gr.trans HW.out HG5.out) hgrow3); clear hown' hgrow3 hnil3)
      go_roundg (gk - 1)
      case measure => have := HJ.out; omega
      case rel =>
        refine ⟨_, j + 1, rfl, by have := HJ.out; omega, by go_num, Lib.hid ?_, HB3⟩
        rw [HS.out, bcells_snoc]
        exact HO3.out
    · obtain rfl : j = n.props.length := by omega
      have j1 : ¬ (n.props.length : Int) < (n.props.length : Int) := by omega
      have HE := Lib.hid (show BoolR wr o (prB n vals) from by
        have h := HO.out
        rw [List.take_length] at h
        exact bools_of_own h (by unfold prB; rw [List.length_map]))
      have HFR := Lib.hid HO.out.lt
      go_wp2_with fail
      go_ret
      exact ⟨_, rfl, HE.out, Gr.trans BW.out HWW.out, fun b hb => Nat.le_trans (Gr.trans BW.out HG.out).size (HFR.out b hb).1⟩

/-- what a property is where it is hit, and whether it can be -/
def hitAsB (n : Nt) (p : Int) : Bool × Bool :=
  if p < 0 then (false, false) else match n.props[p.toNat]? with
  | none => (false, false)
  | some q => (decide (q.kind = 10), decide (q.kind = 10) || decide (q.kind = 8))
set_option maxRecDepth 100000 in
set_option maxHeartbeats 8000000 in
theorem hitAs_any (n : Nt) (v : Value) (p : Int) (w : World) (hn : Hid (NtAt w n v)) :
    Calls Try.prog 33 #[v, .int .i64 p] w fun e w' => e = .returned (.tuple #[.bool (hitAsB n p).1, .bool (hitAsB n p).2]) ∧ Gr w w' := by
  obtain ⟨A1, A2, A3, A4, A5, c1, c2, c3, c4, c5, rfl, hc1, h1, h2, h3, h4, h5⟩ := hn.out
  have H4 := Lib.hid h4
  clear h1 h2 h3 h4 h5
  obtain ⟨W0, eW, BW, KEEP⟩ : ∃ W0, w.alloc (.cells (bxC n A1 A2 A3 A4 A5 c1 c2 c3 c4 c5) 27) = W0 ∧ Hid (Gr w W0) ∧ Hid (∀ u, Gr W0 u → BxAt u w.heap.size n A1 A2 A3 A4 A5 c1 c2 c3 c4 c5) :=
    ⟨_, rfl, Lib.hid (bel_alloc _ _), Lib.hid fun u hu => bx_gr (bx_new w n A1 A2 A3 A4 A5 c1 c2 c3 c4 c5) (by simp) hu⟩
  obtain ⟨e0, e1, e2, e3, e4⟩ := KEEP.out W0 (Gr.refl _)
  obtain ⟨R, hR⟩ : ∃ R, hitAsB n p = R := ⟨_, rfl⟩
  rw [hR]
  unfold hitAsB at hR
  go_enter Try.func33, Try.ntmps33
  go_upto_region 1 with fail
  try rw [eW]
  clear eW
  by_cases hp : p < 0
  · rw [if_pos hp] at hR
    go_wp2_with fail
    go_ret2
    exact ⟨by rw [← hR]; rfl, BW.out⟩
  rw [if_neg hp] at hR
  obtain ⟨k, rfl⟩ : ∃ k : Nat, p = k := ⟨p.toNat, by omega⟩
  rw [Int.toNat_natCast] at hR
  by_cases hk : k < n.props.length
  · have hq : n.props[k]? = some n.props[k] := List.getElem?_eq_getElem hk
    generalize n.props[k] = q at hq
    simp only [hq] at hR
    obtain ⟨bp, op, rfl, -, d0, d1, d2⟩ := (H4.out.gr BW.out) k q hq
    have k1 : (k : Int) < (n.props.length : Int) := by omega
    have k2 : (0 : Int) ≤ (k : Int) := by omega
    have k3 : ¬ (n.props.length : Int) ≤ (k : Int) := by omega
    have HR := Lib.hid hR
    clear hR hq
    by_cases e10 : q.kind = 10
    · have x1 : (q.kind == 10) = true := by simp [e10]
      rw [e10] at d0 HR
      clear x1
      go_wp2_with fail
      go_ret2
      exact ⟨by rw [← HR.out]; rfl, BW.out⟩
    · have x1 : (q.kind == 10) = false := by simp [e10]
      by_cases e8 : q.kind = 8
      · rw [e8] at d0 HR
        clear x1
        go_wp2_with fail
        go_ret2
        exact ⟨by rw [← HR.out]; rfl, BW.out⟩
      · have x2 : (q.kind == 8) = false := by simp [e8]
        have HR2 := Lib.hid (show ((false, false) : Bool × Bool) = R from by have h := HR.out; simp [e10, e8] at h; exact h)
        go_wp2_with fail
        go_ret2
        exact ⟨by rw [← HR2.out]; rfl, BW.out⟩
  · have hq : n.props[k]? = none := List.getElem?_eq_none (by omega)
    simp only [hq] at hR
    have k1 : (n.props.length : Int) ≤ (k : Int) := by omega
    go_wp2_with fail
    go_ret2
    exact ⟨by rw [← hR]; rfl, BW.out⟩
end Go.Proofs.Ytmnblcnhbafcpaa
