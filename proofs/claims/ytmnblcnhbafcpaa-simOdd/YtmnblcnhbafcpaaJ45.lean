/-
  The document's Right of a trace, WALKED.
-/
import Derived.Test.YtmnblcnhbafcpaaJ37
namespace Go.Proofs.Ytmnblcnhbafcpaa
open Go.RowKit
open NetM
open VecM

/-- is a row one of the net's inputs? -/
def RowOk (n : Nt) (r : List Int) : Prop := r.length = n.ins.length ∧ ∀ (k : Nat) (x : Int) (p : Pn), r[k]? = some x → n.ins[k]? = some p → 0 ≤ x ∧ x < ((2 ^ (widA n.nodes p.node).toNat : Nat) : Int)
def TrRight (n : Nt) (rows : List (List Int)) : Prop := rows.length ≤ 64 ∧ ∀ (j : Nat) (r : List Int), rows[j]? = some r → RowOk n r
set_option maxRecDepth 100000 in
set_option maxHeartbeats 16000000 in
theorem RTright_any (n : Nt) (v tv : Value) (rows : List (List Int)) (w : World) (hs : Sz n) (hn : Hid (NtAt w n v)) (hw : WOk n.nodes) (him : n.ins.map Pn.node = places n.nodes 21) (hrl : rows.length ≤ maxLen) (htv : Hid (RwsR w tv rows)) :
    Calls Try.prog 14 #[v, tv] w fun e w' => ∃ R : Bool, e = .returned (.bool R) ∧ (R = true ↔ TrRight n rows) ∧ Gr w w' := by
  unfold maxLen at hrl
  obtain ⟨z1, z2, z3, z4, z5⟩ := hs
  obtain ⟨A1, A2, A3, A4, A5, c1, c2, c3, c4, c5, rfl, hc1, h1, h2, h3, h4, h5⟩ := hn.out
  have H1 := Lib.hid h1
  have H2 := Lib.hid h2
  clear h1 h2 h3 h4 h5
  obtain ⟨At, ct, rfl, -, hrt⟩ := htv.out
  have HT := Lib.hid hrt
  clear hrt
  obtain ⟨W0, eW, BW, KEEP⟩ : ∃ W0, w.alloc (.cells (bxC n A1 A2 A3 A4 A5 c1 c2 c3 c4 c5) 27) = W0 ∧ Hid (Gr w W0) ∧ Hid (∀ u, Gr W0 u → BxAt u w.heap.size n A1 A2 A3 A4 A5 c1 c2 c3 c4 c5) :=
    ⟨_, rfl, Lib.hid (bel_alloc _ _), Lib.hid fun u hu => bx_gr (bx_new w n A1 A2 A3 A4 A5 c1 c2 c3 c4 c5) (by simp) hu⟩
  have HIM := Lib.hid him
  clear him
  go_enter Try.func14, Try.ntmps14
  by_cases h64 : rows.length ≤ 64
  case neg =>
    have k1 : (64 : Int) < (rows.length : Int) := by omega
    go_wp2_with fail
    try rw [eW]
    go_ret
    exact ⟨false, rfl, ⟨fun h => by simp at h, fun h => absurd h.1 h64⟩, BW.out⟩
  have k1 : ¬ (64 : Int) < (rows.length : Int) := by omega
  go_wp2_with fail
  try rw [eW]
  clear eW
  go_loopg [5] rows.length (fun g i wr => ∃ j : Nat, j + g = rows.length ∧ i = .int .i64 j ∧ Hid (∀ (q : Nat) (r : List Int), q < j → rows[q]? = some r → RowOk n r) ∧ Hid (Gr W0 wr))
  case atStart => exact ⟨0, by omega, rfl, Lib.hid (fun q r hq => by omega), Lib.hid (Gr.refl _)⟩
  case round =>
    obtain ⟨j, hjg, rfl, HA, HG⟩ := hrel
    have HJ := Lib.hid hjg
    have hjl : j ≤ rows.length := by omega
    clear hjg
    by_cases hlt : j < rows.length
    · have hi : rows[j]? = some rows[j] := List.getElem?_eq_getElem hlt
      generalize rows[j] = l at hi
      have HRJ := Lib.hid hi
      obtain ⟨ba, oa, ra, rfl, hba, f1', hra⟩ := HT.out j l hi
      obtain ⟨Ca, xa, rfl, hxa, hca⟩ := hra
      have CA := Lib.hid hca
      have F1 := Lib.hid (fun (u : World) (hu : Gr w u) => cell_up hu hba f1')
      have f1 := F1.out _ (Gr.trans BW.out HG.out)
      obtain ⟨e0, e1, e2, e3, e4⟩ := KEEP.out _ HG.out
      clear f1' hi hca
      have j1 : (j : Int) < (rows.length : Int) := by omega
      have j2 : (0 : Int) ≤ (j : Int) := by omega
      by_cases hll : l.length = n.ins.length
      case neg =>
        have m1 : ¬ (l.length : Int) = (n.ins.length : Int) := by omega
        have GD := Lib.hid (fun (u : World) (hu : Gr wr u) => Gr.trans BW.out (Gr.trans HG.out hu))
        have NR := Lib.hid (show ¬ TrRight n rows from fun h => hll (h.2 j l HRJ.out).1)
        go_wp2_with fail
        go_quiet (fail)
        go_wp2_with fail
        go_ret
        exact ⟨false, rfl, ⟨fun h => by simp at h, fun h => absurd h NR.out⟩, GD.out _ (Below.drewN (Gr.refl _) _)⟩
      have HLL := Lib.hid hll
      rw [hll] at f1 F1
      clear hll
      go_wp2_with fail
      go_quiet (fail)
      clear f1 e0 e1 e2 e3 e4
      go_wp2_with fail
      go_loopg [6] n.ins.length (fun g i wr => ∃ k : Nat, k + g = n.ins.length ∧ i = .int .i64 k ∧ Hid (∀ (q : Nat) (x : Int) (p : Pn), q < k → l[q]? = some x → n.ins[q]? = some p → 0 ≤ x ∧ x < ((2 ^ (widA n.nodes p.node).toNat : Nat) : Int)) ∧ Hid (Gr W0 wr))
      case atStart => exact ⟨0, by omega, rfl, Lib.hid (fun q x p hq => by omega), Lib.hid (Below.drewN HG.out _)⟩
      case round =>
        obtain ⟨k, hkg, rfl, HB, HQ⟩ := hrel
        have HK := Lib.hid hkg
        have hkl : k ≤ n.ins.length := by omega
        clear hkg
        have f1 := F1.out _ (Gr.trans BW.out HQ.out)
        obtain ⟨e0, e1, e2, e3, e4⟩ := KEEP.out _ HQ.out
        have GD := Lib.hid (fun (u : World) (hu : Gr wr u) => Gr.trans HQ.out hu)
        by_cases hlk : k < n.ins.length
        · have hlk' : k < l.length := by have := HLL.out; omega
          have hk : l[k]? = some l[k] := List.getElem?_eq_getElem hlk'
          generalize l[k] = x at hk
          have hp : n.ins[k]? = some n.ins[k] := List.getElem?_eq_getElem hlk
          generalize n.ins[k] = p at hp
          have HX := Lib.hid hk
          have HPP := Lib.hid hp
          obtain ⟨ga, pa, rfl, hga, y1'⟩ := CA.out k x hk
          have x1 := cell_up (Gr.trans BW.out HQ.out) hga y1'
          obtain ⟨bb, off, rfl, -, d0, d1⟩ := (H2.out.gr (Gr.trans BW.out HQ.out)) k p hp
          obtain ⟨kn, yn, hkn, hyn, -⟩ := places_mem (op := 21) (l := n.nodes) (p := p.node) (by rw [← HIM.out]; exact List.mem_map.2 ⟨p, List.mem_of_getElem? hp, rfl⟩)
          obtain ⟨by1, offy, rfl, -, y0, y1, y2, y3, y4, y5, y6⟩ := (H1.out.gr (Gr.trans BW.out HQ.out)) kn yn hyn
          have hknl : kn < n.nodes.length := (List.getElem?_eq_some_iff.1 hyn).1
          obtain ⟨hyw1, hyw2⟩ := hw yn (List.mem_of_getElem? hyn)
          have hww : widA n.nodes p.node = yn.w := by rw [hkn]; exact widA_some hyn
          obtain ⟨mm, hm⟩ : ∃ m : Nat, yn.w = m := ⟨yn.w.toNat, by omega⟩
          have hww2 : (widA n.nodes p.node).toNat = mm := by omega
          have HWW := Lib.hid hww2
          obtain ⟨q, hq⟩ : ∃ q, 2 ^ mm - 1 = q := ⟨_, rfl⟩
          have hpow : 0 < 2 ^ mm := Nat.two_pow_pos mm
          have HQP := Lib.hid (show (((2 ^ mm : Nat) : Int)) = (q : Int) + 1 by omega)
          have MK := Lib.hid (show ∀ u, Calls Try.prog 27 #[.int .i64 yn.w] u fun e w' => e = .returned (.int .i64 (q : Nat)) ∧ w' = u from fun u => by rw [hm]; exact (rmask_is (k := mm) (by omega) hq u).mono fun e w' ⟨h1, h2⟩ => ⟨h1, h2.symm⟩)
          rw [hkn] at d1
          have k3 : (k : Int) < (n.ins.length : Int) := by omega
          have k2 : (0 : Int) ≤ (k : Int) := by omega
          have kn1 : (kn : Int) < (n.nodes.length : Int) := by omega
          have kn0 : (0 : Int) ≤ (kn : Int) := by omega
          clear y1' hk hp hyn hkn hww hm hww2 hq hpow
          by_cases hx0 : x < 0
          · have NR := Lib.hid (show ¬ TrRight n rows from fun h => by
              have h9 := ((h.2 j l HRJ.out).2 k x p HX.out HPP.out).1
              omega)
            have GE := Lib.hid (fun (u : World) (hu : Gr wr u) => Gr.trans BW.out (Gr.trans HQ.out hu))
            go_wp2_with fail
            go_quiet ((go_at_call 27; exact Calls.quiet_of_same (MK.out _)))
            go_wp2_with fail
            go_ret
            exact ⟨false, rfl, ⟨fun h => by simp at h, fun h => absurd h NR.out⟩, GE.out _ (Below.drewN (Gr.refl _) _)⟩
          · by_cases hxq : (q : Int) < x
            · have NR := Lib.hid (show ¬ TrRight n rows from fun h => by
                have h9 := ((h.2 j l HRJ.out).2 k x p HX.out HPP.out).2
                rw [HWW.out, HQP.out] at h9
                omega)
              have GE := Lib.hid (fun (u : World) (hu : Gr wr u) => Gr.trans BW.out (Gr.trans HQ.out hu))
              go_wp2_with fail
              go_quiet ((go_at_call 27; exact Calls.quiet_of_same (MK.out _)))
              go_wp2_with fail
              go_ret
              exact ⟨false, rfl, ⟨fun h => by simp at h, fun h => absurd h NR.out⟩, GE.out _ (Below.drewN (Gr.refl _) _)⟩
            · have HOK := Lib.hid (show 0 ≤ x ∧ x < ((2 ^ (widA n.nodes p.node).toNat : Nat) : Int) from by rw [HWW.out, HQP.out]; omega)
              go_wp2_with fail
              go_quiet ((go_at_call 27; exact Calls.quiet_of_same (MK.out _)))
              clear f1 e0 e1 e2 e3 e4 x1 d0 d1 y0 y1 y2 y3 y4 y5 y6
              go_wp2_with fail
              go_roundg (gk - 1)
              case measure => have := HK.out; omega
              case rel =>
                refine ⟨k + 1, by have := HK.out; omega, by go_num, Lib.hid (fun q' x' p' hq' hx' hp' => ?_), Lib.hid (GD.out _ (Below.drewN (Gr.refl _) _))⟩
                by_cases e : q' = k
                · subst e
                  obtain rfl := Option.some.inj (HX.out.symm.trans hx')
                  obtain rfl := Option.some.inj (HPP.out.symm.trans hp')
                  exact HOK.out
                · exact HB.out q' x' p' (by omega) hx' hp'
        · obtain rfl : k = n.ins.length := by omega
          have k4 : ¬ (n.ins.length : Int) < (n.ins.length : Int) := by omega
          have HRO := Lib.hid (show RowOk n l from ⟨HLL.out, fun q' x' p' hx' hp' => HB.out q' x' p' (List.getElem?_eq_some_iff.1 hp').1 hx' hp'⟩)
          go_wp2_with fail
          go_roundg (rows.length - j - 1)
          case measure => have := HJ.out; omega
          case rel =>
            refine ⟨j + 1, by have := HJ.out; omega, by go_num, Lib.hid (fun q' r' hq' hr' => ?_), Lib.hid (GD.out _ (Gr.refl _))⟩
            by_cases e : q' = j
            · subst e
              obtain rfl := Option.some.inj (HRJ.out.symm.trans hr')
              exact HRO.out
            · exact HA.out q' r' (by omega) hr'
    · obtain rfl : j = rows.length := by omega
      have j1 : ¬ (rows.length : Int) < (rows.length : Int) := by omega
      have GE := Lib.hid (Gr.trans BW.out HG.out)
      go_wp2_with fail
      go_ret
      exact Or.inr ⟨rfl, ⟨h64, fun q' r' hr' => HA.out q' r' (List.getElem?_eq_some_iff.1 hr').1 hr'⟩, GE.out⟩
end Go.Proofs.Ytmnblcnhbafcpaa
