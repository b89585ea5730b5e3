/-
  Trace of the laws, WALKED.
-/
import Derived.Test.YtmnblcnhbafcpaaJ36
namespace Go.Proofs.Ytmnblcnhbafcpaa
open Go.RowKit
open NetM
open VecM

/-- raw rows, one behind the other -/
def RawP (w : World) (A : Option Addr) (l : List (List Nat)) : Prop := ∀ (i : Nat) (r : List Nat), l[i]? = some r → ∃ b off P c, A = some ⟨b, off, none⟩ ∧ b < w.heap.size ∧ w.cell? ⟨b, off + i, none⟩ = some (.slice P r.length c) ∧ U16s w w.heap.size P r ∧ r.length ≤ maxLen ∧ ∀ x ∈ r, x < 65536
theorem RawP.gr {w u : World} {A : Option Addr} {l : List (List Nat)} (h : RawP w A l) (hu : Gr w u) : RawP u A l := fun i r hi => by
  obtain ⟨b, off, P, c, e, hb, hc, hr, k1, k2⟩ := h i r hi
  exact ⟨b, off, P, c, e, Nat.lt_of_lt_of_le hb hu.size, cell_up hu hb hc, hr.gr hu, k1, k2⟩
/-- the trace of raw rows -/
def trOf (n : Nt) (l : List (List Nat)) : List (List Nat) := (l.take 64).map (inOf n)
theorem trOf_len (n : Nt) (l : List (List Nat)) : (trOf n l).length ≤ 64 := by
  unfold trOf
  rw [List.length_map, List.length_take]
  omega
theorem trOf_ok (n : Nt) (l : List (List Nat)) : TrOk n (trOf n l) := fun r hr => by
  obtain ⟨x, -, rfl⟩ := List.mem_map.1 hr
  exact ⟨inOf_len n x, inOf_ok n x⟩
set_option maxRecDepth 100000 in
set_option maxHeartbeats 16000000 in
theorem Trace_any (n : Nt) (v : Value) (A : Option Addr) (cA : Nat) (l : List (List Nat)) (w : World) (hs : Sz n) (hn : Hid (NtAt w n v)) (hw : WOk n.nodes) (him : n.ins.map Pn.node = places n.nodes 21) (hl : l.length ≤ maxLen) (hL : Hid (RawP w A l)) :
    Calls Try.prog 15 #[v, .slice A l.length cA] w fun e w' => ∃ v', e = .returned v' ∧ RwsR w' v' ((trOf n l).map ofN) ∧ Gr w w' := by
  unfold maxLen at hl
  obtain ⟨z1, z2, z3, z4, z5⟩ := hs
  obtain ⟨A1, A2, A3, A4, A5, c1, c2, c3, c4, c5, rfl, hc1, h1, h2, h3, h4, h5⟩ := hn.out
  have H1 := Lib.hid h1
  have H2 := Lib.hid h2
  clear h1 h2 h3 h4 h5
  obtain ⟨W0, eW, BW, KEEP⟩ : ∃ W0, w.alloc (.cells (bxC n A1 A2 A3 A4 A5 c1 c2 c3 c4 c5) 27) = W0 ∧ Hid (Gr w W0) ∧ Hid (∀ u, Gr W0 u → BxAt u w.heap.size n A1 A2 A3 A4 A5 c1 c2 c3 c4 c5) :=
    ⟨_, rfl, Lib.hid (bel_alloc _ _), Lib.hid fun u hu => bx_gr (bx_new w n A1 A2 A3 A4 A5 c1 c2 c3 c4 c5) (by simp) hu⟩
  obtain ⟨e0, e1, e2, e3, e4⟩ := KEEP.out W0 (Gr.refl _)
  obtain ⟨i0, hi, hz0, hz1, hz2⟩ := info_parts info3
  have HI := Lib.hid (And.intro hi (And.intro hz0 (And.intro hz1 hz2)))
  clear hi hz0 hz1 hz2
  obtain ⟨i4, hi, hz0, hz1, hz2⟩ := info_parts info42
  have HI4 := Lib.hid (And.intro hi (And.intro hz0 (And.intro hz1 hz2)))
  clear hi hz0 hz1 hz2
  have HIM := Lib.hid him
  clear him
  go_enter Try.func15, Try.ntmps15
  go_wp2_with fail
  try rw [eW]
  clear eW e0 e1 e2 e3 e4
  go_loopg [5, 6] l.length (fun g o y wr => ∃ (i : Nat) (us : List Value), i + g = l.length ∧ i ≤ 64 ∧ y = .int .i64 i ∧ Hid (RwsU W0 o us (((l.take i).map (inOf n)).map ofN) wr))
  case atStart => exact ⟨0, [], by omega, by omega, rfl, Lib.hid (rws_nil W0)⟩
  case round =>
    obtain ⟨i, us, hig, hi64, rfl, HR⟩ := hrel
    obtain ⟨W2, rfl⟩ : ∃ x, x = wr := ⟨_, rfl⟩
    have HJI := Lib.hid hig
    have hil : i ≤ l.length := by omega
    clear hig
    have G2 := Lib.hid HR.out.1
    obtain ⟨e0, e1, e2, e3, e4⟩ := KEEP.out _ G2.out
    by_cases hgo : i < l.length ∧ i < 64
    · obtain ⟨hgo1, hgo2⟩ := hgo
      have hri : l[i]? = some l[i] := List.getElem?_eq_getElem hgo1
      generalize l[i] = rb at hri
      obtain ⟨bl, ol, P, cP, rfl, hbl, f1, hp, hrl, hrb2⟩ := (hL.out.gr (Gr.trans BW.out G2.out)) i rb hri
      unfold maxLen at hrl
      have HP := Lib.hid hp
      have HRI := Lib.hid hri
      have j1 : (i : Int) < (l.length : Int) := by omega
      have j2 : (0 : Int) ≤ (i : Int) := by omega
      have j3 : (i : Int) < 64 := by omega
      clear hri hp
      have HF1 := Lib.hid (And.intro hbl f1)
      have HST := Lib.hid (show ((l.take (i + 1)).map (inOf n)).map ofN = ((l.take i).map (inOf n)).map ofN ++ [ofN (inOf n rb)] from by rw [List.take_add_one, HRI.out]; simp)
      have HRN := Lib.hid (show (((l.take i).map (inOf n)).map ofN).length = i from by rw [List.length_map, List.length_map, List.length_take]; omega)
      go_wp2_with fail
      clear e0 e1 e2 e3 e4 f1 hbl
      go_loopg [7, 8] n.ins.length (fun g2 s7 y wr => ∃ (rv : Value) (j : Nat), rv = s7 ∧ j + g2 = n.ins.length ∧ y = .int .i64 j ∧ Hid (wr.ownsRow W2.heap.size 3 1 rv j (icells (ofN ((List.range j).map (rowG n.nodes (n.ins.map Pn.node) rb))))) ∧ Hid (Gr W2 wr))
      case atStart => exact ⟨_, 0, rfl, by omega, rfl, Lib.hid (World.ownsRow_nil _ _ _ _), Lib.hid (Gr.refl _)⟩
      case round =>
        obtain ⟨rv, j, rfl, hjg, rfl, HO, HW⟩ := hrel
        have HJ := Lib.hid hjg
        have hjl : j ≤ n.ins.length := by omega
        clear hjg
        have HWW := Lib.hid (Gr.trans G2.out HW.out)
        obtain ⟨e0, e1, e2, e3, e4⟩ := KEEP.out _ HWW.out
        have f1 := cell_up HW.out HF1.out.1 HF1.out.2
        have hws := HW.out.size
        by_cases hlt : j < n.ins.length
        case pos =>
          have hs : n.ins[j]? = some n.ins[j] := List.getElem?_eq_getElem hlt
          generalize n.ins[j] = x at hs
          have HS := Lib.hid hs
          have hi1 : (j : Int) < (n.ins.length : Int) := by omega
          have hi0 : (0 : Int) ≤ (j : Int) := by omega
          have RS := Lib.hid (row_step (rowG n.nodes (n.ins.map Pn.node) rb) j)
          obtain ⟨r, hr⟩ : ∃ r, rowG n.nodes (n.ins.map Pn.node) rb j = r := ⟨_, rfl⟩
          rw [hr] at RS
          have hr2 : (rb[j]?.getD 0) % 2 ^ (widA n.nodes x.node).toNat = r := by rw [← hr]; unfold rowG; rw [List.getElem?_map, hs]; rfl
          clear hr
          by_cases hja : j < rb.length
          case neg =>
            have hja2 : ¬ (j : Int) < (rb.length : Int) := by omega
            rw [List.getElem?_eq_none (by omega)] at hr2
            simp only [Option.getD_none, Nat.zero_mod] at hr2
            subst hr2
            go_wp2_with (at_builtin; refine wpList_append_own _ rfl _ _ 42 rfl W2.heap.size 3 i0 (.int .i64 0) 1 8 Try.underlying42 HI.out.1 HI.out.2.1 HI.out.2.2.1 HI.out.2.2.2 rfl (by decide) _ _ _ rfl (HO.out.alloc _) ⟨wr.heap.size, 0, none⟩ 1 1 [.int .i64 0] rfl rfl (fun j' u hj => by have := int_new wr (.int .i64 0) 3 j' u hj; simpa using this) (fun x hx => by simp at hx; subst hx; rfl) (by unfold maxLen; omega) (by omega) (by simp; omega) ?_; intro v' w3 hown' hgrow3 hnil3; have HO3 := Lib.hid hown'; have HB3 := Lib.hid (app_row HO.out HW.out hgrow3); clear hown' hgrow3 hnil3)
            go_roundg (gk - 1)
            case measure => have := HJ.out; omega
            case rel => exact ⟨_, j + 1, rfl, by have := HJ.out; omega, by go_num, Lib.hid (by rw [RS.out, ofN_snoc, icells_snoc]; exact HO3.out), HB3⟩
          case pos =>
            have hja2 : (j : Int) < (rb.length : Int) := by omega
            have hsa : rb[j]? = some rb[j] := List.getElem?_eq_getElem hja
            generalize rb[j] = y at hsa
            rw [hsa] at hr2
            simp only [Option.getD_some] at hr2
            have hy2 := hrb2 y (List.mem_of_getElem? hsa)
            obtain ⟨ba, offa, rfl, -, f0⟩ := (HP.out.gr HW.out) j y hsa
            obtain ⟨bb, off, rfl, -, d0, d1⟩ := (H2.out.gr (Gr.trans BW.out HWW.out)) j x hs
            obtain ⟨k, yn, hk, hyn, -⟩ := places_mem (op := 21) (l := n.nodes) (p := x.node) (by rw [← HIM.out]; exact List.mem_map.2 ⟨x, List.mem_of_getElem? hs, rfl⟩)
            obtain ⟨by1, offy, rfl, -, y0, y1, y2, y3, y4, y5, y6⟩ := (H1.out.gr (Gr.trans BW.out HWW.out)) k yn hyn
            have hkl : k < n.nodes.length := (List.getElem?_eq_some_iff.1 hyn).1
            obtain ⟨hyw1, hyw2⟩ := hw yn (List.mem_of_getElem? hyn)
            have hww : widA n.nodes x.node = yn.w := by rw [hk]; exact widA_some hyn
            obtain ⟨mm, hm⟩ : ∃ m : Nat, yn.w = m := ⟨yn.w.toNat, by omega⟩
            rw [hww, hm, Int.toNat_natCast] at hr2
            obtain ⟨q, hq⟩ : ∃ q, 2 ^ mm - 1 = q := ⟨_, rfl⟩
            have MK := Lib.hid (show ∀ u, Calls Try.prog 27 #[.int .i64 yn.w] u fun e w' => e = .returned (.int .i64 (q : Nat)) ∧ w' = u from fun u => by rw [hm]; exact (rmask_is (k := mm) (by omega) hq u).mono fun e w' ⟨h1, h2⟩ => ⟨h1, h2.symm⟩)
            have hx := and_mask_nat (a := y) (k := mm) (by omega)
            rw [hq, hr2] at hx
            have hwy := wrap_nat (a := y) (by omega)
            rw [hk] at d1
            have hk1 : (k : Int) < (n.nodes.length : Int) := by omega
            have hk0 : (0 : Int) ≤ (k : Int) := by omega
            have HX := Lib.hid hx
            clear hs hsa hyn hk hww hm hq hr2
            go_wp2_with fail
            go_quiet ((go_at_call 27; exact Calls.quiet_of_same (MK.out _)))
            try rw [HX.out]
            have HOQ := Lib.hid (own_gr HO.out (Below.drewN (Gr.refl _) nq))
            have HWQ := Lib.hid (show Gr W2 (wr.drewN nq) from Below.drewN HW.out nq)
            go_wp2_with (at_builtin; refine wpList_append_own _ rfl _ _ 42 rfl W2.heap.size 3 i0 (.int .i64 0) 1 8 Try.underlying42 HI.out.1 HI.out.2.1 HI.out.2.2.1 HI.out.2.2.2 rfl (by decide) _ _ _ rfl (HOQ.out.alloc _) ⟨wr.heap.size, 0, none⟩ 1 1 [.int .i64 (r : Nat)] rfl rfl (fun j' u hj => by have := int_new (wr.drewN nq) (.int .i64 (r : Nat)) 3 j' u hj; simpa using this) (fun x hx => by simp at hx; subst hx; rfl) (by unfold maxLen; omega) (by omega) (by simp; omega) ?_; intro v' w3 hown' hgrow3 hnil3; have HO3 := Lib.hid hown'; have HB3 := Lib.hid (app_row HOQ.out HWQ.out hgrow3); clear hown' hgrow3 hnil3)
            go_roundg (gk - 1)
            case measure => have := HJ.out; omega
            case rel => exact ⟨_, j + 1, rfl, by have := HJ.out; omega, by go_num, Lib.hid (by rw [RS.out, ofN_snoc, icells_snoc]; exact HO3.out), HB3⟩
        have hjn : j = n.ins.length := by omega
        subst hjn
        have hi1 : ¬ (n.ins.length : Int) < (n.ins.length : Int) := by omega
        have hrow := ints_of_own HO.out (by rw [ofN_len]; simp)
        have HR2 := Lib.hid (show IntR wr rv (ofN (inOf n rb)) by unfold inOf rowOf; rw [List.length_map]; exact hrow)
        have HFR := Lib.hid HO.out.lt
        have hone : rv.oneCell' = true := by obtain ⟨A, c, rfl, -⟩ := hrow; rfl
        have HOO := Lib.hid hone
        clear hrow hone f1
        obtain ⟨Ar, cr, hrv, -⟩ := HR2.out
        rw [ofN_len, inOf_len] at hrv
        subst hrv
        have HA := Lib.hid ((HR.out.gr HW.out).gr (bel_alloc wr (.cells #[.slice Ar n.ins.length cr] 42)))
        go_wp2_with (at_builtin; refine wpList_append_lies _ rfl _ _ 28 rfl W0.heap.size 42 i4 (.slice none 0 0) 1 24 Try.underlying28 HI4.out.1 HI4.out.2.1 HI4.out.2.2.1 HI4.out.2.2.2 rfl (by decide) _ _ us rfl HA.out.2.1 ⟨wr.heap.size, 0, none⟩ 1 1 [.slice Ar n.ins.length cr] rfl rfl (World.news_of_block (heap_new' wr _)) (fun u hu => by obtain rfl := List.mem_singleton.1 hu; exact HOO.out) (by decide) (by rw [HRN.out]; unfold maxLen; omega) (by rw [HRN.out]; omega) HA.out.1.size _ rfl ?_; intro gz cz w7 hown hgrow hor hlt3; have HN := Lib.hid (rws_step HA.out (HR2.out.gr (bel_alloc wr _)) HOO.out (fun _ b hb e => by have h1 := (HFR.out b hb).1; have h2 := (HR.out.2.1.lt b e.symm).2; omega) hgrow hor hown); clear hown hgrow hor hlt3)
        go_roundg (l.length - i - 1)
        case measure => have := HJI.out; omega
        case rel =>
          refine ⟨i + 1, us ++ [.slice Ar n.ins.length cr], by have := HJI.out; omega, by omega, by go_num, Lib.hid ?_⟩
          have h9 := HN.out
          rw [HRN.out] at h9
          rw [HST.out]
          exact h9
    · have hend : l.take i = l.take 64 := by
        by_cases h64 : i = 64
        · rw [h64]
        · have : i = l.length := by omega
          rw [List.take_of_length_le (by omega), List.take_of_length_le (by omega)]
      have HE := Lib.hid (show RwsR W2 _ ((trOf n l).map ofN) from by
        have h := rws_own HR.out
        rw [hend] at h
        exact h)
      clear hend
      by_cases h1 : i < l.length
      · have j1 : (i : Int) < (l.length : Int) := by omega
        have j3 : ¬ (i : Int) < 64 := by omega
        go_wp2_with fail
        go_ret
        exact ⟨_, rfl, HE.out, Gr.trans BW.out G2.out⟩
      · have j1 : ¬ (i : Int) < (l.length : Int) := by omega
        go_wp2_with fail
        go_ret
        exact ⟨_, rfl, HE.out, Gr.trans BW.out G2.out⟩
end Go.Proofs.Ytmnblcnhbafcpaa
