/-
  net.Eval, First, After, WALKED.
-/
import Derived.Test.YtmnblcnhbafcpaaJ14
import Derived.OwnWalk
namespace Go.Proofs.Ytmnblcnhbafcpaa
open Go.RowKit
open NetM

theorem app0 {w w' : World} (h : w.grownBy w' none) : Gr w w' := ⟨h.os, h.tape, h.output, h.size, fun i hi => h.block i hi (by simp)⟩
theorem own_gr {w w2 : World} {base n : Nat} {v : Value} {xs : List Value} (h : w.ownsRow base 3 1 v n xs) (hb : Gr w w2) : w2.ownsRow base 3 1 v n xs :=
  h.kept (row := none) ⟨hb.os, hb.tape, hb.output, hb.size, fun i hi _ => hb.block i hi⟩ (Classical.em _)
set_option maxRecDepth 100000 in
set_option maxHeartbeats 4000000 in
theorem Eval_any (n : Nt) (v sv iv : Value) (st ins : List Nat) (w : World) (hs : Sz n) (hn : Hid (NtAt w n v)) (hok : NdsOk n.nodes) (hst : st.length ≤ 4000) (hin : ins.length ≤ 4000) (hsv : Hid (IntR w sv (ofN st))) (hiv : Hid (IntR w iv (ofN ins)))
    (hlim : Hid (∀ k z, k ≤ n.nodes.length → z ∈ evL n.nodes st ins k → z < 65536)) :
    Calls Try.prog 26 #[v, sv, iv] w (RowRet w (ofN (evAll n st ins))) := by
  obtain ⟨z1, z2, z3, z4, z5⟩ := hs
  obtain ⟨As, cs, rfl, -, hss⟩ := hsv.out
  obtain ⟨Ai, ci, rfl, -, hii⟩ := hiv.out
  have HS0 := Lib.hid hss
  have HI0 := Lib.hid hii
  clear hss hii
  obtain ⟨A1, A2, A3, A4, A5, c1, c2, c3, c4, c5, rfl, hc1, h1, h2, h3, h4, h5⟩ := hn.out
  have H1 := Lib.hid h1
  have H2 := Lib.hid h2
  have H3 := Lib.hid h3
  have H4 := Lib.hid h4
  have H5 := Lib.hid h5
  clear h1 h2 h3 h4 h5
  obtain ⟨W0, eW, BW, KEEP⟩ : ∃ W0, w.alloc (.cells (bxC n A1 A2 A3 A4 A5 c1 c2 c3 c4 c5) 27) = W0 ∧ Hid (Gr w W0) ∧ Hid (∀ u, Gr W0 u → BxAt u w.heap.size n A1 A2 A3 A4 A5 c1 c2 c3 c4 c5) :=
    ⟨_, rfl, Lib.hid (bel_alloc _ _), Lib.hid fun u hu => bx_gr (bx_new w n A1 A2 A3 A4 A5 c1 c2 c3 c4 c5) (by simp) hu⟩
  obtain ⟨e0, e1, e2, e3, e4⟩ := KEEP.out W0 (Gr.refl _)
  obtain ⟨i0, hi, hz0, hz1, hz2⟩ := info_parts info3
  have HI := Lib.hid (And.intro hi (And.intro hz0 (And.intro hz1 hz2)))
  clear hi hz0 hz1 hz2
  have hwok := wok_of hok
  have HOK := Lib.hid hok
  clear hok
  have ATs := Lib.hid (show ∀ (i : Nat) u, Gr w u → Calls Try.prog 43 #[.slice As (ofN st).length cs, .int .i64 (i : Nat)] u fun e w' => e = .returned (.int .i64 (getN st (i : Nat) : Nat)) ∧ u = w' from fun i u hu => by rw [← getA_ofN]; exact at_any As cs _ (ofN st) (i : Nat) u (by rw [ofN_len]; exact hst) (Lib.hid (HS0.out.gr hu)))
  have ATi := Lib.hid (show ∀ (i : Nat) u, Gr w u → Calls Try.prog 43 #[.slice Ai (ofN ins).length ci, .int .i64 (i : Nat)] u fun e w' => e = .returned (.int .i64 (getN ins (i : Nat) : Nat)) ∧ u = w' from fun i u hu => by rw [← getA_ofN]; exact at_any Ai ci _ (ofN ins) (i : Nat) u (by rw [ofN_len]; exact hin) (Lib.hid (HI0.out.gr hu)))
  go_enter Try.func26, Try.ntmps26
  go_wp2_with (at_make; (refine wpList_make_own _ rfl _ _ 42 rfl W0.heap.size 3 i0 (.int .i64 0) 1 Try.underlying42 HI.out.1 HI.out.2.1 HI.out.2.2.1 _ _ _ n.nodes.length rfl rfl rfl (by rw [HI.out.2.2.2]; omega) (by unfold maxLen; omega) (by first | exact Nat.le_refl _ | (rw [← eW]; exact Nat.le_refl _)) ?_; intro wm hmk hgm; have HMK := Lib.hid hmk; have HGM := Lib.hid (app0 hgm); clear hmk hgm; obtain ⟨e0, e1, e2, e3, e4⟩ := KEEP.out _ HGM.out))
  go_loopg [7, 8, 9, 20] n.nodes.length (fun g mv pv cv i wr => ∃ j : Nat, j + g = n.nodes.length ∧ i = .int .i64 j ∧ Hid (pv = .int .i64 (cnt 21 (n.nodes.take j) : Nat)) ∧ Hid (cv = .int .i64 (cnt 22 (n.nodes.take j) : Nat)) ∧ Hid (wr.ownsRow W0.heap.size 3 1 mv j (icells (ofN (evL n.nodes st ins j)))) ∧ Hid (Gr W0 wr))
  case atStart => exact ⟨0, by omega, rfl, Lib.hid rfl, Lib.hid rfl, Lib.hid HMK.out, Lib.hid HGM.out⟩
  case round =>
    obtain ⟨j, hjg, rfl, HPV, HCV, HO, HW⟩ := hrel
    obtain rfl := HPV.out
    obtain rfl := HCV.out
    have HJ := Lib.hid hjg
    have hjl : j ≤ n.nodes.length := by omega
    clear hjg HPV HCV
    by_cases hlt : j < n.nodes.length
    · have hs : n.nodes[j]? = some n.nodes[j] := List.getElem?_eq_getElem hlt
      generalize n.nodes[j] = x at hs
      have HS := Lib.hid hs
      have HES := Lib.hid (evL_step (st := st) (ins := ins) hs)
      have HC1 := Lib.hid (cnt_step (op := 21) hs)
      have HC2 := Lib.hid (cnt_step (op := 22) hs)
      have hc1l := cnt_le 21 (n.nodes.take j)
      have hc2l := cnt_le 22 (n.nodes.take j)
      have htl : (n.nodes.take j).length ≤ 400 := by rw [List.length_take]; omega
      obtain ⟨Am, cm, rfl, -, him⟩ := ints_of_own HO.out (by rw [ofN_len, evL_len _ _ _ _ hjl])
      have HM0 := Lib.hid him
      clear him
      have hml : (ofN (evL n.nodes st ins j)).length = j := by rw [ofN_len, evL_len _ _ _ _ hjl]
      rw [hml] at HO ⊢
      have HML := Lib.hid hml
      clear hml
      obtain ⟨p1, hp1⟩ : ∃ p, cnt 21 (n.nodes.take j) = p := ⟨_, rfl⟩
      obtain ⟨p2, hp2⟩ : ∃ p, cnt 22 (n.nodes.take j) = p := ⟨_, rfl⟩
      rw [hp1] at HC1 hc1l ⊢
      rw [hp2] at HC2 hc2l ⊢
      obtain ⟨bb, off, rfl, -, d0, d1, d2, d3, d4, d5, d6⟩ := (H1.out.gr (Gr.trans BW.out HW.out)) j x hs
      have hi1 : (j : Int) < (n.nodes.length : Int) := by omega
      have hi0 : (0 : Int) ≤ (j : Int) := by omega
      have hws := HW.out.size
      have HWX := Lib.hid (Gr.trans HW.out (bel_alloc wr (.cells #[.int .i64 x.op, .int .i64 x.w, .int .i64 x.a, .int .i64 x.b, .int .i64 x.c, .int .i64 x.n, .int .i64 x.lo] 53)))
      have HOX := Lib.hid (HO.out.alloc (.cells #[.int .i64 x.op, .int .i64 x.w, .int .i64 x.a, .int .i64 x.b, .int .i64 x.c, .int .i64 x.n, .int .i64 x.lo] 53))
      have hwx := HWX.out.size
      by_cases h21 : x.op = 21
      · have q : (x.op == 21) = true := by simp [h21]
        have AT := Lib.hid (ATi.out p1 _ (Gr.trans BW.out HWX.out))
        have hev : ev1 n.nodes st ins j (evL n.nodes st ins j) x = getN ins (p1 : Nat) := by unfold ev1; rw [if_pos h21, hp1]
        rw [hev] at HES
        rw [if_pos h21] at HC1
        rw [if_neg (by omega)] at HC2
        generalize getN ins (p1 : Nat) = r at AT HES
        clear h21 hev hs hp1 hp2
        go_wp2_with fail
        refine AT.out.mono ?_
        rintro e w' ⟨rfl, rfl⟩
        go_wp2_with (at_builtin; refine wpList_append_own _ rfl _ _ 42 rfl W0.heap.size 3 i0 (.int .i64 0) 1 8 Try.underlying42 HI.out.1 HI.out.2.1 HI.out.2.2.1 HI.out.2.2.2 rfl (by decide) _ _ _ rfl (HOX.out.alloc _) ⟨wr.heap.size + 1, 0, none⟩ 1 1 [.int .i64 ((r : Nat))] rfl rfl (fun j' u hj => by have := int_new (wr.alloc (.cells #[.int .i64 x.op, .int .i64 x.w, .int .i64 x.a, .int .i64 x.b, .int .i64 x.c, .int .i64 x.n, .int .i64 x.lo] 53)) (.int .i64 ((r : Nat))) 3 j' u hj; simpa using this) (fun x hx => by simp at hx; subst hx; rfl) (by unfold maxLen; omega) (by omega) (by simp; omega) ?_; intro v' w3 hown' hgrow3 hnil3; have HO3 := Lib.hid hown'; have HB3 := Lib.hid (app_row HOX.out HWX.out hgrow3); clear hown' hgrow3 hnil3)
        go_roundg (gk - 1)
        case measure => have := HJ.out; omega
        case rel => exact ⟨j + 1, by have := HJ.out; omega, by go_num, Lib.hid (by rw [HC1.out]; first | rfl | go_num), Lib.hid (by rw [HC2.out]; rfl), Lib.hid (by rw [HES.out, ofN_snoc, icells_snoc]; exact HO3.out), HB3⟩
      by_cases h22 : x.op = 22
      · have q : (x.op == 21) = false := by simp [h21]
        have q2 : (x.op == 22) = true := by simp [h22]
        have AT := Lib.hid (ATs.out p2 _ (Gr.trans BW.out HWX.out))
        have hev : ev1 n.nodes st ins j (evL n.nodes st ins j) x = getN st (p2 : Nat) := by unfold ev1; rw [if_neg h21, if_pos h22, hp2]
        rw [hev] at HES
        rw [if_neg h21] at HC1
        rw [if_pos h22] at HC2
        generalize getN st (p2 : Nat) = r at AT HES
        clear h21 h22 hev hs hp1 hp2
        go_wp2_with fail
        refine AT.out.mono ?_
        rintro e w' ⟨rfl, rfl⟩
        go_wp2_with (at_builtin; refine wpList_append_own _ rfl _ _ 42 rfl W0.heap.size 3 i0 (.int .i64 0) 1 8 Try.underlying42 HI.out.1 HI.out.2.1 HI.out.2.2.1 HI.out.2.2.2 rfl (by decide) _ _ _ rfl (HOX.out.alloc _) ⟨wr.heap.size + 1, 0, none⟩ 1 1 [.int .i64 ((r : Nat))] rfl rfl (fun j' u hj => by have := int_new (wr.alloc (.cells #[.int .i64 x.op, .int .i64 x.w, .int .i64 x.a, .int .i64 x.b, .int .i64 x.c, .int .i64 x.n, .int .i64 x.lo] 53)) (.int .i64 ((r : Nat))) 3 j' u hj; simpa using this) (fun x hx => by simp at hx; subst hx; rfl) (by unfold maxLen; omega) (by omega) (by simp; omega) ?_; intro v' w3 hown' hgrow3 hnil3; have HO3 := Lib.hid hown'; have HB3 := Lib.hid (app_row HOX.out HWX.out hgrow3); clear hown' hgrow3 hnil3)
        go_roundg (gk - 1)
        case measure => have := HJ.out; omega
        case rel => exact ⟨j + 1, by have := HJ.out; omega, by go_num, Lib.hid (by rw [HC1.out]; rfl), Lib.hid (by rw [HC2.out]; first | rfl | go_num), Lib.hid (by rw [HES.out, ofN_snoc, icells_snoc]; exact HO3.out), HB3⟩
      have q : (x.op == 21) = false := by simp [h21]
      have q2 : (x.op == 22) = false := by simp [h22]
      have hwt : WOk (n.nodes.take j) := fun y hy => hwok y (List.mem_of_mem_take hy)
      obtain ⟨op, W, N, Lo, x1, x2, x3, x4, ho, hW1, hW, hLo⟩ := node_nat hwt (HOK.out j x hs) h21 h22
      obtain ⟨r, hr⟩ : ∃ r, doV op W N Lo (getN (evL n.nodes st ins j) x.a) (getN (evL n.nodes st ins j) x.b) (getN (evL n.nodes st ins j) x.c) (widA n.nodes x.b).toNat = r := ⟨_, rfl⟩
      have hev : ev1 n.nodes st ins j (evL n.nodes st ins j) x = r := by
        unfold ev1
        rw [if_neg h21, if_neg h22, x1, x2, x3, x4]
        simp only [Int.toNat_natCast]
        exact hr
      rw [hev] at HES
      rw [if_neg h21] at HC1
      rw [if_neg h22] at HC2
      have hget : ∀ i, getN (evL n.nodes st ins j) i < 65536 := fun i => by
        unfold getN
        split
        · omega
        · cases e : (evL n.nodes st ins j)[i.toNat]? with
          | none => simp
          | some z => simpa using hlim.out j z hjl (List.mem_of_getElem? e)
      have hwb := widA_ok hwok x.b
      have DO := Lib.hid (show ∀ u, Calls Try.prog 44 #[.agg #[.int .i64 x.op, .int .i64 x.w, .int .i64 x.a, .int .i64 x.b, .int .i64 x.c, .int .i64 x.n, .int .i64 x.lo], .int .i64 (getA (ofN (evL n.nodes st ins j)) x.a), .int .i64 (getA (ofN (evL n.nodes st ins j)) x.b), .int .i64 (getA (ofN (evL n.nodes st ins j)) x.c), .int .i64 (widA n.nodes x.b)] u fun e w' => e = .returned (.int .i64 (r : Nat)) ∧ Gr u w' from fun u => by
        have hwn : widA n.nodes x.b = ((widA n.nodes x.b).toNat : Int) := by omega
        rw [getA_ofN, getA_ofN, getA_ofN, x1, x2, x3, x4, hwn]
        exact do_is ho hW hLo (by omega) (hget _) (hget _) hr u)
      have ATm := Lib.hid (fun (i : Int) (u : World) (hu : Gr wr u) => at_any Am cm _ (ofN (evL n.nodes st ins j)) i u (by rw [HML.out]; omega) (Lib.hid (HM0.out.gr hu)))
      rw [HML.out] at ATm
      have WI := Lib.hid (fun (i : Int) (u : World) (hu : Gr wr u) => width_any (some ⟨bb, off, none⟩) c1 _ n.nodes i u (by omega) (Lib.hid (H1.out.gr (Gr.trans BW.out (Gr.trans HW.out hu)))))
      obtain ⟨W1, eW1, BW1, HO1, KEEP1⟩ : ∃ W1, wr.alloc (.cells #[.int .i64 x.op, .int .i64 x.w, .int .i64 x.a, .int .i64 x.b, .int .i64 x.c, .int .i64 x.n, .int .i64 x.lo] 53) = W1 ∧ Hid (Gr wr W1) ∧ Hid (W1.ownsRow W0.heap.size 3 1 (.slice Am j cm) j (icells (ofN (evL n.nodes st ins j)))) ∧ Hid (∀ u, Gr W1 u → XAt u wr.heap.size x ∧ u.cell? ⟨w.heap.size, 0, none⟩ = some (.slice (some ⟨bb, off, none⟩) n.nodes.length c1)) :=
        ⟨_, rfl, Lib.hid (bel_alloc _ _), HOX, Lib.hid fun u hu => ⟨x_gr (x_new wr x) (by simp) hu, (KEEP.out u (Gr.trans HWX.out hu)).1⟩⟩
      have K0 := KEEP1.out W1 (Gr.refl _)
      generalize getA (ofN (evL n.nodes st ins j)) = ga at DO ATm
      clear h21 h22 hev hs hp1 hp2 hget x1 x2 x3 x4 ho hW1 hW hLo hr
      go_wp2_with fail
      try rw [eW1]
      clear eW1
      go_region_held3 (fun u => XAt u wr.heap.size x ∧ u.cell? ⟨w.heap.size, 0, none⟩ = some (.slice (some ⟨bb, off, none⟩) n.nodes.length c1))
        (first | exact KEEP1.out _ (Gr.drew _) | exact KEEP1.out _ (by assumption))
        (first
          | (go_at_call 43; (with_reducible refine (ATm.out _ _ (Gr.trans BW1.out (Gr.drew _))).mono ?_); rintro e u1 ⟨rfl, rfl⟩)
          | (go_at_call 45; (with_reducible refine (WI.out _ _ (Gr.trans BW1.out (Gr.drew _))).mono ?_); rintro e u1 ⟨rfl, rfl⟩)
          | (go_at_call 44; (with_reducible refine (DO.out _).mono ?_); rintro e u1 ⟨rfl, hu1'⟩; have hu1 : Gr W1 u1 := Gr.trans (Gr.drew _) hu1'))
      have HO2 := Lib.hid (own_gr HO1.out hu1)
      have HU := Lib.hid (Gr.trans HW.out (Gr.trans BW1.out hu1))
      have hux := HU.out.size
      clear hu1 hu1'
      go_wp2_with (at_builtin; refine wpList_append_own _ rfl _ _ 42 rfl W0.heap.size 3 i0 (.int .i64 0) 1 8 Try.underlying42 HI.out.1 HI.out.2.1 HI.out.2.2.1 HI.out.2.2.2 rfl (by decide) _ _ _ rfl (HO2.out.alloc _) ⟨u1.heap.size, 0, none⟩ 1 1 [.int .i64 ((r : Nat))] rfl rfl (fun j' u hj => by have := int_new u1 (.int .i64 ((r : Nat))) 3 j' u hj; simpa using this) (fun x hx => by simp at hx; subst hx; rfl) (by unfold maxLen; omega) (by omega) (by simp; omega) ?_; intro v' w3 hown' hgrow3 hnil3; have HO3 := Lib.hid hown'; have HB3 := Lib.hid (app_row HO2.out HU.out hgrow3); clear hown' hgrow3 hnil3)
      go_roundg (gk - 1)
      case measure => have := HJ.out; omega
      case rel => exact ⟨j + 1, by have := HJ.out; omega, by go_num, Lib.hid (by rw [HC1.out]; rfl), Lib.hid (by rw [HC2.out]; rfl), Lib.hid (by rw [HES.out, ofN_snoc, icells_snoc]; exact HO3.out), HB3⟩
    · have hjn : j = n.nodes.length := by omega
      subst hjn
      have HFR := Lib.hid HO.out.lt
      have hrow := ints_of_own HO.out (by rw [ofN_len, evL_len _ _ _ _ (Nat.le_refl _)])
      have HR := Lib.hid (hrow.gr (Gr.refl _))
      clear hrow
      go_wp2_with fail
      go_ret
      exact ⟨_, rfl, HR.out, Gr.trans BW.out HW.out, fun b hb => Nat.le_trans BW.out.size (HFR.out b hb).1⟩
end Go.Proofs.Ytmnblcnhbafcpaa
