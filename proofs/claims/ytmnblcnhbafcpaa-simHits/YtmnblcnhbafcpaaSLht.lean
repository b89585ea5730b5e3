/-
  SimHits, WALKED.
-/
import Derived.Test.YtmnblcnhbafcpaaSTak
namespace Go.Proofs.Ytmnblcnhbafcpaa
open Go.RowKit
open NetM
open VecM

/-- all assumptions ahead of k are so -/
def legU (ps : List Pr) (bs : List Bool) (k : Nat) : Bool := (List.range k).all fun i => !(decide ((ps[i]?.map Pr.kind) = some 9)) || (bs[i]?.getD false)
theorem legU_succ {ps : List Pr} {bs : List Bool} {k : Nat} {p : Pr} {b : Bool} (hp : ps[k]? = some p) (hb : bs[k]? = some b) : legU ps bs (k + 1) = (legU ps bs k && (!(decide (p.kind = 9)) || b)) := by
  unfold legU
  rw [List.range_succ, List.all_append]
  simp [hp, hb]
theorem bits_get {n : Nt} {t : List (List Nat)} {i k : Nat} (hk : k < n.props.length) : ∃ b, (bitsAt n t i)[k]? = some b := by
  refine ⟨_, List.getElem?_eq_getElem (by rw [show (bitsAt n t i).length = n.props.length from prB_len _ _]; exact hk)⟩
theorem htA_at {n : Nt} {t : List (List Nat)} {p : Pr} {q i : Nat} {b : Bool} (h : (bitsAt n t i)[q]? = some b) : htA n t p q i = hitB p b := by
  unfold htA
  rw [h]
  rfl
set_option maxRecDepth 100000 in
set_option maxHeartbeats 16000000 in
theorem hits_walk (n : Nt) (v : Value) (A : Option Addr) (cA : Nat) (l : List (List Nat)) (p : Nat) (w : World) (hn : Hid (NtAt w n v)) (hl : l.length ≤ maxLen) (hL : Hid (RawP w A l)) (hp8 : p < 256) :
    Calls Try.prog 7 #[v, .slice A l.length cA, .int .u8 p] w fun e w' => e = .returned (.bool true) ∧ Gr w w' := by
  have HV := Lib.hid (fun (u : World) (hu : Gr w u) => hn.out.gr hu)
  obtain ⟨A1, A2, A3, A4, A5, c1, c2, c3, c4, c5, rfl, hc1, h1, h2, h3, h4, h5⟩ := hn.out
  have H1 := Lib.hid h1
  have H2 := Lib.hid h2
  have H3 := Lib.hid h3
  have H4 := Lib.hid h4
  have H5 := Lib.hid h5
  clear h1 h2 h3 h4 h5
  obtain ⟨W0, eW, BW, KEEP⟩ : ∃ W0, w.alloc (.cells (bxC n A1 A2 A3 A4 A5 c1 c2 c3 c4 c5) 27) = W0 ∧ Hid (Gr w W0) ∧ Hid (∀ u, Gr W0 u → BxAt u w.heap.size n A1 A2 A3 A4 A5 c1 c2 c3 c4 c5) :=
    ⟨_, rfl, Lib.hid (bel_alloc _ _), Lib.hid fun u hu => bx_gr (bx_new w n A1 A2 A3 A4 A5 c1 c2 c3 c4 c5) (by simp) hu⟩
  obtain ⟨e0, e1, e2, e3, e4⟩ := KEEP.out W0 (Gr.refl _)
  have H0 := Lib.hid Shead_any
  obtain ⟨gb, hgb⟩ : ∃ gb : Bool, gb = true ↔ NGreat n := by classical exact ⟨decide _, decide_eq_true_iff⟩
  obtain ⟨rb, hrb⟩ : ∃ rb : Bool, rb = true ↔ NRight n := by classical exact ⟨decide _, decide_eq_true_iff⟩
  have GC := Lib.hid (fun (u : World) (hu : Gr w u) => Great_any n _ u (Lib.hid (HV.out u hu)) gb (Lib.hid hgb))
  go_enter Try.func7, Try.ntmps7
  go_wp2_with fail
  try rw [eW]
  clear eW
  refine (H0.out _).mono ?_
  rintro e w1 ⟨rfl, hg⟩
  have G1 := Lib.hid hg
  clear hg e0 e1 e2 e3 e4
  obtain ⟨e0, e1, e2, e3, e4⟩ := KEEP.out _ G1.out
  go_wp2_with fail
  refine (GC.out _ (Gr.trans BW.out G1.out)).mono ?_
  rintro e w2 ⟨rfl, hg⟩
  have G2 := Lib.hid (Gr.trans G1.out hg)
  clear hg e0 e1 e2 e3 e4
  obtain ⟨e0, e1, e2, e3, e4⟩ := KEEP.out _ G2.out
  cases gb with
  | true =>
    go_wp2_with fail
    all_goals
      go_ret
      exact ⟨rfl, Gr.trans BW.out G2.out⟩
  | false =>
  have hz := sz_of (fun h => by have := hgb.2 h; simp at this)
  have hs : Sz n := by unfold Sz; omega
  have RC := Lib.hid (fun (u : World) (hu : Gr w u) => RRight_any n _ u hs (Lib.hid (HV.out u hu)) rb (Lib.hid hrb))
  clear hgb GC
  go_wp2_with fail
  refine (RC.out _ (Gr.trans BW.out G2.out)).mono ?_
  rintro e w3 ⟨rfl, hg⟩
  have G3 := Lib.hid (Gr.trans G2.out hg)
  clear RC
  clear hg e0 e1 e2 e3 e4
  obtain ⟨e0, e1, e2, e3, e4⟩ := KEEP.out _ G3.out
  cases rb with
  | false =>
    go_wp2_with fail
    all_goals
      go_ret
      exact ⟨rfl, Gr.trans BW.out G3.out⟩
  | true =>
  have hR := hrb.1 rfl
  clear hrb
  have hw := wok_of hR.1
  have hI := hR.2.1.2
  by_cases hp0 : n.props.length = 0
  · have q0 : ((n.props.length : Int) == 0) = true := by simp [hp0]
    clear hp0
    go_wp2_with fail
    all_goals
      go_ret
      exact ⟨rfl, Gr.trans BW.out G3.out⟩
  have q0 : ((n.props.length : Int) == 0) = false := beq_eq_false_iff_ne.2 (by omega)
  have q1 : ¬ (n.props.length : Int) = 0 := by omega
  have TR := Lib.hid (Trace_any n _ A cA l w3 hs (Lib.hid (HV.out _ (Gr.trans BW.out G3.out))) hw hI hl (Lib.hid (hL.out.gr (Gr.trans BW.out G3.out))))
  go_wp2_with fail
  refine TR.out.mono ?_
  rintro e w4 ⟨vt, rfl, ht4, hg⟩
  have G4 := Lib.hid (Gr.trans G3.out hg)
  obtain ⟨t, htq⟩ : ∃ t, trOf n l = t := ⟨_, rfl⟩
  have hto : TrOk n t := by rw [← htq]; exact trOf_ok n l
  have htl : t.length ≤ 64 := by rw [← htq]; exact trOf_len n l
  rw [htq] at ht4
  have HT := Lib.hid ht4
  obtain ⟨At, ct, rfl, hct, hrt⟩ := ht4
  rw [List.length_map] at hct HT ⊢
  have HTP := Lib.hid hrt
  clear hrt TR htq
  clear hg e0 e1 e2 e3 e4
  obtain ⟨e0, e1, e2, e3, e4⟩ := KEEP.out _ G4.out
  have HV4 := Lib.hid (fun (u : World) (hu : Gr w4 u) => HV.out u (Gr.trans BW.out (Gr.trans G4.out hu)))
  have ST := Lib.hid (fun (u : World) (hu : Gr w4 u) => SStates_any n _ _ t u hs (Lib.hid (HV4.out u hu)) hR hto htl (Lib.hid (HT.out.gr hu)))
  have RU := Lib.hid (fun (u : World) (hu : Gr w4 u) => SRun_any n _ _ t u hs (Lib.hid (HV4.out u hu)) hR hto htl (Lib.hid (HT.out.gr hu)))
  have HH := Lib.hid (fun (pi : Int) (u : World) (hu : Gr w4 u) => SHit_any n _ _ pi t u hs (Lib.hid (HV4.out u hu)) hR hto htl (Lib.hid (HT.out.gr hu)))
  have U4 := Lib.hid (Gr.refl w4)
  obtain ⟨q, hq⟩ : ∃ q, q = p % n.props.length := ⟨_, rfl⟩
  have hql : q < n.props.length := by rw [hq]; exact Nat.mod_lt _ (by omega)
  have htm : Int.tmod (p : Int) (n.props.length : Int) = (q : Int) := by rw [Int.tmod_eq_emod_of_nonneg (by omega), ← Int.natCast_emod, ← hq]
  have r0 := wrap_int (y := (p : Int)) (by omega) (by omega)
  have hz := hs
  unfold Sz at hz
  have r1 := wrap_int (y := (q : Int)) (by omega) (by omega)
  clear hz
  have hpr : n.props[q]? = some n.props[q] := List.getElem?_eq_getElem hql
  generalize n.props[q] = pr at hpr
  obtain ⟨kk, is, hki⟩ : ∃ kk is, hitF n t pr q 0 t.length = (kk, is) := ⟨_, _, rfl⟩
  have HQ := Lib.hid (fun (u : World) (hu : Gr w4 u) => HH.out (q : Int) u hu)
  simp only [hitOf_at hpr, hki] at HQ
  have KI := Lib.hid hki
  have PR := Lib.hid hpr
  have hkk : kk < 2 ^ 62 := by
    cases is with
    | true => have := (hitF_spec hki).2.1; omega
    | false => have h := hitF_none (t := t) (n := n) (p := pr) (pi := q) (m := t.length) (s := 0) (by rw [hki]); rw [hki] at h; simp at h; omega
  clear hki hpr HH ST hq
  go_wp2_with fail
  refine (HQ.out _ U4.out).mono ?_
  rintro e w5 ⟨rfl, hg⟩
  have G5 := Lib.hid (Gr.trans G4.out hg)
  have U5 := Lib.hid (Gr.trans U4.out hg)
  clear htm r0 r1 HQ
  clear hg e0 e1 e2 e3 e4
  obtain ⟨e0, e1, e2, e3, e4⟩ := KEEP.out _ G5.out
  go_wp2_with fail
  refine (RU.out _ U5.out).mono ?_
  rintro e w6 ⟨vr, rfl, hr1, hg⟩
  have G6 := Lib.hid (Gr.trans G5.out hg)
  have U6 := Lib.hid (Gr.trans U5.out hg)
  obtain ⟨Ar, cr, rfl, hcr, hr1⟩ := hr1
  have HR := Lib.hid hr1
  rw [runL_len] at hcr ⊢
  clear hr1
  clear hg e0 e1 e2 e3 e4
  obtain ⟨e0, e1, e2, e3, e4⟩ := KEEP.out _ G6.out
  clear RU
  have r2 : ((t.length : Int) != (t.length : Int)) = false := by simp
  go_wp2_with fail
  clear e0 e1 e2 e3 e4 r2
  go_loopg [13] t.length (fun g y wr => ∃ i : Nat, i + g = t.length ∧ y = .int .i64 i ∧ Hid (Gr w6 wr) ∧ Hid (∀ j, j < i → lgA n t j = true ∧ htA n t pr q j = false))
  case atStart => exact ⟨0, by omega, rfl, Lib.hid (Gr.refl _), Lib.hid (fun j h => by omega)⟩
  case round =>
    obtain ⟨i, hig, rfl, HW, HI⟩ := hrel
    have HIG := Lib.hid hig
    have hil : i ≤ t.length := by omega
    clear hig
    obtain ⟨e0, e1, e2, e3, e4⟩ := KEEP.out _ (Gr.trans G6.out HW.out)
    by_cases hlt : i < t.length
    case neg =>
      have hin : i = t.length := by omega
      subst hin
      have hno := hitF_clear (n := n) (t := t) (p := pr) (pi := q) (m := t.length) (s := 0) (fun j _ h2 => (HI.out j (by omega)).2)
      rw [KI.out] at hno
      obtain rfl : is = false := hno
      have i1 : ¬ (t.length : Int) < (t.length : Int) := by omega
      go_wp2_with fail
      go_ret
      exact ⟨rfl, Gr.trans BW.out (Gr.trans G6.out HW.out)⟩
    case pos =>
    have i1 : (i : Int) < (t.length : Int) := by omega
    have i2 : (0 : Int) ≤ (i : Int) := by omega
    obtain ⟨br, or, X4, x4, rfl, -, s4, p4⟩ := bws_get (HR.out.gr HW.out) (runL_at (n := n) (t := t) hlt)
    have hbl : (bitsAt n t i).length = n.props.length := prB_len _ _
    rw [hbl] at s4 p4
    have S4 := Lib.hid s4
    have P4 := Lib.hid p4
    have SL := Lib.hid (cell_lt s4)
    clear p4 hbl
    have r2 : ((n.props.length : Int) != (n.props.length : Int)) = false := by simp
    go_wp2_with fail
    go_quiet (fail)
    have DW := Lib.hid (show Gr wr (wr.drewN nq) from Below.drewN (Gr.refl _) nq)
    have D9 := Lib.hid (show Gr w6 (wr.drewN nq) from Below.drewN HW.out nq)
    generalize wr.drewN nq = W9 at DW D9 ⊢
    clear e0 e1 e2 e3 e4 s4 r2
    obtain ⟨e0, e1, e2, e3, e4⟩ := KEEP.out _ (Gr.trans G6.out D9.out)
    go_wp2_with fail
    clear e0 e1 e2 e3 e4
    go_loopg [14, 15] n.props.length (fun g b y wr => ∃ j : Nat, j + g = n.props.length ∧ y = .int .i64 j ∧ b = .bool (legU n.props (bitsAt n t i) j) ∧ Hid (Gr W9 wr))
    case atStart => exact ⟨0, by omega, rfl, rfl, Lib.hid (Gr.refl _)⟩
    case round =>
      obtain ⟨j, hjg, rfl, rfl, HWJ⟩ := hrel
      rename_i wj
      have HJG := Lib.hid hjg
      have hjl : j ≤ n.props.length := by omega
      clear hjg
      obtain ⟨e0, e1, e2, e3, e4⟩ := KEEP.out _ (Gr.trans G6.out (Gr.trans D9.out HWJ.out))
      have s4 := cell_up (Gr.trans DW.out HWJ.out) SL.out S4.out
      by_cases hlj : j < n.props.length
      case pos =>
        have j1 : (j : Int) < (n.props.length : Int) := by omega
        have j2 : (0 : Int) ≤ (j : Int) := by omega
        have hp : n.props[j]? = some n.props[j] := List.getElem?_eq_getElem hlj
        generalize n.props[j] = p0 at hp
        obtain ⟨x, hx⟩ := bits_get (n := n) (t := t) (i := i) hlj
        have hsc := legU_succ hp hx
        obtain ⟨bp, op, rfl, -, d0, d1, d2⟩ := (H4.out.gr (Gr.trans BW.out (Gr.trans G6.out (Gr.trans D9.out HWJ.out)))) j p0 hp
        obtain ⟨b6, o6, rfl, s6⟩ := bool_get (P4.out.gr (Gr.trans DW.out HWJ.out)) hx
        generalize hb : legU n.props (bitsAt n t i) j = b at hsc ⊢
        have HSC := Lib.hid hsc
        clear hsc hb hp hx d1 d2
        cases b with
        | false =>
          go_wp2_with fail
          go_roundg (gk - 1)
          case measure => have := HJG.out; omega
          case rel => exact ⟨j + 1, by have := HJG.out; omega, by go_num, (by rw [HSC.out]; rfl), HWJ⟩
        | true =>
        by_cases h9 : p0.kind = 9
        case pos =>
          have k9 : (p0.kind != 9) = false := by simp [h9]
          have HX := Lib.hid (show legU n.props (bitsAt n t i) (j + 1) = x by rw [HSC.out]; simp [h9])
          clear HSC h9
          go_wp2_with fail
          go_roundg (gk - 1)
          case measure => have := HJG.out; omega
          case rel => exact ⟨j + 1, by have := HJG.out; omega, by go_num, (by rw [HX.out]), HWJ⟩
        case neg =>
          have k9 : (p0.kind != 9) = true := by simp [h9]
          have HX := Lib.hid (show legU n.props (bitsAt n t i) (j + 1) = true by rw [HSC.out]; simp [h9])
          clear HSC h9
          go_wp2_with fail
          go_roundg (gk - 1)
          case measure => have := HJG.out; omega
          case rel => exact ⟨j + 1, by have := HJG.out; omega, by go_num, (by rw [HX.out]), HWJ⟩
      case neg =>
      have hjn : j = n.props.length := by omega
      subst hjn
      have j1 : ¬ (n.props.length : Int) < (n.props.length : Int) := by omega
      obtain ⟨bb, hbb⟩ : ∃ bb, lgA n t i = bb := ⟨_, rfl⟩
      rw [show legU n.props (bitsAt n t i) n.props.length = bb from hbb]
      have GE := Lib.hid (Gr.trans BW.out (Gr.trans G6.out (Gr.trans D9.out HWJ.out)))
      cases bb with
      | false =>
        have hno := hitF_stop (n := n) (t := t) (p := pr) (pi := q) (m := t.length) (s := 0) (k := i) (by omega) (by omega) (fun j _ h2 => (HI.out j h2).2) hbb
        rw [KI.out] at hno
        obtain rfl : is = false := hno
        clear hbb hlj hjl
        go_wp2_with fail
        go_ret
        exact ⟨rfl, GE.out⟩
      | true =>
      obtain ⟨x, hx⟩ := bits_get (n := n) (t := t) (i := i) hql
      have hta := htA_at (p := pr) hx
      obtain ⟨bp, op, rfl, -, d0, d1, d2⟩ := (H4.out.gr (Gr.trans BW.out (Gr.trans G6.out (Gr.trans D9.out HWJ.out)))) q pr PR.out
      obtain ⟨b6, o6, rfl, s6⟩ := bool_get (P4.out.gr (Gr.trans DW.out HWJ.out)) hx
      have q4 : (q : Int) < (n.props.length : Int) := by omega
      have q5 : (0 : Int) ≤ (q : Int) := by omega
      have HT2 := Lib.hid hta
      have HB2 := Lib.hid hbb
      clear hta hbb hx d1 d2 hlj hjl
      by_cases h8 : pr.kind = 8
      case pos =>
        have k8 : (pr.kind == 8) = true := by simp [h8]
        have k10 : (pr.kind == 10) = false := by simp [h8]
        have H8 := Lib.hid h8
        clear h8
        cases x with
        | false =>
          have hyes := hitF_mk (n := n) (t := t) (p := pr) (pi := q) (m := t.length) (s := 0) (k := i) (by omega) (by omega) (fun j _ h2 => by by_cases e : j = i; (rw [e]; exact HB2.out); exact (HI.out j (by omega)).1) (fun j _ h2 => (HI.out j h2).2) (by rw [HT2.out]; unfold hitB; simp [H8.out])
          rw [KI.out] at hyes
          obtain ⟨rfl, rfl⟩ := Prod.mk.inj hyes
          have r3 : ((kk : Int) == (kk : Int)) = true := by simp
          clear hyes
          go_wp2_with fail
          go_ret
          exact ⟨rfl, GE.out⟩
        | true =>
          have HNO := Lib.hid (show htA n t pr q i = false by rw [HT2.out]; unfold hitB; simp [H8.out])
          go_wp2_with fail
          go_roundg (t.length - i - 1)
          case measure => have := HIG.out; omega
          case rel => exact ⟨i + 1, by have := HIG.out; omega, by go_num, Lib.hid (Gr.trans D9.out HWJ.out), Lib.hid (fun j hj => by by_cases e : j = i; (rw [e]; exact ⟨HB2.out, HNO.out⟩); exact HI.out j (by omega))⟩
      case neg =>
      have k8 : (pr.kind == 8) = false := by simp [h8]
      by_cases h10 : pr.kind = 10
      case pos =>
        have k10 : (pr.kind == 10) = true := by simp [h10]
        have H10 := Lib.hid h10
        clear h8 h10
        cases x with
        | true =>
          have hyes := hitF_mk (n := n) (t := t) (p := pr) (pi := q) (m := t.length) (s := 0) (k := i) (by omega) (by omega) (fun j _ h2 => by by_cases e : j = i; (rw [e]; exact HB2.out); exact (HI.out j (by omega)).1) (fun j _ h2 => (HI.out j h2).2) (by rw [HT2.out]; unfold hitB; simp [H10.out])
          rw [KI.out] at hyes
          obtain ⟨rfl, rfl⟩ := Prod.mk.inj hyes
          have r3 : ((kk : Int) == (kk : Int)) = true := by simp
          clear hyes
          go_wp2_with fail
          go_ret
          exact ⟨rfl, GE.out⟩
        | false =>
          have HNO := Lib.hid (show htA n t pr q i = false by rw [HT2.out]; unfold hitB; simp [H10.out])
          go_wp2_with fail
          go_roundg (t.length - i - 1)
          case measure => have := HIG.out; omega
          case rel => exact ⟨i + 1, by have := HIG.out; omega, by go_num, Lib.hid (Gr.trans D9.out HWJ.out), Lib.hid (fun j hj => by by_cases e : j = i; (rw [e]; exact ⟨HB2.out, HNO.out⟩); exact HI.out j (by omega))⟩
      case neg =>
      have k10 : (pr.kind == 10) = false := by simp [h10]
      have H8 := Lib.hid h8
      have H10 := Lib.hid h10
      clear h8 h10
      have HNO := Lib.hid (show htA n t pr q i = false by rw [HT2.out]; unfold hitB; simp [H8.out, H10.out])
      go_wp2_with fail
      go_roundg (t.length - i - 1)
      case measure => have := HIG.out; omega
      case rel => exact ⟨i + 1, by have := HIG.out; omega, by go_num, Lib.hid (Gr.trans D9.out HWJ.out), Lib.hid (fun j hj => by by_cases e : j = i; (rw [e]; exact ⟨HB2.out, HNO.out⟩); exact HI.out j (by omega))⟩
end Go.Proofs.Ytmnblcnhbafcpaa
