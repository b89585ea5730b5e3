/-
  SimSteps, WALKED.
-/
import Derived.Test.YtmnblcnhbafcpaaJ57
import Derived.Test.YtmnblcnhbafcpaaJ44
import Derived.Test.YtmnblcnhbafcpaaJ56
import Derived.Deep.CutRange
namespace Go.Proofs.Ytmnblcnhbafcpaa
open Go.RowKit
open NetM
open VecM

theorem cell_lt {w : World} {b o : Nat} {v : Value} (h : w.cell? ⟨b, o, none⟩ = some v) : b < w.heap.size := by
  apply Classical.byContradiction
  intro hb
  have e : w.heap[b]? = none := Array.getElem?_eq_none (by omega)
  simp [World.cell?, e] at h
set_option maxRecDepth 100000 in
set_option maxHeartbeats 16000000 in
theorem steps_walk (n : Nt) (v : Value) (A : Option Addr) (cA : Nat) (l : List (List Nat)) (w : World) (hn : Hid (NtAt w n v)) (hl : l.length ≤ maxLen) (hL : Hid (RawP w A l)) :
    Calls Try.prog 4 #[v, .slice A l.length cA] w fun e w' => e = .returned (.bool true) ∧ Gr w w' := by
  have HV := Lib.hid (fun (u : World) (hu : Gr w u) => hn.out.gr hu)
  obtain ⟨A1, A2, A3, A4, A5, c1, c2, c3, c4, c5, rfl, hc1, h1, h2, h3, h4, h5⟩ := hn.out
  have H1 := Lib.hid h1
  have H2 := Lib.hid h2
  have H3 := Lib.hid h3
  have H4 := Lib.hid h4
  have H5 := Lib.hid h5
  clear h1 h2 h3 h4 h5
  obtain ⟨W0, eW, BW, KEEP⟩ : ∃ W0, w.alloc (.cells (bxC n A1 A2 A3 A4 A5 c1 c2 c3 c4 c5) 27) = W0 ∧ Hid (Gr w W0) ∧ Hid (∀ u, Gr W0 u → BxAt u w.heap.size n A1 A2 A3 A4 A5 c1 c2 c3 c4 c5) :=
    ⟨_, rfl, Lib.hid (bel_alloc _ _), Lib.hid fun u hu => bx_gr (bx_new w n A1 A2 A3 A4 A5 c1 c2 c3 c4 c5) (by simp) hu⟩
  obtain ⟨e0, e1, e2, e3, e4⟩ := KEEP.out W0 (Gr.refl _)
  have H0 := Lib.hid Shead_any
  obtain ⟨gb, hgb⟩ : ∃ gb : Bool, gb = true ↔ NGreat n := by classical exact ⟨decide _, decide_eq_true_iff⟩
  obtain ⟨rb, hrb⟩ : ∃ rb : Bool, rb = true ↔ NRight n := by classical exact ⟨decide _, decide_eq_true_iff⟩
  have GC := Lib.hid (fun (u : World) (hu : Gr w u) => Great_any n _ u (Lib.hid (HV.out u hu)) gb (Lib.hid hgb))
  go_enter Try.func4, Try.ntmps4
  go_wp2_with fail
  try rw [eW]
  clear eW
  refine (H0.out _).mono ?_
  rintro e w1 ⟨rfl, hg⟩
  have G1 := Lib.hid hg
  clear hg e0 e1 e2 e3 e4
  obtain ⟨e0, e1, e2, e3, e4⟩ := KEEP.out _ G1.out
  go_wp2_with fail
  refine (GC.out _ (Gr.trans BW.out G1.out)).mono ?_
  rintro e w2 ⟨rfl, hg⟩
  have G2 := Lib.hid (Gr.trans G1.out hg)
  clear hg e0 e1 e2 e3 e4
  obtain ⟨e0, e1, e2, e3, e4⟩ := KEEP.out _ G2.out
  cases gb with
  | true =>
    go_wp2_with fail
    all_goals
      go_ret
      exact ⟨rfl, Gr.trans BW.out G2.out⟩
  | false =>
  have hz := sz_of (fun h => by have := hgb.2 h; simp at this)
  have hs : Sz n := by unfold Sz; omega
  have RC := Lib.hid (fun (u : World) (hu : Gr w u) => RRight_any n _ u hs (Lib.hid (HV.out u hu)) rb (Lib.hid hrb))
  clear hgb GC
  go_wp2_with fail
  refine (RC.out _ (Gr.trans BW.out G2.out)).mono ?_
  rintro e w3 ⟨rfl, hg⟩
  have G3 := Lib.hid (Gr.trans G2.out hg)
  clear RC
  clear hg e0 e1 e2 e3 e4
  obtain ⟨e0, e1, e2, e3, e4⟩ := KEEP.out _ G3.out
  cases rb with
  | false =>
    go_wp2_with fail
    all_goals
      go_ret
      exact ⟨rfl, Gr.trans BW.out G3.out⟩
  | true =>
  have hR := hrb.1 rfl
  clear hrb
  have hw := wok_of hR.1
  have hI := hR.2.1.2
  have TR := Lib.hid (Trace_any n _ A cA l w3 hs (Lib.hid (HV.out _ (Gr.trans BW.out G3.out))) hw hI hl (Lib.hid (hL.out.gr (Gr.trans BW.out G3.out))))
  go_wp2_with fail
  refine TR.out.mono ?_
  rintro e w4 ⟨vt, rfl, ht4, hg⟩
  have G4 := Lib.hid (Gr.trans G3.out hg)
  obtain ⟨t, htq⟩ : ∃ t, trOf n l = t := ⟨_, rfl⟩
  have hto : TrOk n t := by rw [← htq]; exact trOf_ok n l
  have htl : t.length ≤ 64 := by rw [← htq]; exact trOf_len n l
  rw [htq] at ht4
  have HT := Lib.hid ht4
  obtain ⟨At, ct, rfl, hct, hrt⟩ := ht4
  rw [List.length_map] at hct HT ⊢
  have HTP := Lib.hid hrt
  clear hrt TR htq
  clear hg e0 e1 e2 e3 e4
  obtain ⟨e0, e1, e2, e3, e4⟩ := KEEP.out _ G4.out
  have HV4 := Lib.hid (fun (u : World) (hu : Gr w4 u) => HV.out u (Gr.trans BW.out (Gr.trans G4.out hu)))
  have ST := Lib.hid (fun (u : World) (hu : Gr w4 u) => SStates_any n _ _ t u hs (Lib.hid (HV4.out u hu)) hR hto htl (Lib.hid (HT.out.gr hu)))
  have RU := Lib.hid (fun (u : World) (hu : Gr w4 u) => SRun_any n _ _ t u hs (Lib.hid (HV4.out u hu)) hR hto htl (Lib.hid (HT.out.gr hu)))
  have HH := Lib.hid (fun (pi : Int) (u : World) (hu : Gr w4 u) => SHit_any n _ _ pi t u hs (Lib.hid (HV4.out u hu)) hR hto htl (Lib.hid (HT.out.gr hu)))
  have U4 := Lib.hid (Gr.refl w4)
  go_wp2_with fail
  refine (ST.out _ U4.out).mono ?_
  rintro e w5 ⟨vs, rfl, hs1, hg⟩
  have G5 := Lib.hid (Gr.trans G4.out hg)
  have U5 := Lib.hid (Gr.trans U4.out hg)
  obtain ⟨As, cs, rfl, hcs, hs1⟩ := hs1
  have HS := Lib.hid hs1
  rw [stsL_len] at hcs ⊢
  clear hs1
  clear hg e0 e1 e2 e3 e4
  obtain ⟨e0, e1, e2, e3, e4⟩ := KEEP.out _ G5.out
  go_wp2_with fail
  refine (RU.out _ U5.out).mono ?_
  rintro e w6 ⟨vr, rfl, hr1, hg⟩
  have G6 := Lib.hid (Gr.trans G5.out hg)
  have U6 := Lib.hid (Gr.trans U5.out hg)
  have HS := Lib.hid (HS.out.gr hg)
  obtain ⟨Ar, cr, rfl, hcr, hr1⟩ := hr1
  have HR := Lib.hid hr1
  rw [runL_len] at hcr ⊢
  clear hr1
  clear hg e0 e1 e2 e3 e4
  obtain ⟨e0, e1, e2, e3, e4⟩ := KEEP.out _ G6.out
  have FI := Lib.hid (fun (u : World) (hu : Gr w4 u) => First_any n _ u hs (Lib.hid (HV4.out u hu)))
  simp only [ofN_first hR] at FI
  have EV := Lib.hid (fun (k : Nat) (r : List Nat) (hk : t[k]? = some r) (sv rv : Value) (u : World) (hu : Gr w4 u) (hsv : IntR u sv (ofN (stAt n t k))) (hrv : IntR u rv (ofN r)) => sm_eval n _ sv rv t k r u hs (Lib.hid (HV4.out u hu)) hR hto hk (Lib.hid hsv) (Lib.hid hrv))
  have AF := Lib.hid (fun (k : Nat) (r : List Nat) (hk : t[k]? = some r) (sv rv : Value) (u : World) (hu : Gr w4 u) (hsv : IntR u sv (ofN (stAt n t k))) (hrv : IntR u rv (ofN r)) => sm_after n _ sv rv t k r u hs (Lib.hid (HV4.out u hu)) hR hto hk (Lib.hid hsv) (Lib.hid hrv))
  obtain ⟨bs, os, X0, cx0, rfl, -, s0, i0⟩ := rws_get HS.out (stsL_at (Nat.succ_pos t.length))
  rw [ofN_len, stAt_len] at s0 i0
  rw [Nat.add_zero] at s0
  have HI0 := Lib.hid i0
  have HS0 := Lib.hid s0
  clear i0 ST RU
  have r1 : ((t.length : Int) + 1 != (t.length : Int) + 1) = false := by simp
  have r2 : ((t.length : Int) != (t.length : Int)) = false := by simp
  have r3 : ((n.cells.length : Int) != (n.cells.length : Int)) = false := by simp
  have r4 := wrap_int (y := (t.length : Int) + 1) (by omega) (by omega)
  have r5 : (0 : Int) < (t.length : Int) + 1 := by omega
  go_wp2_with fail
  go_quiet (fail)
  have D7 := Lib.hid (show Gr w6 (w6.drewN nq) from Below.drewN (Gr.refl _) nq)
  go_wp2_with fail
  refine (FI.out _ (Gr.trans U6.out D7.out)).mono ?_
  rintro e w7 ⟨vf, rfl, hf, hg, -⟩
  have V7 := Lib.hid (Gr.trans D7.out hg)
  have HF := Lib.hid hf
  obtain ⟨Af, cf, rfl, -⟩ := hf
  rw [ofN_len, firstS_len] at HF ⊢
  clear hg e0 e1 e2 e3 e4 FI s0 r1 r2 r3 r4 r5 D7
  obtain ⟨e0, e1, e2, e3, e4⟩ := KEEP.out _ (Gr.trans G6.out V7.out)
  go_wp2_with fail
  go_loopg [10] n.cells.length (fun g y wr => ∃ i : Nat, i + g = n.cells.length ∧ y = .int .i64 i ∧ Hid (Gr w7 wr))
  case atStart => exact ⟨0, by omega, rfl, Lib.hid (Gr.refl _)⟩
  case round =>
    obtain ⟨i, hig, rfl, HW⟩ := hrel
    have HIG := Lib.hid hig
    have hil : i ≤ n.cells.length := by omega
    clear hig e0 e1 e2 e3 e4
    obtain ⟨e0, e1, e2, e3, e4⟩ := KEEP.out _ (Gr.trans G6.out (Gr.trans V7.out HW.out))
    by_cases hlt : i < n.cells.length
    · have i1 : (i : Int) < (n.cells.length : Int) := by omega
      have i2 : (0 : Int) ≤ (i : Int) := by omega
      have hx : (firstS n)[i]? = some ((firstS n)[i]'(by rw [firstS_len]; exact hlt)) := List.getElem?_eq_getElem _
      generalize (firstS n)[i]'(by rw [firstS_len]; exact hlt) = x at hx
      have s0 := cell_up (Gr.trans V7.out HW.out) (cell_lt HS0.out) HS0.out
      obtain ⟨bx, ox, rfl, s1⟩ := int_get (HI0.out.gr (Gr.trans V7.out HW.out)) (show (ofN (stAt n t 0))[i]? = some (x : Int) from ofN_at hx)
      obtain ⟨bf, of, rfl, s2⟩ := int_get (HF.out.gr HW.out) (ofN_at hx)
      have r1 : ((x : Int) != (x : Int)) = false := by simp
      have r5 : (0 : Int) < (t.length : Int) + 1 := by omega
      clear hx
      go_wp2_with fail
      go_quiet (fail)
      have D8 := Lib.hid (show Gr wr (wr.drewN nq) from Below.drewN (Gr.refl _) nq)
      go_wp2_with fail
      go_roundg (gk - 1)
      case measure => have := HIG.out; omega
      case rel => exact ⟨i + 1, by have := HIG.out; omega, by go_num, Lib.hid (Gr.trans HW.out D8.out)⟩
    have hin : i = n.cells.length := by omega
    subst hin
    have i1 : ¬ (n.cells.length : Int) < (n.cells.length : Int) := by omega
    clear HIG hil hlt HF HI0 HS0
    obtain ⟨W8, rfl⟩ : ∃ x, x = wr := ⟨_, rfl⟩
    have V8 := Lib.hid (Gr.trans V7.out HW.out)
    have G8 := Lib.hid (Gr.trans G6.out V8.out)
    have U8 := Lib.hid (Gr.trans U6.out V8.out)
    clear HW
    go_wp2_with fail
    clear e0 e1 e2 e3 e4
    go_loopg [11] t.length (fun g y wr => ∃ i : Nat, i + g = t.length ∧ y = .int .i64 i ∧ Hid (Gr W8 wr))
    case atStart => exact ⟨0, by omega, rfl, Lib.hid (Gr.refl _)⟩
    case round =>
      obtain ⟨i, hig, rfl, HW⟩ := hrel
      have HIG := Lib.hid hig
      have hil : i ≤ t.length := by omega
      clear hig
      obtain ⟨e0, e1, e2, e3, e4⟩ := KEEP.out _ (Gr.trans G8.out HW.out)
      by_cases hlt : i < t.length
      case neg =>
        have hin : i = t.length := by omega
        subst hin
        have i1 : ¬ (t.length : Int) < (t.length : Int) := by omega
        go_wp2_with fail
        go_ret
        exact ⟨rfl, Gr.trans BW.out (Gr.trans G8.out HW.out)⟩
      case pos =>
      have i1 : (i : Int) < (t.length : Int) := by omega
      have i2 : (0 : Int) ≤ (i : Int) := by omega
      have i3 : (i : Int) < (t.length : Int) + 1 := by omega
      have i4 : (i : Int) + 1 < (t.length : Int) + 1 := by omega
      have i5 : (0 : Int) ≤ (i : Int) + 1 := by omega
      have hr : t[i]? = some t[i] := List.getElem?_eq_getElem hlt
      generalize t[i] = r at hr
      have HTI := Lib.hid hr
      have hrl := (hto r (List.mem_of_getElem? hr)).1
      obtain ⟨X1, x1, s1, p1⟩ := rws_at (HS.out.gr (Gr.trans V8.out HW.out)) (stsL_at (n := n) (t := t) (show i < t.length + 1 by omega))
      obtain ⟨X2, x2, s2, p2⟩ := rws_at (HS.out.gr (Gr.trans V8.out HW.out)) (stsL_at (n := n) (t := t) (show i + 1 < t.length + 1 by omega))
      obtain ⟨bt, ot, X3, x3, rfl, -, s3, p3⟩ := rws_get (HTP.out.gr (Gr.trans U8.out HW.out)) (show (t.map ofN)[i]? = some (ofN r) from by rw [List.getElem?_map, hr]; rfl)
      obtain ⟨br, or, X4, x4, rfl, -, s4, p4⟩ := bws_get (HR.out.gr (Gr.trans V8.out HW.out)) (runL_at (n := n) (t := t) hlt)
      rw [ofN_len, stAt_len] at s1 s2 p1 p2
      rw [ofN_len, hrl] at s3 p3
      have hbl : (bitsAt n t i).length = n.props.length := prB_len _ _
      rw [hbl] at s4 p4
      have S1 := Lib.hid s1
      have S2 := Lib.hid s2
      have S3 := Lib.hid s3
      have P1 := Lib.hid p1
      have P2 := Lib.hid p2
      have P3 := Lib.hid p3
      have P4 := Lib.hid p4
      clear p1 p2 p3 p4 hr hbl hrl
      have r1 : ((n.cells.length : Int) != (n.cells.length : Int)) = false := by simp
      have r2 : ((n.props.length : Int) != (n.props.length : Int)) = false := by simp
      have r4 := wrap_int (y := (i : Int) + 1) (by omega) (by omega)
      go_wp2_with fail
      go_quiet (fail)
      have DW := Lib.hid (show Gr wr (wr.drewN nq) from Below.drewN (Gr.refl _) nq)
      have D9 := Lib.hid (show Gr W8 (wr.drewN nq) from Below.drewN HW.out nq)
      generalize wr.drewN nq = W9 at DW D9 ⊢
      have KP := Lib.hid (fun (u : World) (hu : Gr W9 u) => (show (fun u : World => BxAt u w.heap.size n A1 A2 A3 A4 A5 c1 c2 c3 c4 c5 ∧ u.cell? ⟨bs, os + i, none⟩ = some (.slice X1 n.cells.length x1) ∧ u.cell? ⟨bs, os + (i + 1), none⟩ = some (.slice X2 n.cells.length x2) ∧ u.cell? ⟨bt, ot + i, none⟩ = some (.slice X3 n.ins.length x3)) u from ⟨KEEP.out u (Gr.trans G8.out (Gr.trans D9.out hu)), cell_up (Gr.trans DW.out hu) (cell_lt S1.out) S1.out, cell_up (Gr.trans DW.out hu) (cell_lt S2.out) S2.out, cell_up (Gr.trans DW.out hu) (cell_lt S3.out) S3.out⟩))
      go_upto_region 20 with fail
      clear e0 e1 e2 e3 e4 s1 s2 s3 s4 r1 r2
      go_cut [118] from 74 to 161 (fun b wx => b = .bool false ∧ Hid (Gr W9 wx))
      case first =>
        refine wp_region_held_drew (S := (fun u : World => BxAt u w.heap.size n A1 A2 A3 A4 A5 c1 c2 c3 c4 c5 ∧ u.cell? ⟨bs, os + i, none⟩ = some (.slice X1 n.cells.length x1) ∧ u.cell? ⟨bs, os + (i + 1), none⟩ = some (.slice X2 n.cells.length x2) ∧ u.cell? ⟨bt, ot + i, none⟩ = some (.slice X3 n.ins.length x3))) (by kernel_rfl) (KP.out _ (Gr.drew _)) (fun hHeld => ?_)
        refine wpAnyH_take (i := 0) (oi := { dst := some 100, op := Op.move (Operand.tmp 7), type := 28, pos := "law.go:86", after := #[], guard := none }) (v := ?_) rfl (by kernel_rfl) (by kernel_rfl) (by kernel_rfl) (fun _ _ _ h => h) (Or.inl ⟨by rfl, ?_⟩) hHeld ?_
        case refine_2 => (intro w hSw; (try dsimp only at hSw); go_simp; try (with_reducible rfl))
        try simp only [Act.put, List.setIfInBounds_toArray, List.set_cons_zero, List.set_cons_succ]
        refine wpAnyH_take (i := 1) (oi := { dst := some 101, op := Op.move (Operand.tmp 11), type := 3, pos := "law.go:86", after := #[], guard := none }) (v := ?_) rfl (by kernel_rfl) (by kernel_rfl) (by kernel_rfl) (fun _ _ _ h => h) (Or.inl ⟨by rfl, ?_⟩) hHeld ?_
        case refine_2 => (intro w hSw; (try dsimp only at hSw); go_simp; try (with_reducible rfl))
        try simp only [Act.put, List.setIfInBounds_toArray, List.set_cons_zero, List.set_cons_succ]
        refine wpAnyH_take (i := 2) (oi := { dst := some 102, op := Op.binOp BinOp.add 3 (Operand.tmp 101) (Operand.const (Value.int IntKind.i64 1)) 3, type := 3, pos := "law.go:86", after := #[{ on := 1, ground := Ground.data }], guard := none }) (v := ?_) rfl (by kernel_rfl) (by kernel_rfl) (by kernel_rfl) (fun _ _ _ h => h) (Or.inl ⟨by rfl, ?_⟩) hHeld ?_
        case refine_2 => (intro w hSw; (try dsimp only at hSw); go_simp; try (with_reducible rfl))
        try simp only [Act.put, List.setIfInBounds_toArray, List.set_cons_zero, List.set_cons_succ]
        refine wpAnyH_take (i := 3) (oi := { dst := some 103, op := Op.indexAddr 28 (Operand.tmp 100) (Operand.tmp 102), type := 0, pos := "law.go:86", after := #[{ on := 0, ground := Ground.data }, { on := 2, ground := Ground.data }], guard := none }) (v := ?_) rfl (by kernel_rfl) (by kernel_rfl) (by kernel_rfl) (fun _ _ _ h => h) (Or.inl ⟨by rfl, ?_⟩) hHeld ?_
        case refine_2 => (intro w hSw; (try dsimp only at hSw); go_simp; try (with_reducible rfl))
        try simp only [Act.put, List.setIfInBounds_toArray, List.set_cons_zero, List.set_cons_succ]
        refine wpAnyH_take (i := 4) (oi := { dst := some 104, op := Op.load 42 (Operand.tmp 103), type := 42, pos := "law.go:86", after := #[{ on := 3, ground := Ground.data }], guard := none }) (v := ?_) rfl (by kernel_rfl) (by kernel_rfl) (by kernel_rfl) (fun _ _ _ h => h) (Or.inl ⟨by rfl, ?_⟩) hHeld ?_
        case refine_2 => (intro w hSw; (try dsimp only at hSw); go_simp; try (with_reducible rfl))
        try simp only [Act.put, List.setIfInBounds_toArray, List.set_cons_zero, List.set_cons_succ]
        refine wpAnyH_take (i := 6) (oi := { dst := some 106, op := Op.load 27 (Operand.tmp 2), type := 27, pos := "law.go:86", after := #[], guard := none }) (v := ?_) rfl (by kernel_rfl) (by kernel_rfl) (by kernel_rfl) (fun _ _ _ h => h) (Or.inl ⟨by rfl, ?_⟩) hHeld ?_
        case refine_2 => (intro w hSw; (try dsimp only at hSw); go_simp; try (with_reducible rfl))
        try simp only [Act.put, List.setIfInBounds_toArray, List.set_cons_zero, List.set_cons_succ]
        refine wpAnyH_take (i := 7) (oi := { dst := some 107, op := Op.move (Operand.tmp 7), type := 28, pos := "law.go:86", after := #[], guard := none }) (v := ?_) rfl (by kernel_rfl) (by kernel_rfl) (by kernel_rfl) (fun _ _ _ h => h) (Or.inl ⟨by rfl, ?_⟩) hHeld ?_
        case refine_2 => (intro w hSw; (try dsimp only at hSw); go_simp; try (with_reducible rfl))
        try simp only [Act.put, List.setIfInBounds_toArray, List.set_cons_zero, List.set_cons_succ]
        refine wpAnyH_take (i := 8) (oi := { dst := some 108, op := Op.move (Operand.tmp 11), type := 3, pos := "law.go:86", after := #[], guard := none }) (v := ?_) rfl (by kernel_rfl) (by kernel_rfl) (by kernel_rfl) (fun _ _ _ h => h) (Or.inl ⟨by rfl, ?_⟩) hHeld ?_
        case refine_2 => (intro w hSw; (try dsimp only at hSw); go_simp; try (with_reducible rfl))
        try simp only [Act.put, List.setIfInBounds_toArray, List.set_cons_zero, List.set_cons_succ]
        refine wpAnyH_take (i := 9) (oi := { dst := some 109, op := Op.indexAddr 28 (Operand.tmp 107) (Operand.tmp 108), type := 0, pos := "law.go:86", after := #[{ on := 7, ground := Ground.data }, { on := 8, ground := Ground.data }], guard := none }) (v := ?_) rfl (by kernel_rfl) (by kernel_rfl) (by kernel_rfl) (fun _ _ _ h => h) (Or.inl ⟨by rfl, ?_⟩) hHeld ?_
        case refine_2 => (intro w hSw; (try dsimp only at hSw); go_simp; try (with_reducible rfl))
        try simp only [Act.put, List.setIfInBounds_toArray, List.set_cons_zero, List.set_cons_succ]
        refine wpAnyH_take (i := 10) (oi := { dst := some 110, op := Op.load 42 (Operand.tmp 109), type := 42, pos := "law.go:86", after := #[{ on := 9, ground := Ground.data }], guard := none }) (v := ?_) rfl (by kernel_rfl) (by kernel_rfl) (by kernel_rfl) (fun _ _ _ h => h) (Or.inl ⟨by rfl, ?_⟩) hHeld ?_
        case refine_2 => (intro w hSw; (try dsimp only at hSw); go_simp; try (with_reducible rfl))
        try simp only [Act.put, List.setIfInBounds_toArray, List.set_cons_zero, List.set_cons_succ]
        refine wpAnyH_take (i := 11) (oi := { dst := some 111, op := Op.move (Operand.tmp 6), type := 28, pos := "law.go:86", after := #[], guard := none }) (v := ?_) rfl (by kernel_rfl) (by kernel_rfl) (by kernel_rfl) (fun _ _ _ h => h) (Or.inl ⟨by rfl, ?_⟩) hHeld ?_
        case refine_2 => (intro w hSw; (try dsimp only at hSw); go_simp; try (with_reducible rfl))
        try simp only [Act.put, List.setIfInBounds_toArray, List.set_cons_zero, List.set_cons_succ]
        refine wpAnyH_take (i := 12) (oi := { dst := some 112, op := Op.move (Operand.tmp 11), type := 3, pos := "law.go:86", after := #[], guard := none }) (v := ?_) rfl (by kernel_rfl) (by kernel_rfl) (by kernel_rfl) (fun _ _ _ h => h) (Or.inl ⟨by rfl, ?_⟩) hHeld ?_
        case refine_2 => (intro w hSw; (try dsimp only at hSw); go_simp; try (with_reducible rfl))
        try simp only [Act.put, List.setIfInBounds_toArray, List.set_cons_zero, List.set_cons_succ]
        refine wpAnyH_take (i := 13) (oi := { dst := some 113, op := Op.indexAddr 28 (Operand.tmp 111) (Operand.tmp 112), type := 0, pos := "law.go:86", after := #[{ on := 11, ground := Ground.data }, { on := 12, ground := Ground.data }], guard := none }) (v := ?_) rfl (by kernel_rfl) (by kernel_rfl) (by kernel_rfl) (fun _ _ _ h => h) (Or.inl ⟨by rfl, ?_⟩) hHeld ?_
        case refine_2 => (intro w hSw; (try dsimp only at hSw); go_simp; try (with_reducible rfl))
        try simp only [Act.put, List.setIfInBounds_toArray, List.set_cons_zero, List.set_cons_succ]
        refine wpAnyH_take (i := 14) (oi := { dst := some 114, op := Op.load 42 (Operand.tmp 113), type := 42, pos := "law.go:86", after := #[{ on := 13, ground := Ground.data }], guard := none }) (v := ?_) rfl (by kernel_rfl) (by kernel_rfl) (by kernel_rfl) (fun _ _ _ h => h) (Or.inl ⟨by rfl, ?_⟩) hHeld ?_
        case refine_2 => (intro w hSw; (try dsimp only at hSw); go_simp; try (with_reducible rfl))
        try simp only [Act.put, List.setIfInBounds_toArray, List.set_cons_zero, List.set_cons_succ]
        refine wpAnyH_ready (rs := [5, 15]) (by kernel_rfl) (by simp) ?_
        refine (AllReadyH.cons (o := { dst := some 105, op := Op.buildSlice 28 1 #[(0, Operand.tmp 104)], type := 28, pos := "law.go:86", after := #[{ on := 4, ground := Ground.data }], guard := none }) rfl (fun K hK => ?_) (AllReadyH.cons (o := { dst := some 115, op := Op.call { callee := Callee.value (Operand.func 25), args := #[Operand.tmp 106, Operand.tmp 110, Operand.tmp 114], argTypes := #[27, 42, 42] }, type := 42, pos := "law.go:86", after := #[{ on := 6, ground := Ground.data }, { on := 10, ground := Ground.data }, { on := 14, ground := Ground.data }], guard := none }) rfl (fun K hK => ?_) AllReadyH.nil))
        · skip
          go_simp
          refine hK.out _ _ (KP.out _ (Gr.trans (Gr.drew _) (bel_alloc _ _))) (fun hHeld => ?_)
          clear hK K
          try simp only [Act.put, List.setIfInBounds_toArray, List.set_cons_zero, List.set_cons_succ]
          refine wpAnyH_ready (rs := [15]) (by kernel_rfl) (by simp) ?_
          refine (AllReadyH.cons (o := { dst := some 115, op := Op.call { callee := Callee.value (Operand.func 25), args := #[Operand.tmp 106, Operand.tmp 110, Operand.tmp 114], argTypes := #[27, 42, 42] }, type := 42, pos := "law.go:86", after := #[{ on := 6, ground := Ground.data }, { on := 10, ground := Ground.data }, { on := 14, ground := Ground.data }], guard := none }) rfl (fun K hK => ?_) AllReadyH.nil)
          go_simp
          refine (AF.out i r HTI.out _ _ _ (Gr.trans U8.out (Gr.trans D9.out (Gr.trans (Gr.drew _) (bel_alloc _ _)))) (P1.out.gr (Gr.trans DW.out (Gr.trans (Gr.drew _) (bel_alloc _ _)))) (P3.out.gr (Gr.trans DW.out (Gr.trans (Gr.drew _) (bel_alloc _ _))))).mono ?_
          rintro e z1 ⟨vb, rfl, hz1, gz1, -⟩
          have GZ1 := Lib.hid (show Gr W9 z1 from Gr.trans (Gr.trans (Gr.drew _) (bel_alloc _ _)) gz1)
          have Q5 := Lib.hid (show RwsR z1 (.slice (some ⟨W9.heap.size, 0, none⟩) 1 1) [ofN (stAt n t (i + 1))] from by have h := (rws_own (rws_one (P2.out.gr (Gr.trans DW.out (Gr.drew _))) rfl)).gr gz1; simpa using h)
          have Z1 := Lib.hid hz1
          obtain ⟨B1, b1, rfl, -⟩ := hz1
          rw [ofN_len, stAt_len] at Z1 ⊢
          refine hK.out _ _ (KP.out _ GZ1.out) (fun hHeld => ?_)
          clear hK K gz1
          try simp only [Act.put, List.setIfInBounds_toArray, List.set_cons_zero, List.set_cons_succ]
          refine wpAnyH_ready (rs := [16]) (by kernel_rfl) (by simp) ?_
          refine (AllReadyH.cons (o := { dst := some 116, op := Op.buildSlice 28 1 #[(0, Operand.tmp 115)], type := 28, pos := "law.go:86", after := #[{ on := 15, ground := Ground.data }], guard := none }) rfl (fun K hK => ?_) AllReadyH.nil)
          go_simp
          refine hK.out _ _ (KP.out _ (Gr.trans GZ1.out (bel_alloc _ _))) (fun hHeld => ?_)
          clear hK K
          try simp only [Act.put, List.setIfInBounds_toArray, List.set_cons_zero, List.set_cons_succ]
          refine wpAnyH_ready (rs := [17]) (by kernel_rfl) (by simp) ?_
          refine (AllReadyH.cons (o := { dst := some 117, op := Op.call { callee := Callee.value (Operand.func 18), args := #[Operand.tmp 105, Operand.tmp 116], argTypes := #[28, 28] }, type := 4, pos := "law.go:86", after := #[{ on := 5, ground := Ground.data }, { on := 16, ground := Ground.data }, { on := 15, ground := Ground.chain }], guard := none }) rfl (fun K hK => ?_) AllReadyH.nil)
          have Q16 := Lib.hid (show RwsR (z1.alloc (.cells #[.slice B1 n.cells.length b1] 42)) (.slice (some ⟨z1.heap.size, 0, none⟩) 1 1) [ofN (stAt n t (i + 1))] from rws_own (rws_one Z1.out rfl))
          have Q5b := Lib.hid (show RwsR (z1.alloc (.cells #[.slice B1 n.cells.length b1] 42)) (.slice (some ⟨W9.heap.size, 0, none⟩) 1 1) [ofN (stAt n t (i + 1))] from Q5.out.gr (bel_alloc _ _))
          go_simp
          refine (SameRows_yes _ _ [ofN (stAt n t (i + 1))] _ (by simp) (fun q hq => by obtain rfl := List.mem_singleton.1 hq; rw [ofN_len, stAt_len]; omega) Q5b Q16).mono ?_
          rintro e z2 ⟨rfl, gz2⟩
          have GZ2 := Lib.hid (show Gr W9 z2 from Gr.trans (Gr.trans GZ1.out (bel_alloc _ _)) gz2)
          refine hK.out _ _ (KP.out _ GZ2.out) (fun hHeld => ?_)
          clear hK K gz2
          try simp only [Act.put, List.setIfInBounds_toArray, List.set_cons_zero, List.set_cons_succ]
          refine wpAnyH_take (i := 18) (oi := { dst := some 118, op := Op.unOp UnOp.not 4 (Operand.tmp 117), type := 4, pos := "law.go:86", after := #[{ on := 17, ground := Ground.data }], guard := none }) (v := ?_) rfl (by kernel_rfl) (by kernel_rfl) (by kernel_rfl) (fun _ _ _ h => h) (Or.inl ⟨by rfl, ?_⟩) hHeld ?_
          case refine_2 => (intro w hSw; (try dsimp only at hSw); go_simp; try (with_reducible rfl))
          try simp only [Act.put, List.setIfInBounds_toArray, List.set_cons_zero, List.set_cons_succ]
          refine wpAnyH_done (by kernel_rfl) ?_ _
          go_wp2_with fail
          go_meet
          exact ⟨rfl, GZ2⟩
        · skip
          go_simp
          refine (AF.out i r HTI.out _ _ _ (Gr.trans U8.out (Gr.trans D9.out (Gr.drew _))) (P1.out.gr (Gr.trans DW.out (Gr.drew _))) (P3.out.gr (Gr.trans DW.out (Gr.drew _)))).mono ?_
          rintro e z1 ⟨vb, rfl, hz1, gz1, -⟩
          have GZ1 := Lib.hid (show Gr W9 z1 from Gr.trans (Gr.drew _) gz1)
          have Z1 := Lib.hid hz1
          obtain ⟨B1, b1, rfl, -⟩ := hz1
          rw [ofN_len, stAt_len] at Z1 ⊢
          refine hK.out _ _ (KP.out _ GZ1.out) (fun hHeld => ?_)
          clear hK K gz1
          try simp only [Act.put, List.setIfInBounds_toArray, List.set_cons_zero, List.set_cons_succ]
          refine wpAnyH_ready (rs := [5, 16]) (by kernel_rfl) (by simp) ?_
          refine (AllReadyH.cons (o := { dst := some 105, op := Op.buildSlice 28 1 #[(0, Operand.tmp 104)], type := 28, pos := "law.go:86", after := #[{ on := 4, ground := Ground.data }], guard := none }) rfl (fun K hK => ?_) (AllReadyH.cons (o := { dst := some 116, op := Op.buildSlice 28 1 #[(0, Operand.tmp 115)], type := 28, pos := "law.go:86", after := #[{ on := 15, ground := Ground.data }], guard := none }) rfl (fun K hK => ?_) AllReadyH.nil))
          · skip
            go_simp
            refine hK.out _ _ (KP.out _ (Gr.trans GZ1.out (bel_alloc _ _))) (fun hHeld => ?_)
            clear hK K
            try simp only [Act.put, List.setIfInBounds_toArray, List.set_cons_zero, List.set_cons_succ]
            refine wpAnyH_ready (rs := [16]) (by kernel_rfl) (by simp) ?_
            refine (AllReadyH.cons (o := { dst := some 116, op := Op.buildSlice 28 1 #[(0, Operand.tmp 115)], type := 28, pos := "law.go:86", after := #[{ on := 15, ground := Ground.data }], guard := none }) rfl (fun K hK => ?_) AllReadyH.nil)
            go_simp
            refine hK.out _ _ (KP.out _ (Gr.trans (Gr.trans GZ1.out (bel_alloc _ _)) (bel_alloc _ _))) (fun hHeld => ?_)
            clear hK K
            try simp only [Act.put, List.setIfInBounds_toArray, List.set_cons_zero, List.set_cons_succ]
            refine wpAnyH_ready (rs := [17]) (by kernel_rfl) (by simp) ?_
            refine (AllReadyH.cons (o := { dst := some 117, op := Op.call { callee := Callee.value (Operand.func 18), args := #[Operand.tmp 105, Operand.tmp 116], argTypes := #[28, 28] }, type := 4, pos := "law.go:86", after := #[{ on := 5, ground := Ground.data }, { on := 16, ground := Ground.data }, { on := 15, ground := Ground.chain }], guard := none }) rfl (fun K hK => ?_) AllReadyH.nil)
            have Q16 := Lib.hid (show RwsR ((z1.alloc (.cells #[.slice X2 n.cells.length x2] 42)).alloc (.cells #[.slice B1 n.cells.length b1] 42)) (.slice (some ⟨z1.heap.size + 1, 0, none⟩) 1 1) [ofN (stAt n t (i + 1))] from by have h := rws_own (rws_one (Z1.out.gr (bel_alloc z1 (.cells #[.slice X2 n.cells.length x2] 42))) rfl); simpa using h)
            have Q5b := Lib.hid (show RwsR ((z1.alloc (.cells #[.slice X2 n.cells.length x2] 42)).alloc (.cells #[.slice B1 n.cells.length b1] 42)) (.slice (some ⟨z1.heap.size, 0, none⟩) 1 1) [ofN (stAt n t (i + 1))] from (rws_own (rws_one (P2.out.gr (Gr.trans DW.out GZ1.out)) rfl)).gr (bel_alloc _ _))
            go_simp
            refine (SameRows_yes _ _ [ofN (stAt n t (i + 1))] _ (by simp) (fun q hq => by obtain rfl := List.mem_singleton.1 hq; rw [ofN_len, stAt_len]; omega) Q5b Q16).mono ?_
            rintro e z2 ⟨rfl, gz2⟩
            have GZ2 := Lib.hid (show Gr W9 z2 from Gr.trans (Gr.trans (Gr.trans GZ1.out (bel_alloc _ _)) (bel_alloc _ _)) gz2)
            refine hK.out _ _ (KP.out _ GZ2.out) (fun hHeld => ?_)
            clear hK K gz2
            try simp only [Act.put, List.setIfInBounds_toArray, List.set_cons_zero, List.set_cons_succ]
            refine wpAnyH_take (i := 18) (oi := { dst := some 118, op := Op.unOp UnOp.not 4 (Operand.tmp 117), type := 4, pos := "law.go:86", after := #[{ on := 17, ground := Ground.data }], guard := none }) (v := ?_) rfl (by kernel_rfl) (by kernel_rfl) (by kernel_rfl) (fun _ _ _ h => h) (Or.inl ⟨by rfl, ?_⟩) hHeld ?_
            case refine_2 => (intro w hSw; (try dsimp only at hSw); go_simp; try (with_reducible rfl))
            try simp only [Act.put, List.setIfInBounds_toArray, List.set_cons_zero, List.set_cons_succ]
            refine wpAnyH_done (by kernel_rfl) ?_ _
            go_wp2_with fail
            go_meet
            exact ⟨rfl, GZ2⟩
          · skip
            go_simp
            refine hK.out _ _ (KP.out _ (Gr.trans GZ1.out (bel_alloc _ _))) (fun hHeld => ?_)
            clear hK K
            try simp only [Act.put, List.setIfInBounds_toArray, List.set_cons_zero, List.set_cons_succ]
            refine wpAnyH_ready (rs := [5]) (by kernel_rfl) (by simp) ?_
            refine (AllReadyH.cons (o := { dst := some 105, op := Op.buildSlice 28 1 #[(0, Operand.tmp 104)], type := 28, pos := "law.go:86", after := #[{ on := 4, ground := Ground.data }], guard := none }) rfl (fun K hK => ?_) AllReadyH.nil)
            go_simp
            refine hK.out _ _ (KP.out _ (Gr.trans (Gr.trans GZ1.out (bel_alloc _ _)) (bel_alloc _ _))) (fun hHeld => ?_)
            clear hK K
            try simp only [Act.put, List.setIfInBounds_toArray, List.set_cons_zero, List.set_cons_succ]
            refine wpAnyH_ready (rs := [17]) (by kernel_rfl) (by simp) ?_
            refine (AllReadyH.cons (o := { dst := some 117, op := Op.call { callee := Callee.value (Operand.func 18), args := #[Operand.tmp 105, Operand.tmp 116], argTypes := #[28, 28] }, type := 4, pos := "law.go:86", after := #[{ on := 5, ground := Ground.data }, { on := 16, ground := Ground.data }, { on := 15, ground := Ground.chain }], guard := none }) rfl (fun K hK => ?_) AllReadyH.nil)
            have Q5b := Lib.hid (show RwsR ((z1.alloc (.cells #[.slice B1 n.cells.length b1] 42)).alloc (.cells #[.slice X2 n.cells.length x2] 42)) (.slice (some ⟨z1.heap.size + 1, 0, none⟩) 1 1) [ofN (stAt n t (i + 1))] from by have h := rws_own (rws_one (P2.out.gr (Gr.trans DW.out (Gr.trans GZ1.out (bel_alloc z1 (.cells #[.slice B1 n.cells.length b1] 42))))) rfl); simpa using h)
            have Q16 := Lib.hid (show RwsR ((z1.alloc (.cells #[.slice B1 n.cells.length b1] 42)).alloc (.cells #[.slice X2 n.cells.length x2] 42)) (.slice (some ⟨z1.heap.size, 0, none⟩) 1 1) [ofN (stAt n t (i + 1))] from (rws_own (rws_one Z1.out rfl)).gr (bel_alloc _ _))
            go_simp
            refine (SameRows_yes _ _ [ofN (stAt n t (i + 1))] _ (by simp) (fun q hq => by obtain rfl := List.mem_singleton.1 hq; rw [ofN_len, stAt_len]; omega) Q5b Q16).mono ?_
            rintro e z2 ⟨rfl, gz2⟩
            have GZ2 := Lib.hid (show Gr W9 z2 from Gr.trans (Gr.trans (Gr.trans GZ1.out (bel_alloc _ _)) (bel_alloc _ _)) gz2)
            refine hK.out _ _ (KP.out _ GZ2.out) (fun hHeld => ?_)
            clear hK K gz2
            try simp only [Act.put, List.setIfInBounds_toArray, List.set_cons_zero, List.set_cons_succ]
            refine wpAnyH_take (i := 18) (oi := { dst := some 118, op := Op.unOp UnOp.not 4 (Operand.tmp 117), type := 4, pos := "law.go:86", after := #[{ on := 17, ground := Ground.data }], guard := none }) (v := ?_) rfl (by kernel_rfl) (by kernel_rfl) (by kernel_rfl) (fun _ _ _ h => h) (Or.inl ⟨by rfl, ?_⟩) hHeld ?_
            case refine_2 => (intro w hSw; (try dsimp only at hSw); go_simp; try (with_reducible rfl))
            try simp only [Act.put, List.setIfInBounds_toArray, List.set_cons_zero, List.set_cons_succ]
            refine wpAnyH_done (by kernel_rfl) ?_ _
            go_wp2_with fail
            go_meet
            exact ⟨rfl, GZ2⟩
      case rest =>
      obtain ⟨rfl, HC⟩ := hcut
      have D10 := Lib.hid (Gr.trans D9.out HC.out)
      obtain ⟨⟨e0, e1, e2, e3, e4⟩, s1, s2, s3⟩ := KP.out _ HC.out
      go_upto_region 22 with fail
      go_cut [12] from 74 to 161 (fun b wx => ∃ Y cy, b = .slice Y n.nodes.length cy ∧ Hid (Gr W9 wx) ∧ Hid (IntR wx (.slice Y n.nodes.length cy) (ofN (valAt n t i))))
      case first =>
        refine wp_region_held_drew (S := (fun u : World => BxAt u w.heap.size n A1 A2 A3 A4 A5 c1 c2 c3 c4 c5 ∧ u.cell? ⟨bs, os + i, none⟩ = some (.slice X1 n.cells.length x1) ∧ u.cell? ⟨bs, os + (i + 1), none⟩ = some (.slice X2 n.cells.length x2) ∧ u.cell? ⟨bt, ot + i, none⟩ = some (.slice X3 n.ins.length x3))) (by kernel_rfl) (KP.out _ (Gr.trans HC.out (Gr.drew _))) (fun hHeld => ?_)
        refine wpAnyH_take (i := 0) (oi := { dst := some 119, op := Op.load 27 (Operand.tmp 2), type := 27, pos := "law.go:89", after := #[], guard := none }) (v := ?_) rfl (by kernel_rfl) (by kernel_rfl) (by kernel_rfl) (fun _ _ _ h => h) (Or.inl ⟨by rfl, ?_⟩) hHeld ?_
        case refine_2 => (intro w hSw; (try dsimp only at hSw); go_simp; try (with_reducible rfl))
        try simp only [Act.put, List.setIfInBounds_toArray, List.set_cons_zero, List.set_cons_succ]
        refine wpAnyH_take (i := 1) (oi := { dst := some 120, op := Op.move (Operand.tmp 7), type := 28, pos := "law.go:89", after := #[], guard := none }) (v := ?_) rfl (by kernel_rfl) (by kernel_rfl) (by kernel_rfl) (fun _ _ _ h => h) (Or.inl ⟨by rfl, ?_⟩) hHeld ?_
        case refine_2 => (intro w hSw; (try dsimp only at hSw); go_simp; try (with_reducible rfl))
        try simp only [Act.put, List.setIfInBounds_toArray, List.set_cons_zero, List.set_cons_succ]
        refine wpAnyH_take (i := 2) (oi := { dst := some 121, op := Op.move (Operand.tmp 11), type := 3, pos := "law.go:89", after := #[], guard := none }) (v := ?_) rfl (by kernel_rfl) (by kernel_rfl) (by kernel_rfl) (fun _ _ _ h => h) (Or.inl ⟨by rfl, ?_⟩) hHeld ?_
        case refine_2 => (intro w hSw; (try dsimp only at hSw); go_simp; try (with_reducible rfl))
        try simp only [Act.put, List.setIfInBounds_toArray, List.set_cons_zero, List.set_cons_succ]
        refine wpAnyH_take (i := 3) (oi := { dst := some 122, op := Op.indexAddr 28 (Operand.tmp 120) (Operand.tmp 121), type := 0, pos := "law.go:89", after := #[{ on := 1, ground := Ground.data }, { on := 2, ground := Ground.data }], guard := none }) (v := ?_) rfl (by kernel_rfl) (by kernel_rfl) (by kernel_rfl) (fun _ _ _ h => h) (Or.inl ⟨by rfl, ?_⟩) hHeld ?_
        case refine_2 => (intro w hSw; (try dsimp only at hSw); go_simp; try (with_reducible rfl))
        try simp only [Act.put, List.setIfInBounds_toArray, List.set_cons_zero, List.set_cons_succ]
        refine wpAnyH_take (i := 4) (oi := { dst := some 123, op := Op.load 42 (Operand.tmp 122), type := 42, pos := "law.go:89", after := #[{ on := 3, ground := Ground.data }], guard := none }) (v := ?_) rfl (by kernel_rfl) (by kernel_rfl) (by kernel_rfl) (fun _ _ _ h => h) (Or.inl ⟨by rfl, ?_⟩) hHeld ?_
        case refine_2 => (intro w hSw; (try dsimp only at hSw); go_simp; try (with_reducible rfl))
        try simp only [Act.put, List.setIfInBounds_toArray, List.set_cons_zero, List.set_cons_succ]
        refine wpAnyH_take (i := 5) (oi := { dst := some 124, op := Op.move (Operand.tmp 6), type := 28, pos := "law.go:89", after := #[], guard := none }) (v := ?_) rfl (by kernel_rfl) (by kernel_rfl) (by kernel_rfl) (fun _ _ _ h => h) (Or.inl ⟨by rfl, ?_⟩) hHeld ?_
        case refine_2 => (intro w hSw; (try dsimp only at hSw); go_simp; try (with_reducible rfl))
        try simp only [Act.put, List.setIfInBounds_toArray, List.set_cons_zero, List.set_cons_succ]
        refine wpAnyH_take (i := 6) (oi := { dst := some 125, op := Op.move (Operand.tmp 11), type := 3, pos := "law.go:89", after := #[], guard := none }) (v := ?_) rfl (by kernel_rfl) (by kernel_rfl) (by kernel_rfl) (fun _ _ _ h => h) (Or.inl ⟨by rfl, ?_⟩) hHeld ?_
        case refine_2 => (intro w hSw; (try dsimp only at hSw); go_simp; try (with_reducible rfl))
        try simp only [Act.put, List.setIfInBounds_toArray, List.set_cons_zero, List.set_cons_succ]
        refine wpAnyH_take (i := 7) (oi := { dst := some 126, op := Op.indexAddr 28 (Operand.tmp 124) (Operand.tmp 125), type := 0, pos := "law.go:89", after := #[{ on := 5, ground := Ground.data }, { on := 6, ground := Ground.data }], guard := none }) (v := ?_) rfl (by kernel_rfl) (by kernel_rfl) (by kernel_rfl) (fun _ _ _ h => h) (Or.inl ⟨by rfl, ?_⟩) hHeld ?_
        case refine_2 => (intro w hSw; (try dsimp only at hSw); go_simp; try (with_reducible rfl))
        try simp only [Act.put, List.setIfInBounds_toArray, List.set_cons_zero, List.set_cons_succ]
        refine wpAnyH_take (i := 8) (oi := { dst := some 127, op := Op.load 42 (Operand.tmp 126), type := 42, pos := "law.go:89", after := #[{ on := 7, ground := Ground.data }], guard := none }) (v := ?_) rfl (by kernel_rfl) (by kernel_rfl) (by kernel_rfl) (fun _ _ _ h => h) (Or.inl ⟨by rfl, ?_⟩) hHeld ?_
        case refine_2 => (intro w hSw; (try dsimp only at hSw); go_simp; try (with_reducible rfl))
        try simp only [Act.put, List.setIfInBounds_toArray, List.set_cons_zero, List.set_cons_succ]
        refine wpAnyH_ready (rs := [9]) (by kernel_rfl) (by simp) ?_
        refine (AllReadyH.cons (o := { dst := some 128, op := Op.call { callee := Callee.value (Operand.func 26), args := #[Operand.tmp 119, Operand.tmp 123, Operand.tmp 127], argTypes := #[27, 42, 42] }, type := 42, pos := "law.go:89", after := #[{ on := 0, ground := Ground.data }, { on := 4, ground := Ground.data }, { on := 8, ground := Ground.data }], guard := none }) rfl (fun K hK => ?_) AllReadyH.nil)
        go_simp
        refine (EV.out i r HTI.out _ _ _ (Gr.trans U8.out (Gr.trans D10.out (Gr.drew _))) (P1.out.gr (Gr.trans DW.out (Gr.trans HC.out (Gr.drew _)))) (P3.out.gr (Gr.trans DW.out (Gr.trans HC.out (Gr.drew _))))).mono ?_
        rintro e z1 ⟨vb, rfl, hz1, gz1, -⟩
        have GZ1 := Lib.hid (show Gr W9 z1 from Gr.trans (Gr.trans HC.out (Gr.drew _)) gz1)
        have Z1 := Lib.hid hz1
        obtain ⟨B1, b1, rfl, -⟩ := hz1
        rw [ofN_len, show (valAt n t i).length = n.nodes.length from evL_len _ _ _ _ (Nat.le_refl _)] at Z1 ⊢
        refine hK.out _ _ (KP.out _ GZ1.out) (fun hHeld => ?_)
        clear hK K gz1
        try simp only [Act.put, List.setIfInBounds_toArray, List.set_cons_zero, List.set_cons_succ]
        refine wpAnyH_take (i := 10) (oi := { dst := some 12, op := Op.assign (Operand.tmp 128), type := 42, pos := "law.go:89", after := #[{ on := 9, ground := Ground.data }, { on := 9, ground := Ground.chain }, { on := 0, ground := Ground.phase }, { on := 1, ground := Ground.phase }, { on := 2, ground := Ground.phase }, { on := 3, ground := Ground.phase }, { on := 4, ground := Ground.phase }, { on := 5, ground := Ground.phase }, { on := 6, ground := Ground.phase }, { on := 7, ground := Ground.phase }, { on := 8, ground := Ground.phase }, { on := 9, ground := Ground.phase }], guard := none }) (v := ?_) rfl (by kernel_rfl) (by kernel_rfl) (by kernel_rfl) (fun _ _ _ h => h) (Or.inl ⟨by rfl, ?_⟩) hHeld ?_
        case refine_2 => (intro w hSw; (try dsimp only at hSw); go_simp; try (with_reducible rfl))
        try simp only [Act.put, List.setIfInBounds_toArray, List.set_cons_zero, List.set_cons_succ]
        refine wpAnyH_done (by kernel_rfl) ?_ _
        go_wp2_with fail
        go_meet
        exact ⟨_, _, rfl, GZ1, Z1⟩
      case rest =>
      obtain ⟨Y, cy, rfl, HC2, HY⟩ := hcut
      have D11 := Lib.hid (Gr.trans D9.out HC2.out)
      have HR11 := Lib.hid (HR.out.gr (Gr.trans V8.out D11.out))
      clear s1 s2 s3 e0 e1 e2 e3 e4 P1 P2 P3 P4 S1 S2 S3 KP EV AF HC2 D10
      obtain ⟨W11, rfl⟩ : ∃ x, x = wc := ⟨_, rfl⟩
      obtain ⟨e0, e1, e2, e3, e4⟩ := KEEP.out _ (Gr.trans G8.out D11.out)
      go_wp2_with fail
      clear e0 e1 e2 e3 e4
      go_loopg [13] n.props.length (fun g y wr => ∃ k : Nat, k + g = n.props.length ∧ y = .int .i64 k ∧ Hid (Gr W11 wr))
      case atStart => exact ⟨0, by omega, rfl, Lib.hid (Gr.refl _)⟩
      case round =>
        obtain ⟨k, hkg, rfl, HWK⟩ := hrel
        have HKG := Lib.hid hkg
        have hkl : k ≤ n.props.length := by omega
        clear hkg
        obtain ⟨e0, e1, e2, e3, e4⟩ := KEEP.out _ (Gr.trans G8.out (Gr.trans D11.out HWK.out))
        by_cases hlk : k < n.props.length
        case neg =>
          have hkn : k = n.props.length := by omega
          subst hkn
          have k1 : ¬ (n.props.length : Int) < (n.props.length : Int) := by omega
          go_wp2_with fail
          go_roundg (t.length - i - 1)
          case measure => have := HIG.out; omega
          case rel => exact ⟨i + 1, by have := HIG.out; omega, by go_num, Lib.hid (Gr.trans D11.out HWK.out)⟩
        case pos =>
        have k1 : (k : Int) < (n.props.length : Int) := by omega
        have k2 : (0 : Int) ≤ (k : Int) := by omega
        have hp : n.props[k]? = some n.props[k] := List.getElem?_eq_getElem hlk
        generalize n.props[k] = p at hp
        obtain ⟨m0, m1⟩ := props_in hR p (List.mem_of_getElem? hp)
        obtain ⟨m, hm⟩ : ∃ m : Nat, p.node = m := ⟨p.node.toNat, by omega⟩
        have hml : m < n.nodes.length := by omega
        obtain ⟨bp, op, rfl, -, d0, d1, d2⟩ := (H4.out.gr (Gr.trans BW.out (Gr.trans G8.out (Gr.trans D11.out HWK.out)))) k p hp
        obtain ⟨bv, ov, rfl, f0⟩ := int_get (HY.out.gr HWK.out) (show (ofN (valAt n t i))[m]? = some (getN (valAt n t i) (m : Nat) : Int) from ofN_at (by rw [getN_nat, List.getElem?_eq_getElem (by rw [show (valAt n t i).length = n.nodes.length from evL_len _ _ _ _ (Nat.le_refl _)]; exact hml)]; rfl))
        obtain ⟨X5, x5, s5, p5⟩ := bws_at (HR11.out.gr HWK.out) (runL_at (n := n) (t := t) hlt)
        rw [show (bitsAt n t i).length = n.props.length from prB_len _ _] at s5 p5
        obtain ⟨b6, o6, rfl, s6⟩ := bool_get p5 (show (bitsAt n t i)[k]? = some (decide (getN (valAt n t i) p.node = 1)) from by unfold bitsAt prB; rw [List.getElem?_map, hp]; rfl)
        rw [hm] at d2 s6
        generalize getN (valAt n t i) (m : Nat) = x at f0 s6
        obtain ⟨q, hq⟩ : ∃ q : Bool, decide (x = 1) = q := ⟨_, rfl⟩
        rw [hq] at s6
        have hx : ((x : Int) == 1) = q := by
          rw [← hq]
          by_cases h : x = 1
          · simp [h]
          · have : ¬ (x : Int) = 1 := by omega
            simp [h, this]
        have k3 : (m : Int) < (n.nodes.length : Int) := by omega
        have k4 : (0 : Int) ≤ (m : Int) := by omega
        have r1 : ((n.nodes.length : Int) != (n.nodes.length : Int)) = false := by simp
        have r2 : (q != q) = false := by simp
        clear hp hm m0 m1 p5 hq d0 d1
        go_wp2_with fail
        go_quiet (fail)
        have D12 := Lib.hid (show Gr wr (wr.drewN nq) from Below.drewN (Gr.refl _) nq)
        go_wp2_with fail
        go_roundg (gk - 1)
        case measure => have := HKG.out; omega
        case rel => exact ⟨k + 1, by have := HKG.out; omega, by go_num, Lib.hid (Gr.trans HWK.out D12.out)⟩
end Go.Proofs.Ytmnblcnhbafcpaa
