/-
  SimCut, WALKED.
-/
import Derived.Test.YtmnblcnhbafcpaaM01simCut
import Derived.Deep.CutRange
namespace Go.Proofs.Ytmnblcnhbafcpaa
open Go.RowKit
open NetM
open VecM

set_option maxRecDepth 100000 in
set_option maxHeartbeats 16000000 in
theorem cut_walk (n : Nt) (v : Value) (A : Option Addr) (cA : Nat) (l : List (List Nat)) (p : Nat) (B : Option Addr) (cB : Nat) (m : List (List Nat)) (w : World) (hn : Hid (NtAt w n v)) (hl : l.length ≤ maxLen) (hL : Hid (RawP w A l)) (hp8 : p < 256) (hm : m.length ≤ maxLen) (hM : Hid (RawP w B m)) :
    Calls Try.prog 6 #[v, .slice A l.length cA, .int .u8 p, .slice B m.length cB] w fun e w' => e = .returned (.bool true) ∧ Gr w w' := by
  obtain ⟨i4, hi, hz0, hz1, hz2⟩ := info_parts info42
  have HI4 := Lib.hid (And.intro hi (And.intro hz0 (And.intro hz1 hz2)))
  clear hi hz0 hz1 hz2
  have HV := Lib.hid (fun (u : World) (hu : Gr w u) => hn.out.gr hu)
  obtain ⟨A1, A2, A3, A4, A5, c1, c2, c3, c4, c5, rfl, hc1, h1, h2, h3, h4, h5⟩ := hn.out
  have H1 := Lib.hid h1
  have H2 := Lib.hid h2
  have H3 := Lib.hid h3
  have H4 := Lib.hid h4
  have H5 := Lib.hid h5
  clear h1 h2 h3 h4 h5
  obtain ⟨W0, eW, BW, KEEP⟩ : ∃ W0, w.alloc (.cells (bxC n A1 A2 A3 A4 A5 c1 c2 c3 c4 c5) 27) = W0 ∧ Hid (Gr w W0) ∧ Hid (∀ u, Gr W0 u → BxAt u w.heap.size n A1 A2 A3 A4 A5 c1 c2 c3 c4 c5) :=
    ⟨_, rfl, Lib.hid (bel_alloc _ _), Lib.hid fun u hu => bx_gr (bx_new w n A1 A2 A3 A4 A5 c1 c2 c3 c4 c5) (by simp) hu⟩
  obtain ⟨e0, e1, e2, e3, e4⟩ := KEEP.out W0 (Gr.refl _)
  have H0 := Lib.hid Shead_any
  obtain ⟨gb, hgb⟩ : ∃ gb : Bool, gb = true ↔ NGreat n := by classical exact ⟨decide _, decide_eq_true_iff⟩
  obtain ⟨rb, hrb⟩ : ∃ rb : Bool, rb = true ↔ NRight n := by classical exact ⟨decide _, decide_eq_true_iff⟩
  have GC := Lib.hid (fun (u : World) (hu : Gr w u) => Great_any n _ u (Lib.hid (HV.out u hu)) gb (Lib.hid hgb))
  go_enter Try.func6, Try.ntmps6
  go_wp2_with fail
  try rw [eW]
  clear eW
  refine (H0.out _).mono ?_
  rintro e w1 ⟨rfl, hg⟩
  have G1 := Lib.hid hg
  clear hg e0 e1 e2 e3 e4
  obtain ⟨e0, e1, e2, e3, e4⟩ := KEEP.out _ G1.out
  go_wp2_with fail
  refine (GC.out _ (Gr.trans BW.out G1.out)).mono ?_
  rintro e w2 ⟨rfl, hg⟩
  have G2 := Lib.hid (Gr.trans G1.out hg)
  clear hg e0 e1 e2 e3 e4
  obtain ⟨e0, e1, e2, e3, e4⟩ := KEEP.out _ G2.out
  cases gb with
  | true =>
    go_wp2_with fail
    all_goals
      go_ret
      exact ⟨rfl, Gr.trans BW.out G2.out⟩
  | false =>
  have hz := sz_of (fun h => by have := hgb.2 h; simp at this)
  have hs : Sz n := by unfold Sz; omega
  have RC := Lib.hid (fun (u : World) (hu : Gr w u) => RRight_any n _ u hs (Lib.hid (HV.out u hu)) rb (Lib.hid hrb))
  clear hgb GC
  go_wp2_with fail
  refine (RC.out _ (Gr.trans BW.out G2.out)).mono ?_
  rintro e w3 ⟨rfl, hg⟩
  have G3 := Lib.hid (Gr.trans G2.out hg)
  clear RC
  clear hg e0 e1 e2 e3 e4
  obtain ⟨e0, e1, e2, e3, e4⟩ := KEEP.out _ G3.out
  cases rb with
  | false =>
    go_wp2_with fail
    all_goals
      go_ret
      exact ⟨rfl, Gr.trans BW.out G3.out⟩
  | true =>
  have hR := hrb.1 rfl
  clear hrb
  have hw := wok_of hR.1
  have hI := hR.2.1.2
  by_cases hp0 : n.props.length = 0
  · have q0 : ((n.props.length : Int) == 0) = true := by simp [hp0]
    clear hp0
    go_wp2_with fail
    all_goals
      go_ret
      exact ⟨rfl, Gr.trans BW.out G3.out⟩
  have q0 : ((n.props.length : Int) == 0) = false := beq_eq_false_iff_ne.2 (by omega)
  have q1 : ¬ (n.props.length : Int) = 0 := by omega
  have TR := Lib.hid (Trace_any n _ A cA l w3 hs (Lib.hid (HV.out _ (Gr.trans BW.out G3.out))) hw hI hl (Lib.hid (hL.out.gr (Gr.trans BW.out G3.out))))
  go_wp2_with fail
  refine TR.out.mono ?_
  rintro e w4 ⟨vt, rfl, ht4, hg⟩
  have G4 := Lib.hid (Gr.trans G3.out hg)
  obtain ⟨t, htq⟩ : ∃ t, trOf n l = t := ⟨_, rfl⟩
  have hto : TrOk n t := by rw [← htq]; exact trOf_ok n l
  have htl : t.length ≤ 64 := by rw [← htq]; exact trOf_len n l
  rw [htq] at ht4
  have HT := Lib.hid ht4
  obtain ⟨At, ct, rfl, hct, hrt⟩ := ht4
  rw [List.length_map] at hct HT ⊢
  have HTP := Lib.hid hrt
  clear hrt TR htq
  clear hg e0 e1 e2 e3 e4
  obtain ⟨e0, e1, e2, e3, e4⟩ := KEEP.out _ G4.out
  have HV4 := Lib.hid (fun (u : World) (hu : Gr w4 u) => HV.out u (Gr.trans BW.out (Gr.trans G4.out hu)))
  have ST := Lib.hid (fun (u : World) (hu : Gr w4 u) => SStates_any n _ _ t u hs (Lib.hid (HV4.out u hu)) hR hto htl (Lib.hid (HT.out.gr hu)))
  have RU := Lib.hid (fun (u : World) (hu : Gr w4 u) => SRun_any n _ _ t u hs (Lib.hid (HV4.out u hu)) hR hto htl (Lib.hid (HT.out.gr hu)))
  have HH := Lib.hid (fun (pi : Int) (u : World) (hu : Gr w4 u) => SHit_any n _ _ pi t u hs (Lib.hid (HV4.out u hu)) hR hto htl (Lib.hid (HT.out.gr hu)))
  have U4 := Lib.hid (Gr.refl w4)
  obtain ⟨q, hq⟩ : ∃ q, q = p % n.props.length := ⟨_, rfl⟩
  have hql : q < n.props.length := by rw [hq]; exact Nat.mod_lt _ (by omega)
  have htm : Int.tmod (p : Int) (n.props.length : Int) = (q : Int) := by rw [Int.tmod_eq_emod_of_nonneg (by omega), ← Int.natCast_emod, ← hq]
  have r0 := wrap_int (y := (p : Int)) (by omega) (by omega)
  have hz := hs
  unfold Sz at hz
  have r1 := wrap_int (y := (q : Int)) (by omega) (by omega)
  clear hz
  have hpr : n.props[q]? = some n.props[q] := List.getElem?_eq_getElem hql
  generalize n.props[q] = pr at hpr
  obtain ⟨kk, is, hki⟩ : ∃ kk is, hitF n t pr q 0 t.length = (kk, is) := ⟨_, _, rfl⟩
  have HQ := Lib.hid (fun (u : World) (hu : Gr w4 u) => HH.out (q : Int) u hu)
  simp only [hitOf_at hpr, hki] at HQ
  have KI := Lib.hid hki
  have PR := Lib.hid hpr
  clear hki hpr HH ST RU hq
  go_wp2_with fail
  refine (HQ.out _ U4.out).mono ?_
  rintro e w5 ⟨rfl, hg⟩
  have G5 := Lib.hid (Gr.trans G4.out hg)
  have U5 := Lib.hid (Gr.trans U4.out hg)
  clear htm r0 r1 HQ
  clear hg e0 e1 e2 e3 e4
  obtain ⟨e0, e1, e2, e3, e4⟩ := KEEP.out _ G5.out
  cases is with
  | false =>
    have hk0 := hitF_none (n := n) (t := t) (p := pr) (pi := q) (m := t.length) (s := 0) (by rw [KI.out])
    rw [KI.out] at hk0
    obtain rfl : kk = 0 := by simpa using hk0
    go_wp2_with fail
    go_ret
    exact ⟨rfl, Gr.trans BW.out G5.out⟩
  | true =>
  have hkt : kk < t.length := by have := (hitF_spec KI.out).2.1; omega
  have k1 : ¬ (kk : Int) < 0 := by omega
  have k2 : ¬ (t.length : Int) ≤ (kk : Int) := by omega
  have k3 : (0 : Int) ≤ (kk : Int) := by omega
  have k4 : (kk : Int) + 1 ≤ (ct : Int) := by omega
  have k5 : (0 : Int) ≤ (kk : Int) + 1 := by omega
  have k6 : (kk : Int) ≤ (ct : Int) := by omega
  have k7 : ((kk : Int) + 1).toNat = kk + 1 := by omega
  have r6 := wrap_int (y := (kk : Int) + 1) (by omega) (by omega)
  have HK1 := Lib.hid (show (t.take (kk + 1)).length = kk + 1 by rw [List.length_take]; omega)
  have HK0 := Lib.hid (show (t.take kk).length = kk by rw [List.length_take]; omega)
  have TK1 := Lib.hid (fun (u : World) (hu : Gr w4 u) => (show RwsR u (.slice At (kk + 1) ct) ((t.take (kk + 1)).map ofN) from by
    have h := rws_take (k := kk + 1) (HT.out.gr hu) (by rw [List.length_map]; omega)
    rwa [← List.map_take] at h))
  have TK0 := Lib.hid (fun (u : World) (hu : Gr w4 u) => (show RwsR u (.slice At kk ct) ((t.take kk).map ofN) from by
    have h := rws_take (k := kk) (HT.out.gr hu) (by rw [List.length_map]; omega)
    rwa [← List.map_take] at h))
  have q1 : hitOf n (t.take (kk + 1)) (q : Nat) = (kk, true) := by
    rw [hitOf_at PR.out, HK1.out]
    exact hitF_cut KI.out (fun j hj => (List.getElem?_take_of_lt (by omega)).symm) (by omega)
  have q2 : hitOf n (t.take kk) (q : Nat) = (0, false) := by
    rw [hitOf_at PR.out, HK0.out]
    exact hitF_none (hitF_ahead KI.out (u := t.take kk) (fun j hj => (List.getElem?_take_of_lt hj).symm))
  have HA := Lib.hid (fun (u : World) (hu : Gr w4 u) => SHit_any n _ _ (q : Int) (t.take (kk + 1)) u hs (Lib.hid (HV4.out u hu)) hR (trOk_take hto _) (by rw [HK1.out]; omega) (Lib.hid (TK1.out u hu)))
  have HB := Lib.hid (fun (u : World) (hu : Gr w4 u) => SHit_any n _ _ (q : Int) (t.take kk) u hs (Lib.hid (HV4.out u hu)) hR (trOk_take hto _) (by rw [HK0.out]; omega) (Lib.hid (TK0.out u hu)))
  simp only [q1] at HA
  simp only [q2] at HB
  clear q1 q2
  have KP := Lib.hid (fun (u : World) (hu : Gr w5 u) => KEEP.out u (Gr.trans G5.out hu))
  have TO := Lib.hid (fun (u : World) (hu : Gr w5 u) => Trace_own n _ B cB m u hs (Lib.hid (HV4.out u (Gr.trans U5.out hu))) hw hI hm (Lib.hid (hM.out.gr (Gr.trans BW.out (Gr.trans G5.out hu)))))
  obtain ⟨usT, hT⟩ : ∃ usT, Rc w4 0 w4.heap.size At usT ((t.take (kk + 1)).map ofN) := by
    obtain ⟨A', c', eA, -, hP⟩ := TK1.out w4 (Gr.refl _)
    simp only [Value.slice.injEq] at eA
    obtain ⟨rfl, -, rfl⟩ := eA
    exact rc_rws hP
  have TC := Lib.hid (fun (u : World) (hu : Gr w5 u) => hT.gr (Gr.trans U5.out hu))
  clear hT
  have HML := Lib.hid (show ((t.take (kk + 1)).map ofN).length = kk + 1 by rw [List.length_map]; exact HK1.out)
  have HRL := Lib.hid (show ((trOf n m).map ofN).length ≤ 64 by rw [List.length_map]; exact trOf_len n m)
  have HKT := Lib.hid hkt
  have HTL := Lib.hid htl
  go_upto_region 11 with fail
  clear e0 e1 e2 e3 e4
  refine wp_region_held_drew (S := (fun u : World => BxAt u w.heap.size n A1 A2 A3 A4 A5 c1 c2 c3 c4 c5)) (by kernel_rfl) (KP.out _ (Gr.drew _)) (fun hHeld => ?_)
  refine wpAnyH_take (i := 0) (oi := { dst := some 68, op := Op.load 27 (Operand.tmp 4), type := 27, pos := "law.go:130", after := #[], guard := none }) (v := ?_) rfl (by kernel_rfl) (by kernel_rfl) (by kernel_rfl) (fun _ _ _ h => h) (Or.inl ⟨by rfl, ?_⟩) hHeld ?_
  case refine_2 => (intro w hSw; (try dsimp only at hSw); go_simp; try (with_reducible rfl))
  try simp only [Act.put, List.setIfInBounds_toArray, List.set_cons_zero, List.set_cons_succ]
  refine wpAnyH_take (i := 1) (oi := { dst := some 69, op := Op.move (Operand.tmp 11), type := 3, pos := "law.go:130", after := #[], guard := none }) (v := ?_) rfl (by kernel_rfl) (by kernel_rfl) (by kernel_rfl) (fun _ _ _ h => h) (Or.inl ⟨by rfl, ?_⟩) hHeld ?_
  case refine_2 => (intro w hSw; (try dsimp only at hSw); go_simp; try (with_reducible rfl))
  try simp only [Act.put, List.setIfInBounds_toArray, List.set_cons_zero, List.set_cons_succ]
  refine wpAnyH_take (i := 2) (oi := { dst := some 70, op := Op.move (Operand.tmp 10), type := 28, pos := "law.go:130", after := #[], guard := none }) (v := ?_) rfl (by kernel_rfl) (by kernel_rfl) (by kernel_rfl) (fun _ _ _ h => h) (Or.inl ⟨by rfl, ?_⟩) hHeld ?_
  case refine_2 => (intro w hSw; (try dsimp only at hSw); go_simp; try (with_reducible rfl))
  try simp only [Act.put, List.setIfInBounds_toArray, List.set_cons_zero, List.set_cons_succ]
  refine wpAnyH_take (i := 3) (oi := { dst := some 71, op := Op.move (Operand.tmp 12), type := 3, pos := "law.go:130", after := #[], guard := none }) (v := ?_) rfl (by kernel_rfl) (by kernel_rfl) (by kernel_rfl) (fun _ _ _ h => h) (Or.inl ⟨by rfl, ?_⟩) hHeld ?_
  case refine_2 => (intro w hSw; (try dsimp only at hSw); go_simp; try (with_reducible rfl))
  try simp only [Act.put, List.setIfInBounds_toArray, List.set_cons_zero, List.set_cons_succ]
  refine wpAnyH_take (i := 4) (oi := { dst := some 72, op := Op.binOp BinOp.add 3 (Operand.tmp 71) (Operand.const (Value.int IntKind.i64 1)) 3, type := 3, pos := "law.go:130", after := #[{ on := 3, ground := Ground.data }], guard := none }) (v := ?_) rfl (by kernel_rfl) (by kernel_rfl) (by kernel_rfl) (fun _ _ _ h => h) (Or.inl ⟨by rfl, ?_⟩) hHeld ?_
  case refine_2 => (intro w hSw; (try dsimp only at hSw); go_simp; try (with_reducible rfl))
  try simp only [Act.put, List.setIfInBounds_toArray, List.set_cons_zero, List.set_cons_succ]
  refine wpAnyH_take (i := 5) (oi := { dst := some 73, op := Op.slice 28 (Operand.tmp 70) none (some (Operand.tmp 72)) none, type := 28, pos := "law.go:130", after := #[{ on := 2, ground := Ground.data }, { on := 4, ground := Ground.data }], guard := none }) (v := ?_) rfl (by kernel_rfl) (by kernel_rfl) (by kernel_rfl) (fun _ _ _ h => h) (Or.inl ⟨by rfl, ?_⟩) hHeld ?_
  case refine_2 => (intro w hSw; (try dsimp only at hSw); go_simp; try (with_reducible rfl))
  try simp only [Act.put, List.setIfInBounds_toArray, List.set_cons_zero, List.set_cons_succ]
  refine wpAnyH_ready (rs := [6]) (by kernel_rfl) (by simp) ?_
  refine (AllReadyH.cons (o := { dst := some 74, op := Op.call { callee := Callee.value (Operand.func 16), args := #[Operand.tmp 68, Operand.tmp 69, Operand.tmp 73], argTypes := #[27, 3, 28] }, type := 34, pos := "law.go:130", after := #[{ on := 0, ground := Ground.data }, { on := 1, ground := Ground.data }, { on := 5, ground := Ground.data }], guard := none }) rfl (fun K hK => ?_) AllReadyH.nil)
  go_simp
  refine (HA.out _ (Gr.trans U5.out (Gr.trans (Gr.refl w5) (Gr.drew _)))).mono ?_
  rintro e wa ⟨rfl, hg⟩
  have Gwa := Lib.hid (show Gr w5 wa from Gr.trans (Gr.trans (Gr.refl w5) (Gr.drew _)) hg)
  clear hg
  refine hK.out _ _ (KP.out _ Gwa.out) (fun hHeld => ?_)
  clear hK K
  try simp only [Act.put, List.setIfInBounds_toArray, List.set_cons_zero, List.set_cons_succ]
  refine wpAnyH_take (i := 7) (oi := { dst := some 67, op := Op.move (Operand.tmp 74), type := 34, pos := "law.go:130", after := #[{ on := 6, ground := Ground.data }], guard := none }) (v := ?_) rfl (by kernel_rfl) (by kernel_rfl) (by kernel_rfl) (fun _ _ _ h => h) (Or.inl ⟨by rfl, ?_⟩) hHeld ?_
  case refine_2 => (intro w hSw; (try dsimp only at hSw); go_simp; try (with_reducible rfl))
  try simp only [Act.put, List.setIfInBounds_toArray, List.set_cons_zero, List.set_cons_succ]
  refine wpAnyH_take (i := 8) (oi := { dst := some 75, op := Op.extract (Operand.tmp 67) 0, type := 3, pos := "law.go:130", after := #[{ on := 7, ground := Ground.data }], guard := none }) (v := ?_) rfl (by kernel_rfl) (by kernel_rfl) (by kernel_rfl) (fun _ _ _ h => h) (Or.inl ⟨by rfl, ?_⟩) hHeld ?_
  case refine_2 => (intro w hSw; (try dsimp only at hSw); go_simp; try (with_reducible rfl))
  try simp only [Act.put, List.setIfInBounds_toArray, List.set_cons_zero, List.set_cons_succ]
  refine wpAnyH_take (i := 9) (oi := { dst := some 76, op := Op.extract (Operand.tmp 67) 1, type := 4, pos := "law.go:130", after := #[{ on := 7, ground := Ground.data }, { on := 10, ground := Ground.gcOnly Departure.lateStores }], guard := none }) (v := ?_) rfl (by kernel_rfl) (by kernel_rfl) (by kernel_rfl) (fun _ _ _ h => h) (Or.inl ⟨by rfl, ?_⟩) hHeld ?_
  case refine_2 => (intro w hSw; (try dsimp only at hSw); go_simp; try (with_reducible rfl))
  try simp only [Act.put, List.setIfInBounds_toArray, List.set_cons_zero, List.set_cons_succ]
  refine wpAnyH_take (i := 10) (oi := { dst := some 14, op := Op.assign (Operand.tmp 75), type := 3, pos := "law.go:130", after := #[{ on := 8, ground := Ground.data }, { on := 6, ground := Ground.chain }, { on := 0, ground := Ground.phase }, { on := 1, ground := Ground.phase }, { on := 2, ground := Ground.phase }, { on := 3, ground := Ground.phase }, { on := 4, ground := Ground.phase }, { on := 5, ground := Ground.phase }, { on := 6, ground := Ground.phase }, { on := 7, ground := Ground.phase }, { on := 8, ground := Ground.phase }, { on := 9, ground := Ground.textOnly Departure.lateStores }], guard := none }) (v := ?_) rfl (by kernel_rfl) (by kernel_rfl) (by kernel_rfl) (fun _ _ _ h => h) (Or.inl ⟨by rfl, ?_⟩) hHeld ?_
  case refine_2 => (intro w hSw; (try dsimp only at hSw); go_simp; try (with_reducible rfl))
  try simp only [Act.put, List.setIfInBounds_toArray, List.set_cons_zero, List.set_cons_succ]
  refine wpAnyH_take (i := 11) (oi := { dst := some 15, op := Op.assign (Operand.tmp 76), type := 4, pos := "law.go:130", after := #[{ on := 9, ground := Ground.data }, { on := 10, ground := Ground.chain }, { on := 0, ground := Ground.phase }, { on := 1, ground := Ground.phase }, { on := 2, ground := Ground.phase }, { on := 3, ground := Ground.phase }, { on := 4, ground := Ground.phase }, { on := 5, ground := Ground.phase }, { on := 6, ground := Ground.phase }, { on := 7, ground := Ground.phase }, { on := 8, ground := Ground.phase }, { on := 9, ground := Ground.phase }, { on := 10, ground := Ground.phase }], guard := none }) (v := ?_) rfl (by kernel_rfl) (by kernel_rfl) (by kernel_rfl) (fun _ _ _ h => h) (Or.inl ⟨by rfl, ?_⟩) hHeld ?_
  case refine_2 => (intro w hSw; (try dsimp only at hSw); go_simp; try (with_reducible rfl))
  try simp only [Act.put, List.setIfInBounds_toArray, List.set_cons_zero, List.set_cons_succ]
  refine wpAnyH_done (by kernel_rfl) ?_ _
  skip
  go_upto_region 12 with fail
  refine wp_region_held_drew (S := (fun u : World => BxAt u w.heap.size n A1 A2 A3 A4 A5 c1 c2 c3 c4 c5)) (by kernel_rfl) (KP.out _ (Gr.trans Gwa.out (Gr.drew _))) (fun hHeld => ?_)
  refine wpAnyH_take (i := 0) (oi := { dst := some 78, op := Op.load 27 (Operand.tmp 4), type := 27, pos := "law.go:131", after := #[], guard := none }) (v := ?_) rfl (by kernel_rfl) (by kernel_rfl) (by kernel_rfl) (fun _ _ _ h => h) (Or.inl ⟨by rfl, ?_⟩) hHeld ?_
  case refine_2 => (intro w hSw; (try dsimp only at hSw); go_simp; try (with_reducible rfl))
  try simp only [Act.put, List.setIfInBounds_toArray, List.set_cons_zero, List.set_cons_succ]
  refine wpAnyH_take (i := 1) (oi := { dst := some 79, op := Op.move (Operand.tmp 11), type := 3, pos := "law.go:131", after := #[], guard := none }) (v := ?_) rfl (by kernel_rfl) (by kernel_rfl) (by kernel_rfl) (fun _ _ _ h => h) (Or.inl ⟨by rfl, ?_⟩) hHeld ?_
  case refine_2 => (intro w hSw; (try dsimp only at hSw); go_simp; try (with_reducible rfl))
  try simp only [Act.put, List.setIfInBounds_toArray, List.set_cons_zero, List.set_cons_succ]
  refine wpAnyH_take (i := 2) (oi := { dst := some 80, op := Op.move (Operand.tmp 10), type := 28, pos := "law.go:131", after := #[], guard := none }) (v := ?_) rfl (by kernel_rfl) (by kernel_rfl) (by kernel_rfl) (fun _ _ _ h => h) (Or.inl ⟨by rfl, ?_⟩) hHeld ?_
  case refine_2 => (intro w hSw; (try dsimp only at hSw); go_simp; try (with_reducible rfl))
  try simp only [Act.put, List.setIfInBounds_toArray, List.set_cons_zero, List.set_cons_succ]
  refine wpAnyH_take (i := 3) (oi := { dst := some 81, op := Op.move (Operand.tmp 12), type := 3, pos := "law.go:131", after := #[], guard := none }) (v := ?_) rfl (by kernel_rfl) (by kernel_rfl) (by kernel_rfl) (fun _ _ _ h => h) (Or.inl ⟨by rfl, ?_⟩) hHeld ?_
  case refine_2 => (intro w hSw; (try dsimp only at hSw); go_simp; try (with_reducible rfl))
  try simp only [Act.put, List.setIfInBounds_toArray, List.set_cons_zero, List.set_cons_succ]
  refine wpAnyH_take (i := 4) (oi := { dst := some 82, op := Op.slice 28 (Operand.tmp 80) none (some (Operand.tmp 81)) none, type := 28, pos := "law.go:131", after := #[{ on := 2, ground := Ground.data }, { on := 3, ground := Ground.data }], guard := none }) (v := ?_) rfl (by kernel_rfl) (by kernel_rfl) (by kernel_rfl) (fun _ _ _ h => h) (Or.inl ⟨by rfl, ?_⟩) hHeld ?_
  case refine_2 => (intro w hSw; (try dsimp only at hSw); go_simp; try (with_reducible rfl))
  try simp only [Act.put, List.setIfInBounds_toArray, List.set_cons_zero, List.set_cons_succ]
  refine wpAnyH_ready (rs := [5]) (by kernel_rfl) (by simp) ?_
  refine (AllReadyH.cons (o := { dst := some 83, op := Op.call { callee := Callee.value (Operand.func 16), args := #[Operand.tmp 78, Operand.tmp 79, Operand.tmp 82], argTypes := #[27, 3, 28] }, type := 34, pos := "law.go:131", after := #[{ on := 0, ground := Ground.data }, { on := 1, ground := Ground.data }, { on := 4, ground := Ground.data }], guard := none }) rfl (fun K hK => ?_) AllReadyH.nil)
  go_simp
  refine (HB.out _ (Gr.trans U5.out (Gr.trans Gwa.out (Gr.drew _)))).mono ?_
  rintro e wb ⟨rfl, hg⟩
  have Gwb := Lib.hid (show Gr w5 wb from Gr.trans (Gr.trans Gwa.out (Gr.drew _)) hg)
  clear hg
  refine hK.out _ _ (KP.out _ Gwb.out) (fun hHeld => ?_)
  clear hK K
  try simp only [Act.put, List.setIfInBounds_toArray, List.set_cons_zero, List.set_cons_succ]
  refine wpAnyH_take (i := 6) (oi := { dst := some 77, op := Op.move (Operand.tmp 83), type := 34, pos := "law.go:131", after := #[{ on := 5, ground := Ground.data }], guard := none }) (v := ?_) rfl (by kernel_rfl) (by kernel_rfl) (by kernel_rfl) (fun _ _ _ h => h) (Or.inl ⟨by rfl, ?_⟩) hHeld ?_
  case refine_2 => (intro w hSw; (try dsimp only at hSw); go_simp; try (with_reducible rfl))
  try simp only [Act.put, List.setIfInBounds_toArray, List.set_cons_zero, List.set_cons_succ]
  refine wpAnyH_take (i := 7) (oi := { dst := some 84, op := Op.extract (Operand.tmp 77) 0, type := 3, pos := "law.go:131", after := #[{ on := 6, ground := Ground.data }], guard := none }) (v := ?_) rfl (by kernel_rfl) (by kernel_rfl) (by kernel_rfl) (fun _ _ _ h => h) (Or.inl ⟨by rfl, ?_⟩) hHeld ?_
  case refine_2 => (intro w hSw; (try dsimp only at hSw); go_simp; try (with_reducible rfl))
  try simp only [Act.put, List.setIfInBounds_toArray, List.set_cons_zero, List.set_cons_succ]
  refine wpAnyH_take (i := 8) (oi := { dst := some 85, op := Op.extract (Operand.tmp 77) 1, type := 4, pos := "law.go:131", after := #[{ on := 6, ground := Ground.data }, { on := 9, ground := Ground.gcOnly Departure.lateStores }], guard := none }) (v := ?_) rfl (by kernel_rfl) (by kernel_rfl) (by kernel_rfl) (fun _ _ _ h => h) (Or.inl ⟨by rfl, ?_⟩) hHeld ?_
  case refine_2 => (intro w hSw; (try dsimp only at hSw); go_simp; try (with_reducible rfl))
  try simp only [Act.put, List.setIfInBounds_toArray, List.set_cons_zero, List.set_cons_succ]
  refine wpAnyH_take (i := 9) (oi := { dst := some 16, op := Op.assign (Operand.tmp 84), type := 3, pos := "law.go:131", after := #[{ on := 7, ground := Ground.data }, { on := 5, ground := Ground.chain }, { on := 0, ground := Ground.phase }, { on := 1, ground := Ground.phase }, { on := 2, ground := Ground.phase }, { on := 3, ground := Ground.phase }, { on := 4, ground := Ground.phase }, { on := 5, ground := Ground.phase }, { on := 6, ground := Ground.phase }, { on := 7, ground := Ground.phase }, { on := 8, ground := Ground.textOnly Departure.lateStores }], guard := none }) (v := ?_) rfl (by kernel_rfl) (by kernel_rfl) (by kernel_rfl) (fun _ _ _ h => h) (Or.inl ⟨by rfl, ?_⟩) hHeld ?_
  case refine_2 => (intro w hSw; (try dsimp only at hSw); go_simp; try (with_reducible rfl))
  try simp only [Act.put, List.setIfInBounds_toArray, List.set_cons_zero, List.set_cons_succ]
  refine wpAnyH_take (i := 10) (oi := { dst := some 17, op := Op.assign (Operand.tmp 85), type := 4, pos := "law.go:131", after := #[{ on := 8, ground := Ground.data }, { on := 9, ground := Ground.chain }, { on := 0, ground := Ground.phase }, { on := 1, ground := Ground.phase }, { on := 2, ground := Ground.phase }, { on := 3, ground := Ground.phase }, { on := 4, ground := Ground.phase }, { on := 5, ground := Ground.phase }, { on := 6, ground := Ground.phase }, { on := 7, ground := Ground.phase }, { on := 8, ground := Ground.phase }, { on := 9, ground := Ground.phase }], guard := none }) (v := ?_) rfl (by kernel_rfl) (by kernel_rfl) (by kernel_rfl) (fun _ _ _ h => h) (Or.inl ⟨by rfl, ?_⟩) hHeld ?_
  case refine_2 => (intro w hSw; (try dsimp only at hSw); go_simp; try (with_reducible rfl))
  try simp only [Act.put, List.setIfInBounds_toArray, List.set_cons_zero, List.set_cons_succ]
  refine wpAnyH_done (by kernel_rfl) ?_ _
  skip
  obtain ⟨Z, hZ⟩ : ∃ Z, t.take (kk + 1) ++ trOf n m = Z := ⟨_, rfl⟩
  have HZQ := Lib.hid hZ
  go_upto_region 13 with fail
  go_cut [18] from 86 to 128 (fun b wx => ∃ X cX, b = .slice X Z.length cX ∧ Hid (Gr w5 wx) ∧ Hid (RwsR wx (.slice X Z.length cX) (Z.map ofN)))
  case first =>
    clear hZ k1 k2 k6 HA HB
    refine wp_region_held_drew (S := (fun u : World => BxAt u w.heap.size n A1 A2 A3 A4 A5 c1 c2 c3 c4 c5)) (by kernel_rfl) (KP.out _ (Gr.trans Gwb.out (Gr.drew _))) (fun hHeld => ?_)
    refine wpAnyH_take (i := 1) (oi := { dst := some 87, op := Op.move (Operand.tmp 10), type := 28, pos := "law.go:132", after := #[], guard := none }) (v := ?_) rfl (by kernel_rfl) (by kernel_rfl) (by kernel_rfl) (fun _ _ _ h => h) (Or.inl ⟨by rfl, ?_⟩) hHeld ?_
    case refine_2 => (intro w hSw; (try dsimp only at hSw); go_simp; try (with_reducible rfl))
    try simp only [Act.put, List.setIfInBounds_toArray, List.set_cons_zero, List.set_cons_succ]
    refine wpAnyH_take (i := 2) (oi := { dst := some 88, op := Op.move (Operand.tmp 12), type := 3, pos := "law.go:132", after := #[], guard := none }) (v := ?_) rfl (by kernel_rfl) (by kernel_rfl) (by kernel_rfl) (fun _ _ _ h => h) (Or.inl ⟨by rfl, ?_⟩) hHeld ?_
    case refine_2 => (intro w hSw; (try dsimp only at hSw); go_simp; try (with_reducible rfl))
    try simp only [Act.put, List.setIfInBounds_toArray, List.set_cons_zero, List.set_cons_succ]
    refine wpAnyH_take (i := 3) (oi := { dst := some 89, op := Op.binOp BinOp.add 3 (Operand.tmp 88) (Operand.const (Value.int IntKind.i64 1)) 3, type := 3, pos := "law.go:132", after := #[{ on := 2, ground := Ground.data }], guard := none }) (v := ?_) rfl (by kernel_rfl) (by kernel_rfl) (by kernel_rfl) (fun _ _ _ h => h) (Or.inl ⟨by rfl, ?_⟩) hHeld ?_
    case refine_2 => (intro w hSw; (try dsimp only at hSw); go_simp; try (with_reducible rfl))
    try simp only [Act.put, List.setIfInBounds_toArray, List.set_cons_zero, List.set_cons_succ]
    refine wpAnyH_take (i := 4) (oi := { dst := some 90, op := Op.slice 28 (Operand.tmp 87) none (some (Operand.tmp 89)) none, type := 28, pos := "law.go:132", after := #[{ on := 1, ground := Ground.data }, { on := 3, ground := Ground.data }], guard := none }) (v := ?_) rfl (by kernel_rfl) (by kernel_rfl) (by kernel_rfl) (fun _ _ _ h => h) (Or.inl ⟨by rfl, ?_⟩) hHeld ?_
    case refine_2 => (intro w hSw; (try dsimp only at hSw); go_simp; try (with_reducible rfl))
    try simp only [Act.put, List.setIfInBounds_toArray, List.set_cons_zero, List.set_cons_succ]
    refine wpAnyH_take (i := 6) (oi := { dst := some 92, op := Op.load 27 (Operand.tmp 4), type := 27, pos := "law.go:132", after := #[], guard := none }) (v := ?_) rfl (by kernel_rfl) (by kernel_rfl) (by kernel_rfl) (fun _ _ _ h => h) (Or.inl ⟨by rfl, ?_⟩) hHeld ?_
    case refine_2 => (intro w hSw; (try dsimp only at hSw); go_simp; try (with_reducible rfl))
    try simp only [Act.put, List.setIfInBounds_toArray, List.set_cons_zero, List.set_cons_succ]
    refine wpAnyH_take (i := 7) (oi := { dst := some 93, op := Op.move (Operand.tmp 3), type := 29, pos := "law.go:132", after := #[], guard := none }) (v := ?_) rfl (by kernel_rfl) (by kernel_rfl) (by kernel_rfl) (fun _ _ _ h => h) (Or.inl ⟨by rfl, ?_⟩) hHeld ?_
    case refine_2 => (intro w hSw; (try dsimp only at hSw); go_simp; try (with_reducible rfl))
    try simp only [Act.put, List.setIfInBounds_toArray, List.set_cons_zero, List.set_cons_succ]
    refine wpAnyH_ready (rs := [0]) (by kernel_rfl) (by simp) ?_
    refine (AllReadyH.cons (o := { dst := some 86, op := Op.buildSlice 28 0 #[], type := 28, pos := "law.go:132", after := #[], guard := none }) rfl (fun K hK => ?_) AllReadyH.nil)
    have GNW := Lib.hid (show Gr w5 (wb.alloc (.cells #[] 42)).drew from Gr.trans (Gr.trans Gwb.out (Gr.drew _)) (bel_alloc wb.drew (.cells #[] 42)))
    have OW := Lib.hid (show RwsU wb.drew (.slice (some ⟨wb.heap.size, 0, none⟩) 0 0) [] [] (wb.alloc (.cells #[] 42)).drew from rws_empty _)
    go_simp
    refine hK.out _ _ (KP.out _ GNW.out) (fun hHeld => ?_)
    clear hK K
    try simp only [Act.put, List.setIfInBounds_toArray, List.set_cons_zero, List.set_cons_succ]
    refine wpAnyH_ready (rs := [5]) (by kernel_rfl) (by simp) ?_
    refine (AllReadyH.cons (o := { dst := some 91, op := Op.call { callee := Callee.builtin Builtin.append, args := #[Operand.tmp 86, Operand.tmp 90], argTypes := #[28, 28] }, type := 28, pos := "law.go:132", after := #[{ on := 0, ground := Ground.data }, { on := 4, ground := Ground.data }], guard := none }) rfl (fun K hK => ?_) AllReadyH.nil)
    refine step_app_rws rfl _ _ rfl HI4.out.1 HI4.out.2.1 HI4.out.2.2.1 HI4.out.2.2.2 wb.drew _ (.slice (some ⟨wb.heap.size, 0, none⟩) 0 0) [] [] rfl OW.out At (kk + 1) ct rfl usT ((t.take (kk + 1)).map ofN) HML.out 0 w4.heap.size (TC.out _ GNW.out) (fun g hg => .inr (by have e : wb.heap.size = g := (by simpa [Value.ownBlock] using hg); rw [← e]; exact (show w4.heap.size ≤ wb.heap.size from (Gr.trans U5.out (Gr.trans Gwb.out (Gr.drew _))).size))) (by have := HKT.out; have := HTL.out; simp only [List.length_nil]; omega) ?_
    intro v1 w1 hU1 hgr1 hor1
    simp only [List.nil_append] at hU1
    have UV := Lib.hid hU1
    have G1a := Lib.hid (show Gr w5 w1 from Gr.trans (Gr.trans Gwb.out (Gr.drew _)) hU1.1)
    refine hK.out _ _ (KP.out _ G1a.out) (fun hHeld => ?_)
    clear hK K hU1 hgr1 hor1
    try simp only [Act.put, List.setIfInBounds_toArray, List.set_cons_zero, List.set_cons_succ]
    refine wpAnyH_ready (rs := [8]) (by kernel_rfl) (by simp) ?_
    refine (AllReadyH.cons (o := { dst := some 94, op := Op.call { callee := Callee.value (Operand.func 15), args := #[Operand.tmp 92, Operand.tmp 93], argTypes := #[27, 29] }, type := 28, pos := "law.go:132", after := #[{ on := 6, ground := Ground.data }, { on := 7, ground := Ground.data }, { on := 5, ground := Ground.chain }], guard := none }) rfl (fun K hK => ?_) AllReadyH.nil)
    go_simp
    refine (TO.out _ G1a.out).mono ?_
    rintro e z1 ⟨v2, rfl, us2, W1, hg1, hU2, hf2⟩
    have GZ1 := Lib.hid (show Gr w5 z1 from Gr.trans G1a.out (Gr.trans hg1 hU2.1))
    have GCZ := Lib.hid (show Gr w1 z1 from Gr.trans hg1 hU2.1)
    obtain ⟨AZ, cz, rfl, hC2⟩ := rc_own hU2 hg1.size hf2
    have RC1 := Lib.hid hC2
    clear hC2 hU2 hf2 hg1
    have SP := Lib.hid (show ∀ g, v1.ownBlock = some g → g < w1.heap.size ∨ z1.heap.size ≤ g from fun g hg => .inl (UV.out.2.1.lt g hg).2)
    have UV := Lib.hid (UV.out.gr GCZ.out)
    have RC3 := RC1
    refine hK.out _ _ (KP.out _ GZ1.out) (fun hHeld => ?_)
    clear hK K
    try simp only [Act.put, List.setIfInBounds_toArray, List.set_cons_zero, List.set_cons_succ]
    refine wpAnyH_ready (rs := [9]) (by kernel_rfl) (by simp) ?_
    refine (AllReadyH.cons (o := { dst := some 95, op := Op.call { callee := Callee.builtin Builtin.append, args := #[Operand.tmp 91, Operand.tmp 94], argTypes := #[28, 28] }, type := 28, pos := "law.go:132", after := #[{ on := 5, ground := Ground.data }, { on := 8, ground := Ground.data }, { on := 8, ground := Ground.chain }], guard := none }) rfl (fun K hK => ?_) AllReadyH.nil)
    refine step_app_rws rfl _ _ rfl HI4.out.1 HI4.out.2.1 HI4.out.2.2.1 HI4.out.2.2.2 wb.drew _ v1 usT ((t.take (kk + 1)).map ofN) rfl UV.out AZ ((trOf n m).map ofN).length cz rfl us2 ((trOf n m).map ofN) rfl w1.heap.size z1.heap.size RC3.out SP.out (by have := HRL.out; rw [HML.out]; have := HKT.out; have := HTL.out; omega) ?_
    intro v3 w3 hU3 _ _
    have h9 := rws_own hU3
    have G3a := Lib.hid (show Gr w5 w3 from Gr.trans (Gr.trans Gwb.out (Gr.drew _)) hU3.1)
    rw [← List.map_append, HZQ.out] at h9
    have HX := Lib.hid h9
    obtain ⟨X, cX, rfl, -⟩ := h9
    rw [List.length_map] at HX ⊢
    refine hK.out _ _ (KP.out _ G3a.out) (fun hHeld => ?_)
    clear hK K hU3
    try simp only [Act.put, List.setIfInBounds_toArray, List.set_cons_zero, List.set_cons_succ]
    refine wpAnyH_take (i := 10) (oi := { dst := some 18, op := Op.assign (Operand.tmp 95), type := 28, pos := "law.go:132", after := #[{ on := 9, ground := Ground.data }, { on := 9, ground := Ground.chain }, { on := 0, ground := Ground.phase }, { on := 1, ground := Ground.phase }, { on := 2, ground := Ground.phase }, { on := 3, ground := Ground.phase }, { on := 4, ground := Ground.phase }, { on := 5, ground := Ground.phase }, { on := 6, ground := Ground.phase }, { on := 7, ground := Ground.phase }, { on := 8, ground := Ground.phase }, { on := 9, ground := Ground.phase }], guard := none }) (v := ?_) rfl (by kernel_rfl) (by kernel_rfl) (by kernel_rfl) (fun _ _ _ h => h) (Or.inl ⟨by rfl, ?_⟩) hHeld ?_
    case refine_2 => (intro w hSw; (try dsimp only at hSw); go_simp; try (with_reducible rfl))
    try simp only [Act.put, List.setIfInBounds_toArray, List.set_cons_zero, List.set_cons_succ]
    refine wpAnyH_done (by kernel_rfl) ?_ _
    go_wp2_with fail
    go_meet
    exact ⟨_, _, rfl, G3a, HX⟩
  case rest =>
  obtain ⟨X, cX, rfl, HC, HX⟩ := hcut
  clear k1 k2 k3 k4 k5 k6 k7 r6 HA HB TC HML HRL TO
  obtain ⟨e0, e1, e2, e3, e4⟩ := KP.out _ HC.out
  have hzl : Z.length = kk + 1 + (trOf n m).length := by rw [← hZ, List.length_append, HK1.out]
  have hze : ∀ j, j ≤ kk → t[j]? = Z[j]? := fun j hj => by
    rw [← hZ, List.getElem?_append_left (by rw [HK1.out]; omega), List.getElem?_take_of_lt (by omega)]
  have hzo : TrOk n Z := fun r hr => by
    rw [← hZ] at hr
    rcases List.mem_append.1 hr with h | h
    · exact trOk_take hto _ r h
    · exact trOf_ok n m r h
  have hzc : Z.length ≤ cX := by
    obtain ⟨A', c', eA, h1, -⟩ := HX.out
    simp only [Value.slice.injEq] at eA
    obtain ⟨rfl, -, rfl⟩ := eA
    rwa [List.length_map] at h1
  have r9 : ((kk : Int) == (kk : Int)) = true := by simp
  by_cases h64 : 64 < Z.length
  case pos =>
    have z1 : (64 : Int) < (Z.length : Int) := by omega
    have z2 : (64 : Int) ≤ (cX : Int) := by omega
    have hY : (Z.take 64).length = 64 := by rw [List.length_take]; omega
    have qz : hitOf n (Z.take 64) (q : Nat) = (kk, true) := by
      rw [hitOf_at PR.out, hY]
      exact hitF_cut KI.out (fun j hj => by rw [List.getElem?_take_of_lt (by omega)]; exact hze j hj) (by omega)
    have HF := Lib.hid (fun (u : World) (hu : Gr wc u) => SHit_any n _ (.slice X 64 cX) (q : Int) (Z.take 64) u hs (Lib.hid (HV4.out u (Gr.trans U5.out (Gr.trans HC.out hu)))) hR (trOk_take hzo _) (by omega) (Lib.hid (by
      have h := rws_take (k := 64) (HX.out.gr hu) (by rw [List.length_map]; omega)
      rwa [← List.map_take] at h)))
    simp only [qz] at HF
    clear qz hY hze hzo hzl hzc h64 HX
    go_wp2_with fail
    refine (HF.out _ (Gr.refl _)).mono ?_
    rintro e wz ⟨rfl, hg⟩
    have GZ := Lib.hid (Gr.trans BW.out (Gr.trans G5.out (Gr.trans HC.out hg)))
    clear hg e0 e1 e2 e3 e4
    go_wp2_with fail
    go_ret
    exact ⟨rfl, GZ.out⟩
  case neg =>
    have z1 : ¬ (64 : Int) < (Z.length : Int) := by omega
    have qz : hitOf n Z (q : Nat) = (kk, true) := by
      rw [hitOf_at PR.out]
      exact hitF_cut KI.out hze (by omega)
    have HF := Lib.hid (fun (u : World) (hu : Gr wc u) => SHit_any n _ (.slice X Z.length cX) (q : Int) Z u hs (Lib.hid (HV4.out u (Gr.trans U5.out (Gr.trans HC.out hu)))) hR hzo (by omega) (Lib.hid (HX.out.gr hu)))
    simp only [qz] at HF
    clear qz hze hzo hzl hzc h64 HX
    go_wp2_with fail
    refine (HF.out _ (Gr.refl _)).mono ?_
    rintro e wz ⟨rfl, hg⟩
    have GZ := Lib.hid (Gr.trans BW.out (Gr.trans G5.out (Gr.trans HC.out hg)))
    clear hg e0 e1 e2 e3 e4
    go_wp2_with fail
    go_ret
    exact ⟨rfl, GZ.out⟩
end Go.Proofs.Ytmnblcnhbafcpaa
