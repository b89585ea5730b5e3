/-
  SimParts, WALKED.
-/
import Derived.Test.YtmnblcnhbafcpaaSTak
import Derived.Test.YtmnblcnhbafcpaaJ44
namespace Go.Proofs.Ytmnblcnhbafcpaa
open Go.RowKit
open NetM
open VecM

set_option maxRecDepth 100000 in
set_option maxHeartbeats 16000000 in
theorem parts_walk (n : Nt) (v : Value) (A : Option Addr) (cA : Nat) (l : List (List Nat)) (p : Nat) (w : World) (hn : Hid (NtAt w n v)) (hl : l.length ≤ maxLen) (hL : Hid (RawP w A l)) (hp8 : p < 256) :
    Calls Try.prog 5 #[v, .slice A l.length cA, .int .u8 p] w fun e w' => e = .returned (.bool true) ∧ Gr w w' := by
  have HV := Lib.hid (fun (u : World) (hu : Gr w u) => hn.out.gr hu)
  obtain ⟨A1, A2, A3, A4, A5, c1, c2, c3, c4, c5, rfl, hc1, h1, h2, h3, h4, h5⟩ := hn.out
  have H1 := Lib.hid h1
  have H2 := Lib.hid h2
  have H3 := Lib.hid h3
  have H4 := Lib.hid h4
  have H5 := Lib.hid h5
  clear h1 h2 h3 h4 h5
  obtain ⟨W0, eW, BW, KEEP⟩ : ∃ W0, w.alloc (.cells (bxC n A1 A2 A3 A4 A5 c1 c2 c3 c4 c5) 27) = W0 ∧ Hid (Gr w W0) ∧ Hid (∀ u, Gr W0 u → BxAt u w.heap.size n A1 A2 A3 A4 A5 c1 c2 c3 c4 c5) :=
    ⟨_, rfl, Lib.hid (bel_alloc _ _), Lib.hid fun u hu => bx_gr (bx_new w n A1 A2 A3 A4 A5 c1 c2 c3 c4 c5) (by simp) hu⟩
  obtain ⟨e0, e1, e2, e3, e4⟩ := KEEP.out W0 (Gr.refl _)
  have H0 := Lib.hid Shead_any
  obtain ⟨gb, hgb⟩ : ∃ gb : Bool, gb = true ↔ NGreat n := by classical exact ⟨decide _, decide_eq_true_iff⟩
  obtain ⟨rb, hrb⟩ : ∃ rb : Bool, rb = true ↔ NRight n := by classical exact ⟨decide _, decide_eq_true_iff⟩
  have GC := Lib.hid (fun (u : World) (hu : Gr w u) => Great_any n _ u (Lib.hid (HV.out u hu)) gb (Lib.hid hgb))
  go_enter Try.func5, Try.ntmps5
  go_wp2_with fail
  try rw [eW]
  clear eW
  refine (H0.out _).mono ?_
  rintro e w1 ⟨rfl, hg⟩
  have G1 := Lib.hid hg
  clear hg e0 e1 e2 e3 e4
  obtain ⟨e0, e1, e2, e3, e4⟩ := KEEP.out _ G1.out
  go_wp2_with fail
  refine (GC.out _ (Gr.trans BW.out G1.out)).mono ?_
  rintro e w2 ⟨rfl, hg⟩
  have G2 := Lib.hid (Gr.trans G1.out hg)
  clear hg e0 e1 e2 e3 e4
  obtain ⟨e0, e1, e2, e3, e4⟩ := KEEP.out _ G2.out
  cases gb with
  | true =>
    go_wp2_with fail
    all_goals
      go_ret
      exact ⟨rfl, Gr.trans BW.out G2.out⟩
  | false =>
  have hz := sz_of (fun h => by have := hgb.2 h; simp at this)
  have hs : Sz n := by unfold Sz; omega
  have RC := Lib.hid (fun (u : World) (hu : Gr w u) => RRight_any n _ u hs (Lib.hid (HV.out u hu)) rb (Lib.hid hrb))
  clear hgb GC
  go_wp2_with fail
  refine (RC.out _ (Gr.trans BW.out G2.out)).mono ?_
  rintro e w3 ⟨rfl, hg⟩
  have G3 := Lib.hid (Gr.trans G2.out hg)
  clear RC
  clear hg e0 e1 e2 e3 e4
  obtain ⟨e0, e1, e2, e3, e4⟩ := KEEP.out _ G3.out
  cases rb with
  | false =>
    go_wp2_with fail
    all_goals
      go_ret
      exact ⟨rfl, Gr.trans BW.out G3.out⟩
  | true =>
  have hR := hrb.1 rfl
  clear hrb
  have hw := wok_of hR.1
  have hI := hR.2.1.2
  have TR := Lib.hid (Trace_any n _ A cA l w3 hs (Lib.hid (HV.out _ (Gr.trans BW.out G3.out))) hw hI hl (Lib.hid (hL.out.gr (Gr.trans BW.out G3.out))))
  go_wp2_with fail
  refine TR.out.mono ?_
  rintro e w4 ⟨vt, rfl, ht4, hg⟩
  have G4 := Lib.hid (Gr.trans G3.out hg)
  obtain ⟨t, htq⟩ : ∃ t, trOf n l = t := ⟨_, rfl⟩
  have hto : TrOk n t := by rw [← htq]; exact trOf_ok n l
  have htl : t.length ≤ 64 := by rw [← htq]; exact trOf_len n l
  rw [htq] at ht4
  have HT := Lib.hid ht4
  obtain ⟨At, ct, rfl, hct, hrt⟩ := ht4
  rw [List.length_map] at hct HT ⊢
  have HTP := Lib.hid hrt
  clear hrt TR htq
  clear hg e0 e1 e2 e3 e4
  obtain ⟨e0, e1, e2, e3, e4⟩ := KEEP.out _ G4.out
  have HV4 := Lib.hid (fun (u : World) (hu : Gr w4 u) => HV.out u (Gr.trans BW.out (Gr.trans G4.out hu)))
  have ST := Lib.hid (fun (u : World) (hu : Gr w4 u) => SStates_any n _ _ t u hs (Lib.hid (HV4.out u hu)) hR hto htl (Lib.hid (HT.out.gr hu)))
  have RU := Lib.hid (fun (u : World) (hu : Gr w4 u) => SRun_any n _ _ t u hs (Lib.hid (HV4.out u hu)) hR hto htl (Lib.hid (HT.out.gr hu)))
  have HH := Lib.hid (fun (pi : Int) (u : World) (hu : Gr w4 u) => SHit_any n _ _ pi t u hs (Lib.hid (HV4.out u hu)) hR hto htl (Lib.hid (HT.out.gr hu)))
  have U4 := Lib.hid (Gr.refl w4)
  obtain ⟨k, hk⟩ : ∃ k, k = p % (t.length + 1) := ⟨_, rfl⟩
  have hkl : k ≤ t.length := by have : k < t.length + 1 := by rw [hk]; exact Nat.mod_lt _ (by omega)
                                omega
  have htm : Int.tmod (p : Int) ((t.length : Int) + 1) = (k : Int) := by rw [Int.tmod_eq_emod_of_nonneg (by omega), show ((t.length : Int) + 1) = ((t.length + 1 : Nat) : Int) from by omega, ← Int.natCast_emod, ← hk]
  have r0 := wrap_int (y := (p : Int)) (by omega) (by omega)
  have r1 := wrap_int (y := (t.length : Int) + 1) (by omega) (by omega)
  have r2 := wrap_int (y := (k : Int)) (by omega) (by omega)
  have r3 : ¬ (t.length : Int) + 1 = 0 := by omega
  have r3' : ((t.length : Int) + 1 == 0) = false := beq_eq_false_iff_ne.2 (by omega)
  clear hk
  go_wp2_with fail
  refine (ST.out _ U4.out).mono ?_
  rintro e w5 ⟨vs, rfl, hs1, hg⟩
  have G5 := Lib.hid (Gr.trans G4.out hg)
  have U5 := Lib.hid (Gr.trans U4.out hg)
  obtain ⟨As, cs, rfl, hcs, hs1⟩ := hs1
  have HS := Lib.hid hs1
  rw [stsL_len] at hcs ⊢
  clear hs1
  clear hg e0 e1 e2 e3 e4
  obtain ⟨e0, e1, e2, e3, e4⟩ := KEEP.out _ G5.out
  go_wp2_with fail
  refine (RU.out _ U5.out).mono ?_
  rintro e w6 ⟨vr, rfl, hr1, hg⟩
  have G6 := Lib.hid (Gr.trans G5.out hg)
  have U6 := Lib.hid (Gr.trans U5.out hg)
  have HS := Lib.hid (HS.out.gr hg)
  obtain ⟨Ar, cr, rfl, hcr, hr1⟩ := hr1
  have HR := Lib.hid hr1
  rw [runL_len] at hcr ⊢
  clear hr1
  clear hg e0 e1 e2 e3 e4
  obtain ⟨e0, e1, e2, e3, e4⟩ := KEEP.out _ G6.out
  have r4 : ((t.length : Int) + 1 != (t.length : Int) + 1) = false := by simp
  have r5 : ((t.length : Int) != (t.length : Int)) = false := by simp
  have r6 := wrap_int (y := (k : Int) + 1) (by omega) (by omega)
  have k0 : (0 : Int) ≤ (k : Int) := by omega
  have k1 : (k : Int) ≤ (ct : Int) := by omega
  have k2 : (0 : Int) ≤ (k : Int) + 1 := by omega
  have k3 : (k : Int) + 1 ≤ (cs : Int) := by omega
  have k4 : (k : Int) ≤ (cr : Int) := by omega
  have k5 : ((k : Int) + 1).toNat = k + 1 := by omega
  have hz := hs
  unfold Sz at hz
  have HTK := Lib.hid (show (t.take k).length = k by rw [List.length_take]; omega)
  have TK := Lib.hid (fun (u : World) (hu : Gr w4 u) => (show RwsR u (.slice At k ct) ((t.take k).map ofN) from by
    have h := rws_take (k := k) (HT.out.gr hu) (by rw [List.length_map]; omega)
    rwa [← List.map_take] at h))
  have RI := Lib.hid (fun (u : World) (hu : Gr w4 u) => Tright_any n _ _ ((t.take k).map ofN) u hs (Lib.hid (HV4.out u hu)) hw hI (by rw [List.length_map, HTK.out]; unfold maxLen; omega) (Lib.hid (fun r hr => by
    obtain ⟨r0, h0, rfl⟩ := List.mem_map.1 hr
    rw [ofN_len, (hto r0 (List.mem_of_mem_take h0)).1]; unfold maxLen; omega)) (Lib.hid (TK.out u hu)) true (Lib.hid ⟨fun _ => tr_ok (by rw [HTK.out]; omega) (trOk_take hto k), fun _ => rfl⟩))
  have SK := Lib.hid (fun (u : World) (hu : Gr w4 u) => SStates_any n _ _ (t.take k) u hs (Lib.hid (HV4.out u hu)) hR (trOk_take hto k) (by rw [HTK.out]; omega) (Lib.hid (TK.out u hu)))
  have RK := Lib.hid (fun (u : World) (hu : Gr w4 u) => SRun_any n _ _ (t.take k) u hs (Lib.hid (HV4.out u hu)) hR (trOk_take hto k) (by rw [HTK.out]; omega) (Lib.hid (TK.out u hu)))
  simp only [HTK.out, stsL_pre hkl, runL_pre hkl] at SK RK
  have KP := Lib.hid (fun (u : World) (hu : Gr w6 u) => KEEP.out u (Gr.trans G6.out hu))
  have SS := Lib.hid (fun (u : World) (hu : Gr w6 u) => (show RwsR u (.slice As (k + 1) cs) ((stsL n t (t.length + 1)).take (k + 1)) from
    rws_take (L := t.length + 1) ⟨As, cs, by rw [stsL_len], by rw [stsL_len]; exact hcs, HS.out.gr hu⟩ (by rw [stsL_len]; omega)))
  have RR := Lib.hid (fun (u : World) (hu : Gr w6 u) => (show BwsR u (.slice Ar k cr) ((runL n t t.length).take k) from
    bws_take (L := t.length) ⟨Ar, cr, by rw [runL_len], by rw [runL_len]; exact hcr, HR.out.gr hu⟩ (by rw [runL_len]; omega)))
  have CL := Lib.hid (show n.cells.length ≤ 1000 by omega)
  have PL := Lib.hid (show n.props.length ≤ 1000 by omega)
  have TL := Lib.hid htl
  have KL := Lib.hid hkl
  clear hz ST RU HH
  go_upto_region 10 with fail
  clear r0 r1 r2 r3 r3' r4 r5 htm e0 e1 e2 e3 e4
  refine wp_region_held_drew (S := (fun u : World => BxAt u w.heap.size n A1 A2 A3 A4 A5 c1 c2 c3 c4 c5)) (by kernel_rfl) (KP.out _ (Gr.drew _)) (fun hHeld => ?_)
  refine wpAnyH_take (i := 0) (oi := { dst := some 49, op := Op.move (Operand.tmp 7), type := 4, pos := "law.go:112", after := #[], guard := none }) (v := ?_) rfl (by kernel_rfl) (by kernel_rfl) (by kernel_rfl) (fun _ _ _ h => h) (Or.inl ⟨by rfl, ?_⟩) hHeld ?_
  case refine_2 => (intro w hSw; (try dsimp only at hSw); go_simp; try (with_reducible rfl))
  try simp only [Act.put, List.setIfInBounds_toArray, List.set_cons_zero, List.set_cons_succ]
  refine wpAnyH_take (i := 1) (oi := { dst := some 50, op := Op.move (Operand.tmp 49), type := 4, pos := "law.go:112", after := #[{ on := 0, ground := Ground.data }], guard := none }) (v := ?_) rfl (by kernel_rfl) (by kernel_rfl) (by kernel_rfl) (fun _ _ _ h => h) (Or.inl ⟨by rfl, ?_⟩) hHeld ?_
  case refine_2 => (intro w hSw; (try dsimp only at hSw); go_simp; try (with_reducible rfl))
  try simp only [Act.put, List.setIfInBounds_toArray, List.set_cons_zero, List.set_cons_succ]
  refine wpAnyH_take (i := 2) (oi := { dst := some 51, op := Op.load 27 (Operand.tmp 3), type := 27, pos := "law.go:112", after := #[{ on := 1, ground := Ground.guard }], guard := some (1, true) }) (v := ?_) rfl (by kernel_rfl) (by kernel_rfl) (by kernel_rfl) (fun _ _ _ h => h) (Or.inl ⟨by rfl, ?_⟩) hHeld ?_
  case refine_2 => (intro w hSw; (try dsimp only at hSw); go_simp; try (with_reducible rfl))
  try simp only [Act.put, List.setIfInBounds_toArray, List.set_cons_zero, List.set_cons_succ]
  refine wpAnyH_take (i := 3) (oi := { dst := some 52, op := Op.move (Operand.tmp 8), type := 28, pos := "law.go:112", after := #[{ on := 1, ground := Ground.guard }], guard := some (1, true) }) (v := ?_) rfl (by kernel_rfl) (by kernel_rfl) (by kernel_rfl) (fun _ _ _ h => h) (Or.inl ⟨by rfl, ?_⟩) hHeld ?_
  case refine_2 => (intro w hSw; (try dsimp only at hSw); go_simp; try (with_reducible rfl))
  try simp only [Act.put, List.setIfInBounds_toArray, List.set_cons_zero, List.set_cons_succ]
  refine wpAnyH_take (i := 4) (oi := { dst := some 53, op := Op.move (Operand.tmp 9), type := 3, pos := "law.go:112", after := #[{ on := 1, ground := Ground.guard }], guard := some (1, true) }) (v := ?_) rfl (by kernel_rfl) (by kernel_rfl) (by kernel_rfl) (fun _ _ _ h => h) (Or.inl ⟨by rfl, ?_⟩) hHeld ?_
  case refine_2 => (intro w hSw; (try dsimp only at hSw); go_simp; try (with_reducible rfl))
  try simp only [Act.put, List.setIfInBounds_toArray, List.set_cons_zero, List.set_cons_succ]
  refine wpAnyH_take (i := 5) (oi := { dst := some 54, op := Op.slice 28 (Operand.tmp 52) none (some (Operand.tmp 53)) none, type := 28, pos := "law.go:112", after := #[{ on := 3, ground := Ground.data }, { on := 4, ground := Ground.data }, { on := 1, ground := Ground.guard }], guard := some (1, true) }) (v := ?_) rfl (by kernel_rfl) (by kernel_rfl) (by kernel_rfl) (fun _ _ _ h => h) (Or.inl ⟨by rfl, ?_⟩) hHeld ?_
  case refine_2 => (intro w hSw; (try dsimp only at hSw); go_simp; try (with_reducible rfl))
  try simp only [Act.put, List.setIfInBounds_toArray, List.set_cons_zero, List.set_cons_succ]
  refine wpAnyH_ready (rs := [6]) (by kernel_rfl) (by simp) ?_
  refine (AllReadyH.cons (o := { dst := some 55, op := Op.call { callee := Callee.value (Operand.func 13), args := #[Operand.tmp 51, Operand.tmp 54], argTypes := #[27, 28] }, type := 4, pos := "law.go:112", after := #[{ on := 2, ground := Ground.data }, { on := 5, ground := Ground.data }, { on := 1, ground := Ground.chain }, { on := 1, ground := Ground.guard }], guard := some (1, true) }) rfl (fun K hK => ?_) AllReadyH.nil)
  go_simp
  refine (RI.out _ (Gr.trans U6.out (Gr.drew _))).mono ?_
  rintro e z1 ⟨rfl, hg⟩
  have Gz1 := Lib.hid (show Gr w6 z1 from Gr.trans (Gr.drew _) hg)
  clear hg
  refine hK.out _ _ (KP.out _ Gz1.out) (fun hHeld => ?_)
  clear hK K
  try simp only [Act.put, List.setIfInBounds_toArray, List.set_cons_zero, List.set_cons_succ]
  refine wpAnyH_take (i := 7) (oi := { dst := some 56, op := Op.pick (Operand.tmp 50) (Operand.tmp 55) (Operand.const (Value.bool false)), type := 4, pos := "law.go:112", after := #[{ on := 1, ground := Ground.data }, { on := 6, ground := Ground.data }], guard := none }) (v := ?_) rfl (by kernel_rfl) (by kernel_rfl) (by kernel_rfl) (fun _ _ _ h => h) (Or.inl ⟨by rfl, ?_⟩) hHeld ?_
  case refine_2 => (intro w hSw; (try dsimp only at hSw); go_simp; try (with_reducible rfl))
  try simp only [Act.put, List.setIfInBounds_toArray, List.set_cons_zero, List.set_cons_succ]
  refine wpAnyH_take (i := 8) (oi := { dst := some 57, op := Op.move (Operand.tmp 56), type := 4, pos := "law.go:112", after := #[{ on := 7, ground := Ground.data }, { on := 6, ground := Ground.chain }], guard := none }) (v := ?_) rfl (by kernel_rfl) (by kernel_rfl) (by kernel_rfl) (fun _ _ _ h => h) (Or.inl ⟨by rfl, ?_⟩) hHeld ?_
  case refine_2 => (intro w hSw; (try dsimp only at hSw); go_simp; try (with_reducible rfl))
  try simp only [Act.put, List.setIfInBounds_toArray, List.set_cons_zero, List.set_cons_succ]
  refine wpAnyH_take (i := 9) (oi := { dst := some 58, op := Op.load 27 (Operand.tmp 3), type := 27, pos := "law.go:112", after := #[{ on := 8, ground := Ground.guard }], guard := some (8, true) }) (v := ?_) rfl (by kernel_rfl) (by kernel_rfl) (by kernel_rfl) (fun _ _ _ h => h) (Or.inl ⟨by rfl, ?_⟩) hHeld ?_
  case refine_2 => (intro w hSw; (try dsimp only at hSw); go_simp; try (with_reducible rfl))
  try simp only [Act.put, List.setIfInBounds_toArray, List.set_cons_zero, List.set_cons_succ]
  refine wpAnyH_take (i := 10) (oi := { dst := some 59, op := Op.move (Operand.tmp 8), type := 28, pos := "law.go:112", after := #[{ on := 8, ground := Ground.guard }], guard := some (8, true) }) (v := ?_) rfl (by kernel_rfl) (by kernel_rfl) (by kernel_rfl) (fun _ _ _ h => h) (Or.inl ⟨by rfl, ?_⟩) hHeld ?_
  case refine_2 => (intro w hSw; (try dsimp only at hSw); go_simp; try (with_reducible rfl))
  try simp only [Act.put, List.setIfInBounds_toArray, List.set_cons_zero, List.set_cons_succ]
  refine wpAnyH_take (i := 11) (oi := { dst := some 60, op := Op.move (Operand.tmp 9), type := 3, pos := "law.go:112", after := #[{ on := 8, ground := Ground.guard }], guard := some (8, true) }) (v := ?_) rfl (by kernel_rfl) (by kernel_rfl) (by kernel_rfl) (fun _ _ _ h => h) (Or.inl ⟨by rfl, ?_⟩) hHeld ?_
  case refine_2 => (intro w hSw; (try dsimp only at hSw); go_simp; try (with_reducible rfl))
  try simp only [Act.put, List.setIfInBounds_toArray, List.set_cons_zero, List.set_cons_succ]
  refine wpAnyH_take (i := 12) (oi := { dst := some 61, op := Op.slice 28 (Operand.tmp 59) none (some (Operand.tmp 60)) none, type := 28, pos := "law.go:112", after := #[{ on := 10, ground := Ground.data }, { on := 11, ground := Ground.data }, { on := 8, ground := Ground.guard }], guard := some (8, true) }) (v := ?_) rfl (by kernel_rfl) (by kernel_rfl) (by kernel_rfl) (fun _ _ _ h => h) (Or.inl ⟨by rfl, ?_⟩) hHeld ?_
  case refine_2 => (intro w hSw; (try dsimp only at hSw); go_simp; try (with_reducible rfl))
  try simp only [Act.put, List.setIfInBounds_toArray, List.set_cons_zero, List.set_cons_succ]
  refine wpAnyH_take (i := 14) (oi := { dst := some 63, op := Op.move (Operand.tmp 10), type := 28, pos := "law.go:112", after := #[{ on := 8, ground := Ground.guard }], guard := some (8, true) }) (v := ?_) rfl (by kernel_rfl) (by kernel_rfl) (by kernel_rfl) (fun _ _ _ h => h) (Or.inl ⟨by rfl, ?_⟩) hHeld ?_
  case refine_2 => (intro w hSw; (try dsimp only at hSw); go_simp; try (with_reducible rfl))
  try simp only [Act.put, List.setIfInBounds_toArray, List.set_cons_zero, List.set_cons_succ]
  refine wpAnyH_take (i := 15) (oi := { dst := some 64, op := Op.move (Operand.tmp 9), type := 3, pos := "law.go:112", after := #[{ on := 8, ground := Ground.guard }], guard := some (8, true) }) (v := ?_) rfl (by kernel_rfl) (by kernel_rfl) (by kernel_rfl) (fun _ _ _ h => h) (Or.inl ⟨by rfl, ?_⟩) hHeld ?_
  case refine_2 => (intro w hSw; (try dsimp only at hSw); go_simp; try (with_reducible rfl))
  try simp only [Act.put, List.setIfInBounds_toArray, List.set_cons_zero, List.set_cons_succ]
  refine wpAnyH_take (i := 16) (oi := { dst := some 65, op := Op.binOp BinOp.add 3 (Operand.tmp 64) (Operand.const (Value.int IntKind.i64 1)) 3, type := 3, pos := "law.go:112", after := #[{ on := 15, ground := Ground.data }, { on := 8, ground := Ground.guard }], guard := some (8, true) }) (v := ?_) rfl (by kernel_rfl) (by kernel_rfl) (by kernel_rfl) (fun _ _ _ h => h) (Or.inl ⟨by rfl, ?_⟩) hHeld ?_
  case refine_2 => (intro w hSw; (try dsimp only at hSw); go_simp; try (with_reducible rfl))
  try simp only [Act.put, List.setIfInBounds_toArray, List.set_cons_zero, List.set_cons_succ]
  refine wpAnyH_take (i := 17) (oi := { dst := some 66, op := Op.slice 28 (Operand.tmp 63) none (some (Operand.tmp 65)) none, type := 28, pos := "law.go:112", after := #[{ on := 14, ground := Ground.data }, { on := 16, ground := Ground.data }, { on := 8, ground := Ground.guard }], guard := some (8, true) }) (v := ?_) rfl (by kernel_rfl) (by kernel_rfl) (by kernel_rfl) (fun _ _ _ h => h) (Or.inl ⟨by rfl, ?_⟩) hHeld ?_
  case refine_2 => (intro w hSw; (try dsimp only at hSw); go_simp; try (with_reducible rfl))
  try simp only [Act.put, List.setIfInBounds_toArray, List.set_cons_zero, List.set_cons_succ]
  refine wpAnyH_ready (rs := [13]) (by kernel_rfl) (by simp) ?_
  refine (AllReadyH.cons (o := { dst := some 62, op := Op.call { callee := Callee.value (Operand.func 19), args := #[Operand.tmp 58, Operand.tmp 61], argTypes := #[27, 28] }, type := 28, pos := "law.go:112", after := #[{ on := 9, ground := Ground.data }, { on := 12, ground := Ground.data }, { on := 8, ground := Ground.chain }, { on := 8, ground := Ground.guard }], guard := some (8, true) }) rfl (fun K hK => ?_) AllReadyH.nil)
  go_simp
  refine (SK.out _ (Gr.trans U6.out Gz1.out)).mono ?_
  rintro e z2 ⟨vb, rfl, hz1, hg⟩
  have Z19 := Lib.hid hz1
  clear hz1
  have Gz2 := Lib.hid (show Gr w6 z2 from Gr.trans Gz1.out hg)
  clear hg
  refine hK.out _ _ (KP.out _ Gz2.out) (fun hHeld => ?_)
  clear hK K
  try simp only [Act.put, List.setIfInBounds_toArray, List.set_cons_zero, List.set_cons_succ]
  refine wpAnyH_ready (rs := [18]) (by kernel_rfl) (by simp) ?_
  refine (AllReadyH.cons (o := { dst := some 67, op := Op.call { callee := Callee.value (Operand.func 18), args := #[Operand.tmp 62, Operand.tmp 66], argTypes := #[28, 28] }, type := 4, pos := "law.go:112", after := #[{ on := 13, ground := Ground.data }, { on := 17, ground := Ground.data }, { on := 13, ground := Ground.chain }, { on := 8, ground := Ground.guard }], guard := some (8, true) }) rfl (fun K hK => ?_) AllReadyH.nil)
  go_simp
  refine (SameRows_yes _ _ _ _ (by rw [List.length_take]; have := stsL_len n t (t.length + 1); have := TL.out; omega) (fun q hq => by obtain ⟨j, hj⟩ := List.mem_iff_getElem?.1 (List.mem_of_mem_take hq); unfold stsL at hj; rw [List.getElem?_map] at hj; obtain ⟨a, -, rfl⟩ := Option.map_eq_some_iff.1 hj; rw [ofN_len, stAt_len]; exact CL.out) Z19 (Lib.hid (SS.out _ Gz2.out))).mono ?_
  rintro e z3 ⟨rfl, hg⟩
  have Gz3 := Lib.hid (show Gr w6 z3 from Gr.trans Gz2.out hg)
  clear hg
  refine hK.out _ _ (KP.out _ Gz3.out) (fun hHeld => ?_)
  clear hK K
  try simp only [Act.put, List.setIfInBounds_toArray, List.set_cons_zero, List.set_cons_succ]
  refine wpAnyH_take (i := 19) (oi := { dst := some 68, op := Op.pick (Operand.tmp 57) (Operand.tmp 67) (Operand.const (Value.bool false)), type := 4, pos := "law.go:112", after := #[{ on := 8, ground := Ground.data }, { on := 18, ground := Ground.data }], guard := none }) (v := ?_) rfl (by kernel_rfl) (by kernel_rfl) (by kernel_rfl) (fun _ _ _ h => h) (Or.inl ⟨by rfl, ?_⟩) hHeld ?_
  case refine_2 => (intro w hSw; (try dsimp only at hSw); go_simp; try (with_reducible rfl))
  try simp only [Act.put, List.setIfInBounds_toArray, List.set_cons_zero, List.set_cons_succ]
  refine wpAnyH_take (i := 20) (oi := { dst := some 69, op := Op.move (Operand.tmp 68), type := 4, pos := "law.go:112", after := #[{ on := 19, ground := Ground.data }, { on := 18, ground := Ground.chain }], guard := none }) (v := ?_) rfl (by kernel_rfl) (by kernel_rfl) (by kernel_rfl) (fun _ _ _ h => h) (Or.inl ⟨by rfl, ?_⟩) hHeld ?_
  case refine_2 => (intro w hSw; (try dsimp only at hSw); go_simp; try (with_reducible rfl))
  try simp only [Act.put, List.setIfInBounds_toArray, List.set_cons_zero, List.set_cons_succ]
  refine wpAnyH_take (i := 21) (oi := { dst := some 70, op := Op.load 27 (Operand.tmp 3), type := 27, pos := "law.go:112", after := #[{ on := 20, ground := Ground.guard }], guard := some (20, true) }) (v := ?_) rfl (by kernel_rfl) (by kernel_rfl) (by kernel_rfl) (fun _ _ _ h => h) (Or.inl ⟨by rfl, ?_⟩) hHeld ?_
  case refine_2 => (intro w hSw; (try dsimp only at hSw); go_simp; try (with_reducible rfl))
  try simp only [Act.put, List.setIfInBounds_toArray, List.set_cons_zero, List.set_cons_succ]
  refine wpAnyH_take (i := 22) (oi := { dst := some 71, op := Op.move (Operand.tmp 8), type := 28, pos := "law.go:112", after := #[{ on := 20, ground := Ground.guard }], guard := some (20, true) }) (v := ?_) rfl (by kernel_rfl) (by kernel_rfl) (by kernel_rfl) (fun _ _ _ h => h) (Or.inl ⟨by rfl, ?_⟩) hHeld ?_
  case refine_2 => (intro w hSw; (try dsimp only at hSw); go_simp; try (with_reducible rfl))
  try simp only [Act.put, List.setIfInBounds_toArray, List.set_cons_zero, List.set_cons_succ]
  refine wpAnyH_take (i := 23) (oi := { dst := some 72, op := Op.move (Operand.tmp 9), type := 3, pos := "law.go:112", after := #[{ on := 20, ground := Ground.guard }], guard := some (20, true) }) (v := ?_) rfl (by kernel_rfl) (by kernel_rfl) (by kernel_rfl) (fun _ _ _ h => h) (Or.inl ⟨by rfl, ?_⟩) hHeld ?_
  case refine_2 => (intro w hSw; (try dsimp only at hSw); go_simp; try (with_reducible rfl))
  try simp only [Act.put, List.setIfInBounds_toArray, List.set_cons_zero, List.set_cons_succ]
  refine wpAnyH_take (i := 24) (oi := { dst := some 73, op := Op.slice 28 (Operand.tmp 71) none (some (Operand.tmp 72)) none, type := 28, pos := "law.go:112", after := #[{ on := 22, ground := Ground.data }, { on := 23, ground := Ground.data }, { on := 20, ground := Ground.guard }], guard := some (20, true) }) (v := ?_) rfl (by kernel_rfl) (by kernel_rfl) (by kernel_rfl) (fun _ _ _ h => h) (Or.inl ⟨by rfl, ?_⟩) hHeld ?_
  case refine_2 => (intro w hSw; (try dsimp only at hSw); go_simp; try (with_reducible rfl))
  try simp only [Act.put, List.setIfInBounds_toArray, List.set_cons_zero, List.set_cons_succ]
  refine wpAnyH_take (i := 26) (oi := { dst := some 75, op := Op.move (Operand.tmp 11), type := 39, pos := "law.go:112", after := #[{ on := 20, ground := Ground.guard }], guard := some (20, true) }) (v := ?_) rfl (by kernel_rfl) (by kernel_rfl) (by kernel_rfl) (fun _ _ _ h => h) (Or.inl ⟨by rfl, ?_⟩) hHeld ?_
  case refine_2 => (intro w hSw; (try dsimp only at hSw); go_simp; try (with_reducible rfl))
  try simp only [Act.put, List.setIfInBounds_toArray, List.set_cons_zero, List.set_cons_succ]
  refine wpAnyH_take (i := 27) (oi := { dst := some 76, op := Op.move (Operand.tmp 9), type := 3, pos := "law.go:112", after := #[{ on := 20, ground := Ground.guard }], guard := some (20, true) }) (v := ?_) rfl (by kernel_rfl) (by kernel_rfl) (by kernel_rfl) (fun _ _ _ h => h) (Or.inl ⟨by rfl, ?_⟩) hHeld ?_
  case refine_2 => (intro w hSw; (try dsimp only at hSw); go_simp; try (with_reducible rfl))
  try simp only [Act.put, List.setIfInBounds_toArray, List.set_cons_zero, List.set_cons_succ]
  refine wpAnyH_take (i := 28) (oi := { dst := some 77, op := Op.slice 39 (Operand.tmp 75) none (some (Operand.tmp 76)) none, type := 39, pos := "law.go:112", after := #[{ on := 26, ground := Ground.data }, { on := 27, ground := Ground.data }, { on := 20, ground := Ground.guard }], guard := some (20, true) }) (v := ?_) rfl (by kernel_rfl) (by kernel_rfl) (by kernel_rfl) (fun _ _ _ h => h) (Or.inl ⟨by rfl, ?_⟩) hHeld ?_
  case refine_2 => (intro w hSw; (try dsimp only at hSw); go_simp; try (with_reducible rfl))
  try simp only [Act.put, List.setIfInBounds_toArray, List.set_cons_zero, List.set_cons_succ]
  refine wpAnyH_ready (rs := [25]) (by kernel_rfl) (by simp) ?_
  refine (AllReadyH.cons (o := { dst := some 74, op := Op.call { callee := Callee.value (Operand.func 22), args := #[Operand.tmp 70, Operand.tmp 73], argTypes := #[27, 28] }, type := 39, pos := "law.go:112", after := #[{ on := 21, ground := Ground.data }, { on := 24, ground := Ground.data }, { on := 20, ground := Ground.chain }, { on := 20, ground := Ground.guard }], guard := some (20, true) }) rfl (fun K hK => ?_) AllReadyH.nil)
  go_simp
  refine (RK.out _ (Gr.trans U6.out Gz3.out)).mono ?_
  rintro e z4 ⟨vb, rfl, hz1, hg⟩
  have Z22 := Lib.hid hz1
  clear hz1
  have Gz4 := Lib.hid (show Gr w6 z4 from Gr.trans Gz3.out hg)
  clear hg
  refine hK.out _ _ (KP.out _ Gz4.out) (fun hHeld => ?_)
  clear hK K
  try simp only [Act.put, List.setIfInBounds_toArray, List.set_cons_zero, List.set_cons_succ]
  refine wpAnyH_ready (rs := [29]) (by kernel_rfl) (by simp) ?_
  refine (AllReadyH.cons (o := { dst := some 78, op := Op.call { callee := Callee.value (Operand.func 21), args := #[Operand.tmp 74, Operand.tmp 77], argTypes := #[39, 39] }, type := 4, pos := "law.go:112", after := #[{ on := 25, ground := Ground.data }, { on := 28, ground := Ground.data }, { on := 25, ground := Ground.chain }, { on := 20, ground := Ground.guard }], guard := some (20, true) }) rfl (fun K hK => ?_) AllReadyH.nil)
  go_simp
  refine (SameBits_yes _ _ _ _ (by rw [List.length_take]; have := runL_len n t t.length; have := TL.out; omega) (fun q hq => by obtain ⟨j, hj⟩ := List.mem_iff_getElem?.1 (List.mem_of_mem_take hq); have hjl := (List.getElem?_eq_some_iff.1 hj).1; rw [runL_len] at hjl; rw [runL_at hjl] at hj; obtain rfl := Option.some.inj hj; rw [show (bitsAt n t j).length = n.props.length from prB_len _ _]; exact PL.out) Z22 (Lib.hid (RR.out _ Gz4.out))).mono ?_
  rintro e z5 ⟨rfl, hg⟩
  have Gz5 := Lib.hid (show Gr w6 z5 from Gr.trans Gz4.out hg)
  clear hg
  refine hK.out _ _ (KP.out _ Gz5.out) (fun hHeld => ?_)
  clear hK K
  try simp only [Act.put, List.setIfInBounds_toArray, List.set_cons_zero, List.set_cons_succ]
  refine wpAnyH_take (i := 30) (oi := { dst := some 79, op := Op.pick (Operand.tmp 69) (Operand.tmp 78) (Operand.const (Value.bool false)), type := 4, pos := "law.go:112", after := #[{ on := 20, ground := Ground.data }, { on := 29, ground := Ground.data }], guard := none }) (v := ?_) rfl (by kernel_rfl) (by kernel_rfl) (by kernel_rfl) (fun _ _ _ h => h) (Or.inl ⟨by rfl, ?_⟩) hHeld ?_
  case refine_2 => (intro w hSw; (try dsimp only at hSw); go_simp; try (with_reducible rfl))
  try simp only [Act.put, List.setIfInBounds_toArray, List.set_cons_zero, List.set_cons_succ]
  refine wpAnyH_take (i := 31) (oi := { dst := some 6, op := Op.assign (Operand.tmp 79), type := 4, pos := "law.go:112", after := #[{ on := 30, ground := Ground.data }, { on := 29, ground := Ground.chain }, { on := 0, ground := Ground.phase }, { on := 1, ground := Ground.phase }, { on := 2, ground := Ground.phase }, { on := 3, ground := Ground.phase }, { on := 4, ground := Ground.phase }, { on := 5, ground := Ground.phase }, { on := 6, ground := Ground.phase }, { on := 7, ground := Ground.phase }, { on := 8, ground := Ground.phase }, { on := 9, ground := Ground.phase }, { on := 10, ground := Ground.phase }, { on := 11, ground := Ground.phase }, { on := 12, ground := Ground.phase }, { on := 13, ground := Ground.phase }, { on := 14, ground := Ground.phase }, { on := 15, ground := Ground.phase }, { on := 16, ground := Ground.phase }, { on := 17, ground := Ground.phase }, { on := 18, ground := Ground.phase }, { on := 19, ground := Ground.phase }, { on := 20, ground := Ground.phase }, { on := 21, ground := Ground.phase }, { on := 22, ground := Ground.phase }, { on := 23, ground := Ground.phase }, { on := 24, ground := Ground.phase }, { on := 25, ground := Ground.phase }, { on := 26, ground := Ground.phase }, { on := 27, ground := Ground.phase }, { on := 28, ground := Ground.phase }, { on := 29, ground := Ground.phase }, { on := 30, ground := Ground.phase }], guard := none }) (v := ?_) rfl (by kernel_rfl) (by kernel_rfl) (by kernel_rfl) (fun _ _ _ h => h) (Or.inl ⟨by rfl, ?_⟩) hHeld ?_
  case refine_2 => (intro w hSw; (try dsimp only at hSw); go_simp; try (with_reducible rfl))
  try simp only [Act.put, List.setIfInBounds_toArray, List.set_cons_zero, List.set_cons_succ]
  refine wpAnyH_done (by kernel_rfl) ?_ _
  go_wp2_with fail
  go_ret
  exact ⟨rfl, Gr.trans BW.out (Gr.trans G6.out Gz5.out)⟩
end Go.Proofs.Ytmnblcnhbafcpaa
