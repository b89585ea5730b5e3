/-
  SimTells, WALKED.
-/
import Derived.Test.YtmnblcnhbafcpaaSTak
import Derived.Test.YtmnblcnhbafcpaaJ44
import Derived.Test.YtmnblcnhbafcpaaJ43
import Derived.Test.YtmnblcnhbafcpaaJ45
import Derived.Deep.CutRange
namespace Go.Proofs.Ytmnblcnhbafcpaa
open Go.RowKit
open NetM
open VecM

set_option maxRecDepth 100000 in
set_option maxHeartbeats 16000000 in
theorem tells_walk (n : Nt) (v : Value) (B : Option Addr) (lB cB : Nat) (rows : List (List Int)) (A : Option Addr) (cA : Nat) (l : List (List Nat)) (p : Int) (w : World) (hn : Hid (NtAt w n v)) (hrl : rows.length ≤ maxLen) (hlen : Hid (∀ r ∈ rows, r.length ≤ maxLen)) (hB : Hid (RwsR w (.slice B lB cB) rows)) (hl : l.length ≤ maxLen) (hL : Hid (RawP w A l)) :
    Calls Try.prog 3 #[v, .slice B lB cB, .slice A l.length cA, .int .i64 p] w fun e w' => e = .returned (.bool true) ∧ Gr w w' := by
  obtain ⟨hlB, hBc⟩ : lB = rows.length ∧ rows.length ≤ cB := by
    obtain ⟨A', c', e, h, -⟩ := hB.out
    simp only [Value.slice.injEq] at e
    obtain ⟨rfl, rfl, rfl⟩ := e
    exact ⟨rfl, h⟩
  subst hlB
  have HV := Lib.hid (fun (u : World) (hu : Gr w u) => hn.out.gr hu)
  obtain ⟨A1, A2, A3, A4, A5, c1, c2, c3, c4, c5, rfl, hc1, h1, h2, h3, h4, h5⟩ := hn.out
  have H1 := Lib.hid h1
  have H2 := Lib.hid h2
  have H3 := Lib.hid h3
  have H4 := Lib.hid h4
  have H5 := Lib.hid h5
  clear h1 h2 h3 h4 h5
  obtain ⟨W0, eW, BW, KEEP⟩ : ∃ W0, w.alloc (.cells (bxC n A1 A2 A3 A4 A5 c1 c2 c3 c4 c5) 27) = W0 ∧ Hid (Gr w W0) ∧ Hid (∀ u, Gr W0 u → BxAt u w.heap.size n A1 A2 A3 A4 A5 c1 c2 c3 c4 c5) :=
    ⟨_, rfl, Lib.hid (bel_alloc _ _), Lib.hid fun u hu => bx_gr (bx_new w n A1 A2 A3 A4 A5 c1 c2 c3 c4 c5) (by simp) hu⟩
  obtain ⟨e0, e1, e2, e3, e4⟩ := KEEP.out W0 (Gr.refl _)
  have H0 := Lib.hid Shead_any
  obtain ⟨gb, hgb⟩ : ∃ gb : Bool, gb = true ↔ NGreat n := by classical exact ⟨decide _, decide_eq_true_iff⟩
  obtain ⟨rb, hrb⟩ : ∃ rb : Bool, rb = true ↔ NRight n := by classical exact ⟨decide _, decide_eq_true_iff⟩
  have GC := Lib.hid (fun (u : World) (hu : Gr w u) => Great_any n _ u (Lib.hid (HV.out u hu)) gb (Lib.hid hgb))
  go_enter Try.func3, Try.ntmps3
  go_wp2_with fail
  try rw [eW]
  clear eW
  refine (H0.out _).mono ?_
  rintro e w1 ⟨rfl, hg⟩
  have G1 := Lib.hid hg
  clear hg e0 e1 e2 e3 e4
  obtain ⟨e0, e1, e2, e3, e4⟩ := KEEP.out _ G1.out
  go_wp2_with fail
  refine (GC.out _ (Gr.trans BW.out G1.out)).mono ?_
  rintro e w2 ⟨rfl, hg⟩
  have G2 := Lib.hid (Gr.trans G1.out hg)
  clear hg e0 e1 e2 e3 e4
  obtain ⟨e0, e1, e2, e3, e4⟩ := KEEP.out _ G2.out
  cases gb with
  | true =>
    go_wp2_with fail
    all_goals
      go_ret
      exact ⟨rfl, Gr.trans BW.out G2.out⟩
  | false =>
  have hz := sz_of (fun h => by have := hgb.2 h; simp at this)
  have hs : Sz n := by unfold Sz; omega
  have RC := Lib.hid (fun (u : World) (hu : Gr w u) => RRight_any n _ u hs (Lib.hid (HV.out u hu)) rb (Lib.hid hrb))
  clear hgb GC
  go_wp2_with fail
  refine (RC.out _ (Gr.trans BW.out G2.out)).mono ?_
  rintro e w3 ⟨rfl, hg⟩
  have G3 := Lib.hid (Gr.trans G2.out hg)
  clear RC
  clear hg e0 e1 e2 e3 e4
  obtain ⟨e0, e1, e2, e3, e4⟩ := KEEP.out _ G3.out
  cases rb with
  | false =>
    go_wp2_with fail
    all_goals
      go_ret
      exact ⟨rfl, Gr.trans BW.out G3.out⟩
  | true =>
  have hR := hrb.1 rfl
  clear hrb
  have hw := wok_of hR.1
  have hI := hR.2.1.2
  by_cases h100 : 100 < rows.length
  case pos =>
    have h1 : (100 : Int) < (rows.length : Int) := by omega
    go_wp2_with fail
    go_ret
    exact ⟨rfl, Gr.trans BW.out G3.out⟩
  case neg =>
  have h1 : ¬ (100 : Int) < (rows.length : Int) := by omega
  obtain ⟨R, hRR⟩ : ∃ R : Bool, R = true ↔ TrRight n rows := by classical exact ⟨decide _, decide_eq_true_iff⟩
  have HRQ := Lib.hid hRR
  have HV3 := Lib.hid (fun (u : World) (hu : Gr w3 u) => HV.out u (Gr.trans BW.out (Gr.trans G3.out hu)))
  have HB3 := Lib.hid (fun (u : World) (hu : Gr w3 u) => hB.out.gr (Gr.trans BW.out (Gr.trans G3.out hu)))
  have SR := Lib.hid (fun (u : World) (hu : Gr w3 u) => Tright_any n _ (.slice B rows.length cB) rows u hs (Lib.hid (HV3.out u hu)) hw hI hrl hlen (Lib.hid (HB3.out u hu)) R HRQ)
  have RR := Lib.hid (fun (u : World) (hu : Gr w3 u) => RTright_any n _ (.slice B rows.length cB) rows u hs (Lib.hid (HV3.out u hu)) hw hI hrl (Lib.hid (HB3.out u hu)))
  have KP := Lib.hid (fun (u : World) (hu : Gr w3 u) => KEEP.out u (Gr.trans G3.out hu))
  have r1 : (R != R) = false := by simp
  have HZ := Lib.hid hs
  have CL := Lib.hid (show n.cells.length ≤ 1000 by unfold Sz at hs; omega)
  have PL := Lib.hid (show n.props.length ≤ 1000 by unfold Sz at hs; omega)
  clear hRR
  go_upto_region 4 with fail
  clear e0 e1 e2 e3 e4
  go_cut [35] from 29 to 85 (fun b wx => b = .bool false ∧ Hid (Gr w3 wx))
  case first =>
    refine wp_region_held_drew (S := (fun u : World => BxAt u w.heap.size n A1 A2 A3 A4 A5 c1 c2 c3 c4 c5)) (by kernel_rfl) (KP.out _ (Gr.drew _)) (fun hHeld => ?_)
    refine wpAnyH_take (i := 0) (oi := { dst := some 29, op := Op.load 27 (Operand.tmp 4), type := 27, pos := "law.go:52", after := #[], guard := none }) (v := ?_) rfl (by kernel_rfl) (by kernel_rfl) (by kernel_rfl) (fun _ _ _ h => h) (Or.inl ⟨by rfl, ?_⟩) hHeld ?_
    case refine_2 => (intro w hSw; (try dsimp only at hSw); go_simp; try (with_reducible rfl))
    try simp only [Act.put, List.setIfInBounds_toArray, List.set_cons_zero, List.set_cons_succ]
    refine wpAnyH_take (i := 1) (oi := { dst := some 30, op := Op.move (Operand.tmp 1), type := 28, pos := "law.go:52", after := #[], guard := none }) (v := ?_) rfl (by kernel_rfl) (by kernel_rfl) (by kernel_rfl) (fun _ _ _ h => h) (Or.inl ⟨by rfl, ?_⟩) hHeld ?_
    case refine_2 => (intro w hSw; (try dsimp only at hSw); go_simp; try (with_reducible rfl))
    try simp only [Act.put, List.setIfInBounds_toArray, List.set_cons_zero, List.set_cons_succ]
    refine wpAnyH_take (i := 3) (oi := { dst := some 32, op := Op.load 27 (Operand.tmp 4), type := 27, pos := "law.go:52", after := #[], guard := none }) (v := ?_) rfl (by kernel_rfl) (by kernel_rfl) (by kernel_rfl) (fun _ _ _ h => h) (Or.inl ⟨by rfl, ?_⟩) hHeld ?_
    case refine_2 => (intro w hSw; (try dsimp only at hSw); go_simp; try (with_reducible rfl))
    try simp only [Act.put, List.setIfInBounds_toArray, List.set_cons_zero, List.set_cons_succ]
    refine wpAnyH_take (i := 4) (oi := { dst := some 33, op := Op.move (Operand.tmp 1), type := 28, pos := "law.go:52", after := #[], guard := none }) (v := ?_) rfl (by kernel_rfl) (by kernel_rfl) (by kernel_rfl) (fun _ _ _ h => h) (Or.inl ⟨by rfl, ?_⟩) hHeld ?_
    case refine_2 => (intro w hSw; (try dsimp only at hSw); go_simp; try (with_reducible rfl))
    try simp only [Act.put, List.setIfInBounds_toArray, List.set_cons_zero, List.set_cons_succ]
    refine wpAnyH_ready (rs := [2]) (by kernel_rfl) (by simp) ?_
    refine (AllReadyH.cons (o := { dst := some 31, op := Op.call { callee := Callee.value (Operand.func 13), args := #[Operand.tmp 29, Operand.tmp 30], argTypes := #[27, 28] }, type := 4, pos := "law.go:52", after := #[{ on := 0, ground := Ground.data }, { on := 1, ground := Ground.data }], guard := none }) rfl (fun K hK => ?_) AllReadyH.nil)
    go_simp
    refine (SR.out _ (Gr.drew _)).mono ?_
    rintro e z1 ⟨rfl, hg⟩
    have Gz1 := Lib.hid (show Gr w3 z1 from Gr.trans (Gr.drew _) hg)
    clear hg
    refine hK.out _ _ (KP.out _ Gz1.out) (fun hHeld => ?_)
    clear hK K
    try simp only [Act.put, List.setIfInBounds_toArray, List.set_cons_zero, List.set_cons_succ]
    refine wpAnyH_ready (rs := [5]) (by kernel_rfl) (by simp) ?_
    refine (AllReadyH.cons (o := { dst := some 34, op := Op.call { callee := Callee.value (Operand.func 14), args := #[Operand.tmp 32, Operand.tmp 33], argTypes := #[27, 28] }, type := 4, pos := "law.go:52", after := #[{ on := 3, ground := Ground.data }, { on := 4, ground := Ground.data }, { on := 2, ground := Ground.chain }], guard := none }) rfl (fun K hK => ?_) AllReadyH.nil)
    go_simp
    refine (RR.out _ Gz1.out).mono ?_
    rintro e z2 ⟨R2, rfl, hR2, hg⟩
    obtain rfl : R = R2 := (by have h1 := HRQ.out; revert h1 hR2; cases R <;> cases R2 <;> (intro h1 hR2; first | rfl | (exact absurd (h1.2 (hR2.1 rfl)) (by simp)) | (exact absurd (hR2.2 (h1.1 rfl)) (by simp))))
    have Gz2 := Lib.hid (show Gr w3 z2 from Gr.trans Gz1.out hg)
    clear hg
    refine hK.out _ _ (KP.out _ Gz2.out) (fun hHeld => ?_)
    clear hK K
    try simp only [Act.put, List.setIfInBounds_toArray, List.set_cons_zero, List.set_cons_succ]
    refine wpAnyH_take (i := 6) (oi := { dst := some 35, op := Op.binOp BinOp.neq 4 (Operand.tmp 31) (Operand.tmp 34) 4, type := 4, pos := "law.go:52", after := #[{ on := 2, ground := Ground.data }, { on := 5, ground := Ground.data }], guard := none }) (v := ?_) rfl (by kernel_rfl) (by kernel_rfl) (by kernel_rfl) (fun _ _ _ h => h) (Or.inl ⟨by rfl, ?_⟩) hHeld ?_
    case refine_2 => (intro w hSw; (try dsimp only at hSw); go_simp; try (with_reducible rfl))
    try simp only [Act.put, List.setIfInBounds_toArray, List.set_cons_zero, List.set_cons_succ]
    refine wpAnyH_done (by kernel_rfl) ?_ _
    go_wp2_with fail
    go_meet
    exact ⟨rfl, Gz2⟩
  case rest =>
  obtain ⟨rfl, HC⟩ := hcut
  have G4 := Lib.hid (Gr.trans G3.out HC.out)
  have V4 := HC
  obtain ⟨W4, rfl⟩ : ∃ x, x = wc := ⟨_, rfl⟩
  obtain ⟨e0, e1, e2, e3, e4⟩ := KEEP.out _ G4.out
  have TR := Lib.hid (Trace_any n _ A cA l W4 hs (Lib.hid (HV.out _ (Gr.trans BW.out G4.out))) hw hI hl (Lib.hid (hL.out.gr (Gr.trans BW.out G4.out))))
  clear SR r1
  go_wp2_with fail
  refine TR.out.mono ?_
  rintro e w5 ⟨vt, rfl, ht5, hg⟩
  have G5 := Lib.hid (Gr.trans G4.out hg)
  have V5 := Lib.hid (Gr.trans V4.out hg)
  have HT := Lib.hid ht5
  obtain ⟨At, ct, rfl, hct, -⟩ := ht5
  clear TR
  clear hg e0 e1 e2 e3 e4
  obtain ⟨e0, e1, e2, e3, e4⟩ := KEEP.out _ G5.out
  go_wp2_with fail
  refine (RR.out _ V5.out).mono ?_
  rintro e w6 ⟨R2, rfl, hR2, hg⟩
  obtain rfl : R = R2 := by
    have h1 := HRQ.out
    cases R <;> cases R2 <;> simp_all
  have G6 := Lib.hid (Gr.trans G5.out hg)
  have V6 := Lib.hid (Gr.trans V5.out hg)
  have HT6 := Lib.hid (HT.out.gr hg)
  clear RR HT hR2
  clear hg e0 e1 e2 e3 e4
  obtain ⟨e0, e1, e2, e3, e4⟩ := KEEP.out _ G6.out
  cases R with
  | true =>
    obtain ⟨T, rfl, hto, htl⟩ := trRight_nat (HRQ.out.1 rfl)
    have HTW := Lib.hid (fun (u : World) (hu : Gr w6 u) => HB3.out u (Gr.trans V6.out hu))
    simp only [List.length_map] at HTW
    try rw [List.length_map]
    clear HT6 HB3 HRQ h1 h100
    have ST := Lib.hid (fun (u : World) (hu : Gr w6 u) => SStates_any n _ _ T u hs (Lib.hid (HV3.out u (Gr.trans V6.out hu))) hR hto htl (Lib.hid (HTW.out u hu)))
    have RU := Lib.hid (fun (u : World) (hu : Gr w6 u) => SRun_any n _ _ T u hs (Lib.hid (HV3.out u (Gr.trans V6.out hu))) hR hto htl (Lib.hid (HTW.out u hu)))
    have HH := Lib.hid (fun (u : World) (hu : Gr w6 u) => SHit_any n _ _ p T u hs (Lib.hid (HV3.out u (Gr.trans V6.out hu))) hR hto htl (Lib.hid (HTW.out u hu)))
    have RS := Lib.hid (fun (u : World) (hu : Gr w6 u) => RStates_any n _ _ T u hs (Lib.hid (HV3.out u (Gr.trans V6.out hu))) hR hto htl (Lib.hid (HTW.out u hu)))
    have RN := Lib.hid (fun (u : World) (hu : Gr w6 u) => RRun_any n _ _ T u hs (Lib.hid (HV3.out u (Gr.trans V6.out hu))) hR hto htl (Lib.hid (HTW.out u hu)))
    have RH := Lib.hid (fun (u : World) (hu : Gr w6 u) => RHit_any n _ _ p T u hs (Lib.hid (HV3.out u (Gr.trans V6.out hu))) hR hto htl (Lib.hid (HTW.out u hu)))
    generalize hitOf n T p = hh at HH RH
    obtain ⟨ha, hb⟩ := hh
    have r2 : ((ha : Int) == (ha : Int)) = true := by simp
    have r3 : (hb == hb) = true := by simp
    have TL := Lib.hid htl
    clear htl hto
    go_wp2_with fail
    refine (HH.out _ (Gr.refl _)).mono ?_
    rintro e w7 ⟨rfl, hg⟩
    have U7 := Lib.hid hg
    have G7 := Lib.hid (Gr.trans G6.out hg)
    clear HH
    clear hg e0 e1 e2 e3 e4
    obtain ⟨e0, e1, e2, e3, e4⟩ := KEEP.out _ G7.out
    go_wp2_with fail
    refine (RH.out _ U7.out).mono ?_
    rintro e w8 ⟨rfl, hg⟩
    have U8 := Lib.hid (Gr.trans U7.out hg)
    have G8 := Lib.hid (Gr.trans G7.out hg)
    have KQ := Lib.hid (fun (u : World) (hu : Gr w8 u) => KEEP.out u (Gr.trans G8.out hu))
    clear RH
    clear hg e0 e1 e2 e3 e4
    obtain ⟨e0, e1, e2, e3, e4⟩ := KEEP.out _ G8.out
    go_upto_region 11 with fail
    clear e0 e1 e2 e3 e4
    refine wp_region_held_drew (S := (fun u : World => BxAt u w.heap.size n A1 A2 A3 A4 A5 c1 c2 c3 c4 c5)) (by kernel_rfl) (KQ.out _ (Gr.drew _)) (fun hHeld => ?_)
    refine wpAnyH_take (i := 0) (oi := { dst := some 57, op := Op.move (Operand.tmp 9), type := 4, pos := "law.go:61", after := #[], guard := none }) (v := ?_) rfl (by kernel_rfl) (by kernel_rfl) (by kernel_rfl) (fun _ _ _ h => h) (Or.inl ⟨by rfl, ?_⟩) hHeld ?_
    case refine_2 => (intro w hSw; (try dsimp only at hSw); go_simp; try (with_reducible rfl))
    try simp only [Act.put, List.setIfInBounds_toArray, List.set_cons_zero, List.set_cons_succ]
    refine wpAnyH_take (i := 1) (oi := { dst := some 58, op := Op.move (Operand.tmp 57), type := 4, pos := "law.go:61", after := #[{ on := 0, ground := Ground.data }], guard := none }) (v := ?_) rfl (by kernel_rfl) (by kernel_rfl) (by kernel_rfl) (fun _ _ _ h => h) (Or.inl ⟨by rfl, ?_⟩) hHeld ?_
    case refine_2 => (intro w hSw; (try dsimp only at hSw); go_simp; try (with_reducible rfl))
    try simp only [Act.put, List.setIfInBounds_toArray, List.set_cons_zero, List.set_cons_succ]
    refine wpAnyH_take (i := 2) (oi := { dst := some 59, op := Op.load 27 (Operand.tmp 4), type := 27, pos := "law.go:61", after := #[{ on := 1, ground := Ground.guard }], guard := some (1, true) }) (v := ?_) rfl (by kernel_rfl) (by kernel_rfl) (by kernel_rfl) (fun _ _ _ h => h) (Or.inl ⟨by rfl, ?_⟩) hHeld ?_
    case refine_2 => (intro w hSw; (try dsimp only at hSw); go_simp; try (with_reducible rfl))
    try simp only [Act.put, List.setIfInBounds_toArray, List.set_cons_zero, List.set_cons_succ]
    refine wpAnyH_take (i := 3) (oi := { dst := some 60, op := Op.move (Operand.tmp 10), type := 28, pos := "law.go:61", after := #[{ on := 1, ground := Ground.guard }], guard := some (1, true) }) (v := ?_) rfl (by kernel_rfl) (by kernel_rfl) (by kernel_rfl) (fun _ _ _ h => h) (Or.inl ⟨by rfl, ?_⟩) hHeld ?_
    case refine_2 => (intro w hSw; (try dsimp only at hSw); go_simp; try (with_reducible rfl))
    try simp only [Act.put, List.setIfInBounds_toArray, List.set_cons_zero, List.set_cons_succ]
    refine wpAnyH_take (i := 5) (oi := { dst := some 62, op := Op.load 27 (Operand.tmp 4), type := 27, pos := "law.go:61", after := #[{ on := 1, ground := Ground.guard }], guard := some (1, true) }) (v := ?_) rfl (by kernel_rfl) (by kernel_rfl) (by kernel_rfl) (fun _ _ _ h => h) (Or.inl ⟨by rfl, ?_⟩) hHeld ?_
    case refine_2 => (intro w hSw; (try dsimp only at hSw); go_simp; try (with_reducible rfl))
    try simp only [Act.put, List.setIfInBounds_toArray, List.set_cons_zero, List.set_cons_succ]
    refine wpAnyH_take (i := 6) (oi := { dst := some 63, op := Op.move (Operand.tmp 10), type := 28, pos := "law.go:61", after := #[{ on := 1, ground := Ground.guard }], guard := some (1, true) }) (v := ?_) rfl (by kernel_rfl) (by kernel_rfl) (by kernel_rfl) (fun _ _ _ h => h) (Or.inl ⟨by rfl, ?_⟩) hHeld ?_
    case refine_2 => (intro w hSw; (try dsimp only at hSw); go_simp; try (with_reducible rfl))
    try simp only [Act.put, List.setIfInBounds_toArray, List.set_cons_zero, List.set_cons_succ]
    refine wpAnyH_ready (rs := [4]) (by kernel_rfl) (by simp) ?_
    refine (AllReadyH.cons (o := { dst := some 61, op := Op.call { callee := Callee.value (Operand.func 19), args := #[Operand.tmp 59, Operand.tmp 60], argTypes := #[27, 28] }, type := 28, pos := "law.go:61", after := #[{ on := 2, ground := Ground.data }, { on := 3, ground := Ground.data }, { on := 1, ground := Ground.chain }, { on := 1, ground := Ground.guard }], guard := some (1, true) }) rfl (fun K hK => ?_) AllReadyH.nil)
    go_simp
    refine (ST.out _ (Gr.trans U8.out (Gr.drew _))).mono ?_
    rintro e z1 ⟨vb, rfl, hz1, hg⟩
    have ZA := Lib.hid hz1
    clear hz1
    have Gz1 := Lib.hid (show Gr w8 z1 from Gr.trans (Gr.drew _) hg)
    clear hg
    refine hK.out _ _ (KQ.out _ Gz1.out) (fun hHeld => ?_)
    clear hK K
    try simp only [Act.put, List.setIfInBounds_toArray, List.set_cons_zero, List.set_cons_succ]
    refine wpAnyH_ready (rs := [7]) (by kernel_rfl) (by simp) ?_
    refine (AllReadyH.cons (o := { dst := some 64, op := Op.call { callee := Callee.value (Operand.func 20), args := #[Operand.tmp 62, Operand.tmp 63], argTypes := #[27, 28] }, type := 28, pos := "law.go:61", after := #[{ on := 5, ground := Ground.data }, { on := 6, ground := Ground.data }, { on := 4, ground := Ground.chain }, { on := 1, ground := Ground.guard }], guard := some (1, true) }) rfl (fun K hK => ?_) AllReadyH.nil)
    go_simp
    refine (RS.out _ (Gr.trans U8.out Gz1.out)).mono ?_
    rintro e z2 ⟨vb, rfl, hz1, hg⟩
    have ZB := Lib.hid hz1
    clear hz1
    have Gz2 := Lib.hid (show Gr w8 z2 from Gr.trans Gz1.out hg)
    have ZA := Lib.hid (ZA.out.gr hg)
    clear hg
    refine hK.out _ _ (KQ.out _ Gz2.out) (fun hHeld => ?_)
    clear hK K
    try simp only [Act.put, List.setIfInBounds_toArray, List.set_cons_zero, List.set_cons_succ]
    refine wpAnyH_ready (rs := [8]) (by kernel_rfl) (by simp) ?_
    refine (AllReadyH.cons (o := { dst := some 65, op := Op.call { callee := Callee.value (Operand.func 18), args := #[Operand.tmp 61, Operand.tmp 64], argTypes := #[28, 28] }, type := 4, pos := "law.go:61", after := #[{ on := 4, ground := Ground.data }, { on := 7, ground := Ground.data }, { on := 7, ground := Ground.chain }, { on := 1, ground := Ground.guard }], guard := some (1, true) }) rfl (fun K hK => ?_) AllReadyH.nil)
    go_simp
    refine (SameRows_yes _ _ (stsL n T (T.length + 1)) _ (by rw [stsL_len]; have := TL.out; omega) (fun q hq => by obtain ⟨j, hj⟩ := List.mem_iff_getElem?.1 hq; unfold stsL at hj; rw [List.getElem?_map] at hj; obtain ⟨a, -, rfl⟩ := Option.map_eq_some_iff.1 hj; rw [ofN_len, stAt_len]; exact CL.out) ZA ZB).mono ?_
    rintro e z3 ⟨rfl, hg⟩
    have Gz3 := Lib.hid (show Gr w8 z3 from Gr.trans Gz2.out hg)
    clear hg
    refine hK.out _ _ (KQ.out _ Gz3.out) (fun hHeld => ?_)
    clear hK K
    try simp only [Act.put, List.setIfInBounds_toArray, List.set_cons_zero, List.set_cons_succ]
    refine wpAnyH_take (i := 9) (oi := { dst := some 66, op := Op.pick (Operand.tmp 58) (Operand.tmp 65) (Operand.const (Value.bool false)), type := 4, pos := "law.go:61", after := #[{ on := 1, ground := Ground.data }, { on := 8, ground := Ground.data }], guard := none }) (v := ?_) rfl (by kernel_rfl) (by kernel_rfl) (by kernel_rfl) (fun _ _ _ h => h) (Or.inl ⟨by rfl, ?_⟩) hHeld ?_
    case refine_2 => (intro w hSw; (try dsimp only at hSw); go_simp; try (with_reducible rfl))
    try simp only [Act.put, List.setIfInBounds_toArray, List.set_cons_zero, List.set_cons_succ]
    refine wpAnyH_take (i := 10) (oi := { dst := some 67, op := Op.move (Operand.tmp 66), type := 4, pos := "law.go:61", after := #[{ on := 9, ground := Ground.data }, { on := 8, ground := Ground.chain }], guard := none }) (v := ?_) rfl (by kernel_rfl) (by kernel_rfl) (by kernel_rfl) (fun _ _ _ h => h) (Or.inl ⟨by rfl, ?_⟩) hHeld ?_
    case refine_2 => (intro w hSw; (try dsimp only at hSw); go_simp; try (with_reducible rfl))
    try simp only [Act.put, List.setIfInBounds_toArray, List.set_cons_zero, List.set_cons_succ]
    refine wpAnyH_take (i := 11) (oi := { dst := some 68, op := Op.load 27 (Operand.tmp 4), type := 27, pos := "law.go:61", after := #[{ on := 10, ground := Ground.guard }], guard := some (10, true) }) (v := ?_) rfl (by kernel_rfl) (by kernel_rfl) (by kernel_rfl) (fun _ _ _ h => h) (Or.inl ⟨by rfl, ?_⟩) hHeld ?_
    case refine_2 => (intro w hSw; (try dsimp only at hSw); go_simp; try (with_reducible rfl))
    try simp only [Act.put, List.setIfInBounds_toArray, List.set_cons_zero, List.set_cons_succ]
    refine wpAnyH_take (i := 12) (oi := { dst := some 69, op := Op.move (Operand.tmp 10), type := 28, pos := "law.go:61", after := #[{ on := 10, ground := Ground.guard }], guard := some (10, true) }) (v := ?_) rfl (by kernel_rfl) (by kernel_rfl) (by kernel_rfl) (fun _ _ _ h => h) (Or.inl ⟨by rfl, ?_⟩) hHeld ?_
    case refine_2 => (intro w hSw; (try dsimp only at hSw); go_simp; try (with_reducible rfl))
    try simp only [Act.put, List.setIfInBounds_toArray, List.set_cons_zero, List.set_cons_succ]
    refine wpAnyH_take (i := 14) (oi := { dst := some 71, op := Op.load 27 (Operand.tmp 4), type := 27, pos := "law.go:61", after := #[{ on := 10, ground := Ground.guard }], guard := some (10, true) }) (v := ?_) rfl (by kernel_rfl) (by kernel_rfl) (by kernel_rfl) (fun _ _ _ h => h) (Or.inl ⟨by rfl, ?_⟩) hHeld ?_
    case refine_2 => (intro w hSw; (try dsimp only at hSw); go_simp; try (with_reducible rfl))
    try simp only [Act.put, List.setIfInBounds_toArray, List.set_cons_zero, List.set_cons_succ]
    refine wpAnyH_take (i := 15) (oi := { dst := some 72, op := Op.move (Operand.tmp 10), type := 28, pos := "law.go:61", after := #[{ on := 10, ground := Ground.guard }], guard := some (10, true) }) (v := ?_) rfl (by kernel_rfl) (by kernel_rfl) (by kernel_rfl) (fun _ _ _ h => h) (Or.inl ⟨by rfl, ?_⟩) hHeld ?_
    case refine_2 => (intro w hSw; (try dsimp only at hSw); go_simp; try (with_reducible rfl))
    try simp only [Act.put, List.setIfInBounds_toArray, List.set_cons_zero, List.set_cons_succ]
    refine wpAnyH_ready (rs := [13]) (by kernel_rfl) (by simp) ?_
    refine (AllReadyH.cons (o := { dst := some 70, op := Op.call { callee := Callee.value (Operand.func 22), args := #[Operand.tmp 68, Operand.tmp 69], argTypes := #[27, 28] }, type := 39, pos := "law.go:61", after := #[{ on := 11, ground := Ground.data }, { on := 12, ground := Ground.data }, { on := 10, ground := Ground.chain }, { on := 10, ground := Ground.guard }], guard := some (10, true) }) rfl (fun K hK => ?_) AllReadyH.nil)
    go_simp
    refine (RU.out _ (Gr.trans U8.out Gz3.out)).mono ?_
    rintro e z4 ⟨vb, rfl, hz1, hg⟩
    have ZC := Lib.hid hz1
    clear hz1
    have Gz4 := Lib.hid (show Gr w8 z4 from Gr.trans Gz3.out hg)
    clear hg
    refine hK.out _ _ (KQ.out _ Gz4.out) (fun hHeld => ?_)
    clear hK K
    try simp only [Act.put, List.setIfInBounds_toArray, List.set_cons_zero, List.set_cons_succ]
    refine wpAnyH_ready (rs := [16]) (by kernel_rfl) (by simp) ?_
    refine (AllReadyH.cons (o := { dst := some 73, op := Op.call { callee := Callee.value (Operand.func 23), args := #[Operand.tmp 71, Operand.tmp 72], argTypes := #[27, 28] }, type := 39, pos := "law.go:61", after := #[{ on := 14, ground := Ground.data }, { on := 15, ground := Ground.data }, { on := 13, ground := Ground.chain }, { on := 10, ground := Ground.guard }], guard := some (10, true) }) rfl (fun K hK => ?_) AllReadyH.nil)
    go_simp
    refine (RN.out _ (Gr.trans U8.out Gz4.out)).mono ?_
    rintro e z5 ⟨vb, rfl, hz1, hg⟩
    have ZD := Lib.hid hz1
    clear hz1
    have Gz5 := Lib.hid (show Gr w8 z5 from Gr.trans Gz4.out hg)
    have ZC := Lib.hid (ZC.out.gr hg)
    clear hg
    refine hK.out _ _ (KQ.out _ Gz5.out) (fun hHeld => ?_)
    clear hK K
    try simp only [Act.put, List.setIfInBounds_toArray, List.set_cons_zero, List.set_cons_succ]
    refine wpAnyH_ready (rs := [17]) (by kernel_rfl) (by simp) ?_
    refine (AllReadyH.cons (o := { dst := some 74, op := Op.call { callee := Callee.value (Operand.func 21), args := #[Operand.tmp 70, Operand.tmp 73], argTypes := #[39, 39] }, type := 4, pos := "law.go:61", after := #[{ on := 13, ground := Ground.data }, { on := 16, ground := Ground.data }, { on := 16, ground := Ground.chain }, { on := 10, ground := Ground.guard }], guard := some (10, true) }) rfl (fun K hK => ?_) AllReadyH.nil)
    go_simp
    refine (SameBits_yes _ _ (runL n T T.length) _ (by rw [runL_len]; have := TL.out; omega) (fun q hq => by obtain ⟨j, hj⟩ := List.mem_iff_getElem?.1 hq; have hjl := (List.getElem?_eq_some_iff.1 hj).1; rw [runL_len] at hjl; rw [runL_at hjl] at hj; obtain rfl := Option.some.inj hj; rw [show (bitsAt n T j).length = n.props.length from prB_len _ _]; exact PL.out) ZC ZD).mono ?_
    rintro e z6 ⟨rfl, hg⟩
    have Gz6 := Lib.hid (show Gr w8 z6 from Gr.trans Gz5.out hg)
    clear hg
    refine hK.out _ _ (KQ.out _ Gz6.out) (fun hHeld => ?_)
    clear hK K
    try simp only [Act.put, List.setIfInBounds_toArray, List.set_cons_zero, List.set_cons_succ]
    refine wpAnyH_take (i := 18) (oi := { dst := some 75, op := Op.pick (Operand.tmp 67) (Operand.tmp 74) (Operand.const (Value.bool false)), type := 4, pos := "law.go:61", after := #[{ on := 10, ground := Ground.data }, { on := 17, ground := Ground.data }], guard := none }) (v := ?_) rfl (by kernel_rfl) (by kernel_rfl) (by kernel_rfl) (fun _ _ _ h => h) (Or.inl ⟨by rfl, ?_⟩) hHeld ?_
    case refine_2 => (intro w hSw; (try dsimp only at hSw); go_simp; try (with_reducible rfl))
    try simp only [Act.put, List.setIfInBounds_toArray, List.set_cons_zero, List.set_cons_succ]
    refine wpAnyH_take (i := 19) (oi := { dst := some 76, op := Op.move (Operand.tmp 75), type := 4, pos := "law.go:61", after := #[{ on := 18, ground := Ground.data }, { on := 17, ground := Ground.chain }], guard := none }) (v := ?_) rfl (by kernel_rfl) (by kernel_rfl) (by kernel_rfl) (fun _ _ _ h => h) (Or.inl ⟨by rfl, ?_⟩) hHeld ?_
    case refine_2 => (intro w hSw; (try dsimp only at hSw); go_simp; try (with_reducible rfl))
    try simp only [Act.put, List.setIfInBounds_toArray, List.set_cons_zero, List.set_cons_succ]
    refine wpAnyH_take (i := 20) (oi := { dst := some 77, op := Op.move (Operand.tmp 11), type := 3, pos := "law.go:61", after := #[{ on := 19, ground := Ground.guard }], guard := some (19, true) }) (v := ?_) rfl (by kernel_rfl) (by kernel_rfl) (by kernel_rfl) (fun _ _ _ h => h) (Or.inl ⟨by rfl, ?_⟩) hHeld ?_
    case refine_2 => (intro w hSw; (try dsimp only at hSw); go_simp; try (with_reducible rfl))
    try simp only [Act.put, List.setIfInBounds_toArray, List.set_cons_zero, List.set_cons_succ]
    refine wpAnyH_take (i := 21) (oi := { dst := some 78, op := Op.move (Operand.tmp 13), type := 3, pos := "law.go:61", after := #[{ on := 19, ground := Ground.guard }], guard := some (19, true) }) (v := ?_) rfl (by kernel_rfl) (by kernel_rfl) (by kernel_rfl) (fun _ _ _ h => h) (Or.inl ⟨by rfl, ?_⟩) hHeld ?_
    case refine_2 => (intro w hSw; (try dsimp only at hSw); go_simp; try (with_reducible rfl))
    try simp only [Act.put, List.setIfInBounds_toArray, List.set_cons_zero, List.set_cons_succ]
    refine wpAnyH_take (i := 22) (oi := { dst := some 79, op := Op.binOp BinOp.eql 3 (Operand.tmp 77) (Operand.tmp 78) 3, type := 4, pos := "law.go:61", after := #[{ on := 20, ground := Ground.data }, { on := 21, ground := Ground.data }, { on := 19, ground := Ground.guard }], guard := some (19, true) }) (v := ?_) rfl (by kernel_rfl) (by kernel_rfl) (by kernel_rfl) (fun _ _ _ h => h) (Or.inl ⟨by rfl, ?_⟩) hHeld ?_
    case refine_2 => (intro w hSw; (try dsimp only at hSw); go_simp; try (with_reducible rfl))
    try simp only [Act.put, List.setIfInBounds_toArray, List.set_cons_zero, List.set_cons_succ]
    refine wpAnyH_take (i := 23) (oi := { dst := some 80, op := Op.pick (Operand.tmp 76) (Operand.tmp 79) (Operand.const (Value.bool false)), type := 4, pos := "law.go:61", after := #[{ on := 19, ground := Ground.data }, { on := 22, ground := Ground.data }], guard := none }) (v := ?_) rfl (by kernel_rfl) (by kernel_rfl) (by kernel_rfl) (fun _ _ _ h => h) (Or.inl ⟨by rfl, ?_⟩) hHeld ?_
    case refine_2 => (intro w hSw; (try dsimp only at hSw); go_simp; try (with_reducible rfl))
    try simp only [Act.put, List.setIfInBounds_toArray, List.set_cons_zero, List.set_cons_succ]
    refine wpAnyH_take (i := 24) (oi := { dst := some 81, op := Op.move (Operand.tmp 80), type := 4, pos := "law.go:61", after := #[{ on := 23, ground := Ground.data }, { on := 19, ground := Ground.chain }], guard := none }) (v := ?_) rfl (by kernel_rfl) (by kernel_rfl) (by kernel_rfl) (fun _ _ _ h => h) (Or.inl ⟨by rfl, ?_⟩) hHeld ?_
    case refine_2 => (intro w hSw; (try dsimp only at hSw); go_simp; try (with_reducible rfl))
    try simp only [Act.put, List.setIfInBounds_toArray, List.set_cons_zero, List.set_cons_succ]
    refine wpAnyH_take (i := 25) (oi := { dst := some 82, op := Op.move (Operand.tmp 12), type := 4, pos := "law.go:61", after := #[{ on := 24, ground := Ground.guard }], guard := some (24, true) }) (v := ?_) rfl (by kernel_rfl) (by kernel_rfl) (by kernel_rfl) (fun _ _ _ h => h) (Or.inl ⟨by rfl, ?_⟩) hHeld ?_
    case refine_2 => (intro w hSw; (try dsimp only at hSw); go_simp; try (with_reducible rfl))
    try simp only [Act.put, List.setIfInBounds_toArray, List.set_cons_zero, List.set_cons_succ]
    refine wpAnyH_take (i := 26) (oi := { dst := some 83, op := Op.move (Operand.tmp 14), type := 4, pos := "law.go:61", after := #[{ on := 24, ground := Ground.guard }], guard := some (24, true) }) (v := ?_) rfl (by kernel_rfl) (by kernel_rfl) (by kernel_rfl) (fun _ _ _ h => h) (Or.inl ⟨by rfl, ?_⟩) hHeld ?_
    case refine_2 => (intro w hSw; (try dsimp only at hSw); go_simp; try (with_reducible rfl))
    try simp only [Act.put, List.setIfInBounds_toArray, List.set_cons_zero, List.set_cons_succ]
    refine wpAnyH_take (i := 27) (oi := { dst := some 84, op := Op.binOp BinOp.eql 4 (Operand.tmp 82) (Operand.tmp 83) 4, type := 4, pos := "law.go:61", after := #[{ on := 25, ground := Ground.data }, { on := 26, ground := Ground.data }, { on := 24, ground := Ground.guard }], guard := some (24, true) }) (v := ?_) rfl (by kernel_rfl) (by kernel_rfl) (by kernel_rfl) (fun _ _ _ h => h) (Or.inl ⟨by rfl, ?_⟩) hHeld ?_
    case refine_2 => (intro w hSw; (try dsimp only at hSw); go_simp; try (with_reducible rfl))
    try simp only [Act.put, List.setIfInBounds_toArray, List.set_cons_zero, List.set_cons_succ]
    refine wpAnyH_take (i := 28) (oi := { dst := some 85, op := Op.pick (Operand.tmp 81) (Operand.tmp 84) (Operand.const (Value.bool false)), type := 4, pos := "law.go:61", after := #[{ on := 24, ground := Ground.data }, { on := 27, ground := Ground.data }], guard := none }) (v := ?_) rfl (by kernel_rfl) (by kernel_rfl) (by kernel_rfl) (fun _ _ _ h => h) (Or.inl ⟨by rfl, ?_⟩) hHeld ?_
    case refine_2 => (intro w hSw; (try dsimp only at hSw); go_simp; try (with_reducible rfl))
    try simp only [Act.put, List.setIfInBounds_toArray, List.set_cons_zero, List.set_cons_succ]
    refine wpAnyH_take (i := 29) (oi := { dst := some 8, op := Op.assign (Operand.tmp 85), type := 4, pos := "law.go:61", after := #[{ on := 28, ground := Ground.data }, { on := 24, ground := Ground.chain }, { on := 0, ground := Ground.phase }, { on := 1, ground := Ground.phase }, { on := 2, ground := Ground.phase }, { on := 3, ground := Ground.phase }, { on := 4, ground := Ground.phase }, { on := 5, ground := Ground.phase }, { on := 6, ground := Ground.phase }, { on := 7, ground := Ground.phase }, { on := 8, ground := Ground.phase }, { on := 9, ground := Ground.phase }, { on := 10, ground := Ground.phase }, { on := 11, ground := Ground.phase }, { on := 12, ground := Ground.phase }, { on := 13, ground := Ground.phase }, { on := 14, ground := Ground.phase }, { on := 15, ground := Ground.phase }, { on := 16, ground := Ground.phase }, { on := 17, ground := Ground.phase }, { on := 18, ground := Ground.phase }, { on := 19, ground := Ground.phase }, { on := 20, ground := Ground.phase }, { on := 21, ground := Ground.phase }, { on := 22, ground := Ground.phase }, { on := 23, ground := Ground.phase }, { on := 24, ground := Ground.phase }, { on := 25, ground := Ground.phase }, { on := 26, ground := Ground.phase }, { on := 27, ground := Ground.phase }, { on := 28, ground := Ground.phase }], guard := none }) (v := ?_) rfl (by kernel_rfl) (by kernel_rfl) (by kernel_rfl) (fun _ _ _ h => h) (Or.inl ⟨by rfl, ?_⟩) hHeld ?_
    case refine_2 => (intro w hSw; (try dsimp only at hSw); go_simp; try (with_reducible rfl))
    try simp only [Act.put, List.setIfInBounds_toArray, List.set_cons_zero, List.set_cons_succ]
    refine wpAnyH_done (by kernel_rfl) ?_ _
    go_wp2_with fail
    go_ret
    exact ⟨rfl, Gr.trans BW.out (Gr.trans G8.out Gz6.out)⟩
  | false =>
    have hto := trOf_ok n l
    have htl := trOf_len n l
    have HTW := Lib.hid (fun (u : World) (hu : Gr w6 u) => HT6.out.gr hu)
    generalize trOf n l = T at hto htl HTW hct ⊢
    simp only [List.length_map] at HTW hct
    try rw [List.length_map]
    clear HT6 HB3 HRQ
    have ST := Lib.hid (fun (u : World) (hu : Gr w6 u) => SStates_any n _ _ T u hs (Lib.hid (HV3.out u (Gr.trans V6.out hu))) hR hto htl (Lib.hid (HTW.out u hu)))
    have RU := Lib.hid (fun (u : World) (hu : Gr w6 u) => SRun_any n _ _ T u hs (Lib.hid (HV3.out u (Gr.trans V6.out hu))) hR hto htl (Lib.hid (HTW.out u hu)))
    have HH := Lib.hid (fun (u : World) (hu : Gr w6 u) => SHit_any n _ _ p T u hs (Lib.hid (HV3.out u (Gr.trans V6.out hu))) hR hto htl (Lib.hid (HTW.out u hu)))
    have RS := Lib.hid (fun (u : World) (hu : Gr w6 u) => RStates_any n _ _ T u hs (Lib.hid (HV3.out u (Gr.trans V6.out hu))) hR hto htl (Lib.hid (HTW.out u hu)))
    have RN := Lib.hid (fun (u : World) (hu : Gr w6 u) => RRun_any n _ _ T u hs (Lib.hid (HV3.out u (Gr.trans V6.out hu))) hR hto htl (Lib.hid (HTW.out u hu)))
    have RH := Lib.hid (fun (u : World) (hu : Gr w6 u) => RHit_any n _ _ p T u hs (Lib.hid (HV3.out u (Gr.trans V6.out hu))) hR hto htl (Lib.hid (HTW.out u hu)))
    generalize hitOf n T p = hh at HH RH
    obtain ⟨ha, hb⟩ := hh
    have r2 : ((ha : Int) == (ha : Int)) = true := by simp
    have r3 : (hb == hb) = true := by simp
    have TL := Lib.hid htl
    clear htl hto
    go_wp2_with fail
    refine (HH.out _ (Gr.refl _)).mono ?_
    rintro e w7 ⟨rfl, hg⟩
    have U7 := Lib.hid hg
    have G7 := Lib.hid (Gr.trans G6.out hg)
    clear HH
    clear hg e0 e1 e2 e3 e4
    obtain ⟨e0, e1, e2, e3, e4⟩ := KEEP.out _ G7.out
    go_wp2_with fail
    refine (RH.out _ U7.out).mono ?_
    rintro e w8 ⟨rfl, hg⟩
    have U8 := Lib.hid (Gr.trans U7.out hg)
    have G8 := Lib.hid (Gr.trans G7.out hg)
    have KQ := Lib.hid (fun (u : World) (hu : Gr w8 u) => KEEP.out u (Gr.trans G8.out hu))
    clear RH
    clear hg e0 e1 e2 e3 e4
    obtain ⟨e0, e1, e2, e3, e4⟩ := KEEP.out _ G8.out
    go_upto_region 11 with fail
    clear e0 e1 e2 e3 e4
    refine wp_region_held_drew (S := (fun u : World => BxAt u w.heap.size n A1 A2 A3 A4 A5 c1 c2 c3 c4 c5)) (by kernel_rfl) (KQ.out _ (Gr.drew _)) (fun hHeld => ?_)
    refine wpAnyH_take (i := 0) (oi := { dst := some 57, op := Op.move (Operand.tmp 9), type := 4, pos := "law.go:61", after := #[], guard := none }) (v := ?_) rfl (by kernel_rfl) (by kernel_rfl) (by kernel_rfl) (fun _ _ _ h => h) (Or.inl ⟨by rfl, ?_⟩) hHeld ?_
    case refine_2 => (intro w hSw; (try dsimp only at hSw); go_simp; try (with_reducible rfl))
    try simp only [Act.put, List.setIfInBounds_toArray, List.set_cons_zero, List.set_cons_succ]
    refine wpAnyH_take (i := 1) (oi := { dst := some 58, op := Op.move (Operand.tmp 57), type := 4, pos := "law.go:61", after := #[{ on := 0, ground := Ground.data }], guard := none }) (v := ?_) rfl (by kernel_rfl) (by kernel_rfl) (by kernel_rfl) (fun _ _ _ h => h) (Or.inl ⟨by rfl, ?_⟩) hHeld ?_
    case refine_2 => (intro w hSw; (try dsimp only at hSw); go_simp; try (with_reducible rfl))
    try simp only [Act.put, List.setIfInBounds_toArray, List.set_cons_zero, List.set_cons_succ]
    refine wpAnyH_take (i := 2) (oi := { dst := some 59, op := Op.load 27 (Operand.tmp 4), type := 27, pos := "law.go:61", after := #[{ on := 1, ground := Ground.guard }], guard := some (1, true) }) (v := ?_) rfl (by kernel_rfl) (by kernel_rfl) (by kernel_rfl) (fun _ _ _ h => h) (Or.inl ⟨by rfl, ?_⟩) hHeld ?_
    case refine_2 => (intro w hSw; (try dsimp only at hSw); go_simp; try (with_reducible rfl))
    try simp only [Act.put, List.setIfInBounds_toArray, List.set_cons_zero, List.set_cons_succ]
    refine wpAnyH_take (i := 3) (oi := { dst := some 60, op := Op.move (Operand.tmp 10), type := 28, pos := "law.go:61", after := #[{ on := 1, ground := Ground.guard }], guard := some (1, true) }) (v := ?_) rfl (by kernel_rfl) (by kernel_rfl) (by kernel_rfl) (fun _ _ _ h => h) (Or.inl ⟨by rfl, ?_⟩) hHeld ?_
    case refine_2 => (intro w hSw; (try dsimp only at hSw); go_simp; try (with_reducible rfl))
    try simp only [Act.put, List.setIfInBounds_toArray, List.set_cons_zero, List.set_cons_succ]
    refine wpAnyH_take (i := 5) (oi := { dst := some 62, op := Op.load 27 (Operand.tmp 4), type := 27, pos := "law.go:61", after := #[{ on := 1, ground := Ground.guard }], guard := some (1, true) }) (v := ?_) rfl (by kernel_rfl) (by kernel_rfl) (by kernel_rfl) (fun _ _ _ h => h) (Or.inl ⟨by rfl, ?_⟩) hHeld ?_
    case refine_2 => (intro w hSw; (try dsimp only at hSw); go_simp; try (with_reducible rfl))
    try simp only [Act.put, List.setIfInBounds_toArray, List.set_cons_zero, List.set_cons_succ]
    refine wpAnyH_take (i := 6) (oi := { dst := some 63, op := Op.move (Operand.tmp 10), type := 28, pos := "law.go:61", after := #[{ on := 1, ground := Ground.guard }], guard := some (1, true) }) (v := ?_) rfl (by kernel_rfl) (by kernel_rfl) (by kernel_rfl) (fun _ _ _ h => h) (Or.inl ⟨by rfl, ?_⟩) hHeld ?_
    case refine_2 => (intro w hSw; (try dsimp only at hSw); go_simp; try (with_reducible rfl))
    try simp only [Act.put, List.setIfInBounds_toArray, List.set_cons_zero, List.set_cons_succ]
    refine wpAnyH_ready (rs := [4]) (by kernel_rfl) (by simp) ?_
    refine (AllReadyH.cons (o := { dst := some 61, op := Op.call { callee := Callee.value (Operand.func 19), args := #[Operand.tmp 59, Operand.tmp 60], argTypes := #[27, 28] }, type := 28, pos := "law.go:61", after := #[{ on := 2, ground := Ground.data }, { on := 3, ground := Ground.data }, { on := 1, ground := Ground.chain }, { on := 1, ground := Ground.guard }], guard := some (1, true) }) rfl (fun K hK => ?_) AllReadyH.nil)
    go_simp
    refine (ST.out _ (Gr.trans U8.out (Gr.drew _))).mono ?_
    rintro e z1 ⟨vb, rfl, hz1, hg⟩
    have ZA := Lib.hid hz1
    clear hz1
    have Gz1 := Lib.hid (show Gr w8 z1 from Gr.trans (Gr.drew _) hg)
    clear hg
    refine hK.out _ _ (KQ.out _ Gz1.out) (fun hHeld => ?_)
    clear hK K
    try simp only [Act.put, List.setIfInBounds_toArray, List.set_cons_zero, List.set_cons_succ]
    refine wpAnyH_ready (rs := [7]) (by kernel_rfl) (by simp) ?_
    refine (AllReadyH.cons (o := { dst := some 64, op := Op.call { callee := Callee.value (Operand.func 20), args := #[Operand.tmp 62, Operand.tmp 63], argTypes := #[27, 28] }, type := 28, pos := "law.go:61", after := #[{ on := 5, ground := Ground.data }, { on := 6, ground := Ground.data }, { on := 4, ground := Ground.chain }, { on := 1, ground := Ground.guard }], guard := some (1, true) }) rfl (fun K hK => ?_) AllReadyH.nil)
    go_simp
    refine (RS.out _ (Gr.trans U8.out Gz1.out)).mono ?_
    rintro e z2 ⟨vb, rfl, hz1, hg⟩
    have ZB := Lib.hid hz1
    clear hz1
    have Gz2 := Lib.hid (show Gr w8 z2 from Gr.trans Gz1.out hg)
    have ZA := Lib.hid (ZA.out.gr hg)
    clear hg
    refine hK.out _ _ (KQ.out _ Gz2.out) (fun hHeld => ?_)
    clear hK K
    try simp only [Act.put, List.setIfInBounds_toArray, List.set_cons_zero, List.set_cons_succ]
    refine wpAnyH_ready (rs := [8]) (by kernel_rfl) (by simp) ?_
    refine (AllReadyH.cons (o := { dst := some 65, op := Op.call { callee := Callee.value (Operand.func 18), args := #[Operand.tmp 61, Operand.tmp 64], argTypes := #[28, 28] }, type := 4, pos := "law.go:61", after := #[{ on := 4, ground := Ground.data }, { on := 7, ground := Ground.data }, { on := 7, ground := Ground.chain }, { on := 1, ground := Ground.guard }], guard := some (1, true) }) rfl (fun K hK => ?_) AllReadyH.nil)
    go_simp
    refine (SameRows_yes _ _ (stsL n T (T.length + 1)) _ (by rw [stsL_len]; have := TL.out; omega) (fun q hq => by obtain ⟨j, hj⟩ := List.mem_iff_getElem?.1 hq; unfold stsL at hj; rw [List.getElem?_map] at hj; obtain ⟨a, -, rfl⟩ := Option.map_eq_some_iff.1 hj; rw [ofN_len, stAt_len]; exact CL.out) ZA ZB).mono ?_
    rintro e z3 ⟨rfl, hg⟩
    have Gz3 := Lib.hid (show Gr w8 z3 from Gr.trans Gz2.out hg)
    clear hg
    refine hK.out _ _ (KQ.out _ Gz3.out) (fun hHeld => ?_)
    clear hK K
    try simp only [Act.put, List.setIfInBounds_toArray, List.set_cons_zero, List.set_cons_succ]
    refine wpAnyH_take (i := 9) (oi := { dst := some 66, op := Op.pick (Operand.tmp 58) (Operand.tmp 65) (Operand.const (Value.bool false)), type := 4, pos := "law.go:61", after := #[{ on := 1, ground := Ground.data }, { on := 8, ground := Ground.data }], guard := none }) (v := ?_) rfl (by kernel_rfl) (by kernel_rfl) (by kernel_rfl) (fun _ _ _ h => h) (Or.inl ⟨by rfl, ?_⟩) hHeld ?_
    case refine_2 => (intro w hSw; (try dsimp only at hSw); go_simp; try (with_reducible rfl))
    try simp only [Act.put, List.setIfInBounds_toArray, List.set_cons_zero, List.set_cons_succ]
    refine wpAnyH_take (i := 10) (oi := { dst := some 67, op := Op.move (Operand.tmp 66), type := 4, pos := "law.go:61", after := #[{ on := 9, ground := Ground.data }, { on := 8, ground := Ground.chain }], guard := none }) (v := ?_) rfl (by kernel_rfl) (by kernel_rfl) (by kernel_rfl) (fun _ _ _ h => h) (Or.inl ⟨by rfl, ?_⟩) hHeld ?_
    case refine_2 => (intro w hSw; (try dsimp only at hSw); go_simp; try (with_reducible rfl))
    try simp only [Act.put, List.setIfInBounds_toArray, List.set_cons_zero, List.set_cons_succ]
    refine wpAnyH_take (i := 11) (oi := { dst := some 68, op := Op.load 27 (Operand.tmp 4), type := 27, pos := "law.go:61", after := #[{ on := 10, ground := Ground.guard }], guard := some (10, true) }) (v := ?_) rfl (by kernel_rfl) (by kernel_rfl) (by kernel_rfl) (fun _ _ _ h => h) (Or.inl ⟨by rfl, ?_⟩) hHeld ?_
    case refine_2 => (intro w hSw; (try dsimp only at hSw); go_simp; try (with_reducible rfl))
    try simp only [Act.put, List.setIfInBounds_toArray, List.set_cons_zero, List.set_cons_succ]
    refine wpAnyH_take (i := 12) (oi := { dst := some 69, op := Op.move (Operand.tmp 10), type := 28, pos := "law.go:61", after := #[{ on := 10, ground := Ground.guard }], guard := some (10, true) }) (v := ?_) rfl (by kernel_rfl) (by kernel_rfl) (by kernel_rfl) (fun _ _ _ h => h) (Or.inl ⟨by rfl, ?_⟩) hHeld ?_
    case refine_2 => (intro w hSw; (try dsimp only at hSw); go_simp; try (with_reducible rfl))
    try simp only [Act.put, List.setIfInBounds_toArray, List.set_cons_zero, List.set_cons_succ]
    refine wpAnyH_take (i := 14) (oi := { dst := some 71, op := Op.load 27 (Operand.tmp 4), type := 27, pos := "law.go:61", after := #[{ on := 10, ground := Ground.guard }], guard := some (10, true) }) (v := ?_) rfl (by kernel_rfl) (by kernel_rfl) (by kernel_rfl) (fun _ _ _ h => h) (Or.inl ⟨by rfl, ?_⟩) hHeld ?_
    case refine_2 => (intro w hSw; (try dsimp only at hSw); go_simp; try (with_reducible rfl))
    try simp only [Act.put, List.setIfInBounds_toArray, List.set_cons_zero, List.set_cons_succ]
    refine wpAnyH_take (i := 15) (oi := { dst := some 72, op := Op.move (Operand.tmp 10), type := 28, pos := "law.go:61", after := #[{ on := 10, ground := Ground.guard }], guard := some (10, true) }) (v := ?_) rfl (by kernel_rfl) (by kernel_rfl) (by kernel_rfl) (fun _ _ _ h => h) (Or.inl ⟨by rfl, ?_⟩) hHeld ?_
    case refine_2 => (intro w hSw; (try dsimp only at hSw); go_simp; try (with_reducible rfl))
    try simp only [Act.put, List.setIfInBounds_toArray, List.set_cons_zero, List.set_cons_succ]
    refine wpAnyH_ready (rs := [13]) (by kernel_rfl) (by simp) ?_
    refine (AllReadyH.cons (o := { dst := some 70, op := Op.call { callee := Callee.value (Operand.func 22), args := #[Operand.tmp 68, Operand.tmp 69], argTypes := #[27, 28] }, type := 39, pos := "law.go:61", after := #[{ on := 11, ground := Ground.data }, { on := 12, ground := Ground.data }, { on := 10, ground := Ground.chain }, { on := 10, ground := Ground.guard }], guard := some (10, true) }) rfl (fun K hK => ?_) AllReadyH.nil)
    go_simp
    refine (RU.out _ (Gr.trans U8.out Gz3.out)).mono ?_
    rintro e z4 ⟨vb, rfl, hz1, hg⟩
    have ZC := Lib.hid hz1
    clear hz1
    have Gz4 := Lib.hid (show Gr w8 z4 from Gr.trans Gz3.out hg)
    clear hg
    refine hK.out _ _ (KQ.out _ Gz4.out) (fun hHeld => ?_)
    clear hK K
    try simp only [Act.put, List.setIfInBounds_toArray, List.set_cons_zero, List.set_cons_succ]
    refine wpAnyH_ready (rs := [16]) (by kernel_rfl) (by simp) ?_
    refine (AllReadyH.cons (o := { dst := some 73, op := Op.call { callee := Callee.value (Operand.func 23), args := #[Operand.tmp 71, Operand.tmp 72], argTypes := #[27, 28] }, type := 39, pos := "law.go:61", after := #[{ on := 14, ground := Ground.data }, { on := 15, ground := Ground.data }, { on := 13, ground := Ground.chain }, { on := 10, ground := Ground.guard }], guard := some (10, true) }) rfl (fun K hK => ?_) AllReadyH.nil)
    go_simp
    refine (RN.out _ (Gr.trans U8.out Gz4.out)).mono ?_
    rintro e z5 ⟨vb, rfl, hz1, hg⟩
    have ZD := Lib.hid hz1
    clear hz1
    have Gz5 := Lib.hid (show Gr w8 z5 from Gr.trans Gz4.out hg)
    have ZC := Lib.hid (ZC.out.gr hg)
    clear hg
    refine hK.out _ _ (KQ.out _ Gz5.out) (fun hHeld => ?_)
    clear hK K
    try simp only [Act.put, List.setIfInBounds_toArray, List.set_cons_zero, List.set_cons_succ]
    refine wpAnyH_ready (rs := [17]) (by kernel_rfl) (by simp) ?_
    refine (AllReadyH.cons (o := { dst := some 74, op := Op.call { callee := Callee.value (Operand.func 21), args := #[Operand.tmp 70, Operand.tmp 73], argTypes := #[39, 39] }, type := 4, pos := "law.go:61", after := #[{ on := 13, ground := Ground.data }, { on := 16, ground := Ground.data }, { on := 16, ground := Ground.chain }, { on := 10, ground := Ground.guard }], guard := some (10, true) }) rfl (fun K hK => ?_) AllReadyH.nil)
    go_simp
    refine (SameBits_yes _ _ (runL n T T.length) _ (by rw [runL_len]; have := TL.out; omega) (fun q hq => by obtain ⟨j, hj⟩ := List.mem_iff_getElem?.1 hq; have hjl := (List.getElem?_eq_some_iff.1 hj).1; rw [runL_len] at hjl; rw [runL_at hjl] at hj; obtain rfl := Option.some.inj hj; rw [show (bitsAt n T j).length = n.props.length from prB_len _ _]; exact PL.out) ZC ZD).mono ?_
    rintro e z6 ⟨rfl, hg⟩
    have Gz6 := Lib.hid (show Gr w8 z6 from Gr.trans Gz5.out hg)
    clear hg
    refine hK.out _ _ (KQ.out _ Gz6.out) (fun hHeld => ?_)
    clear hK K
    try simp only [Act.put, List.setIfInBounds_toArray, List.set_cons_zero, List.set_cons_succ]
    refine wpAnyH_take (i := 18) (oi := { dst := some 75, op := Op.pick (Operand.tmp 67) (Operand.tmp 74) (Operand.const (Value.bool false)), type := 4, pos := "law.go:61", after := #[{ on := 10, ground := Ground.data }, { on := 17, ground := Ground.data }], guard := none }) (v := ?_) rfl (by kernel_rfl) (by kernel_rfl) (by kernel_rfl) (fun _ _ _ h => h) (Or.inl ⟨by rfl, ?_⟩) hHeld ?_
    case refine_2 => (intro w hSw; (try dsimp only at hSw); go_simp; try (with_reducible rfl))
    try simp only [Act.put, List.setIfInBounds_toArray, List.set_cons_zero, List.set_cons_succ]
    refine wpAnyH_take (i := 19) (oi := { dst := some 76, op := Op.move (Operand.tmp 75), type := 4, pos := "law.go:61", after := #[{ on := 18, ground := Ground.data }, { on := 17, ground := Ground.chain }], guard := none }) (v := ?_) rfl (by kernel_rfl) (by kernel_rfl) (by kernel_rfl) (fun _ _ _ h => h) (Or.inl ⟨by rfl, ?_⟩) hHeld ?_
    case refine_2 => (intro w hSw; (try dsimp only at hSw); go_simp; try (with_reducible rfl))
    try simp only [Act.put, List.setIfInBounds_toArray, List.set_cons_zero, List.set_cons_succ]
    refine wpAnyH_take (i := 20) (oi := { dst := some 77, op := Op.move (Operand.tmp 11), type := 3, pos := "law.go:61", after := #[{ on := 19, ground := Ground.guard }], guard := some (19, true) }) (v := ?_) rfl (by kernel_rfl) (by kernel_rfl) (by kernel_rfl) (fun _ _ _ h => h) (Or.inl ⟨by rfl, ?_⟩) hHeld ?_
    case refine_2 => (intro w hSw; (try dsimp only at hSw); go_simp; try (with_reducible rfl))
    try simp only [Act.put, List.setIfInBounds_toArray, List.set_cons_zero, List.set_cons_succ]
    refine wpAnyH_take (i := 21) (oi := { dst := some 78, op := Op.move (Operand.tmp 13), type := 3, pos := "law.go:61", after := #[{ on := 19, ground := Ground.guard }], guard := some (19, true) }) (v := ?_) rfl (by kernel_rfl) (by kernel_rfl) (by kernel_rfl) (fun _ _ _ h => h) (Or.inl ⟨by rfl, ?_⟩) hHeld ?_
    case refine_2 => (intro w hSw; (try dsimp only at hSw); go_simp; try (with_reducible rfl))
    try simp only [Act.put, List.setIfInBounds_toArray, List.set_cons_zero, List.set_cons_succ]
    refine wpAnyH_take (i := 22) (oi := { dst := some 79, op := Op.binOp BinOp.eql 3 (Operand.tmp 77) (Operand.tmp 78) 3, type := 4, pos := "law.go:61", after := #[{ on := 20, ground := Ground.data }, { on := 21, ground := Ground.data }, { on := 19, ground := Ground.guard }], guard := some (19, true) }) (v := ?_) rfl (by kernel_rfl) (by kernel_rfl) (by kernel_rfl) (fun _ _ _ h => h) (Or.inl ⟨by rfl, ?_⟩) hHeld ?_
    case refine_2 => (intro w hSw; (try dsimp only at hSw); go_simp; try (with_reducible rfl))
    try simp only [Act.put, List.setIfInBounds_toArray, List.set_cons_zero, List.set_cons_succ]
    refine wpAnyH_take (i := 23) (oi := { dst := some 80, op := Op.pick (Operand.tmp 76) (Operand.tmp 79) (Operand.const (Value.bool false)), type := 4, pos := "law.go:61", after := #[{ on := 19, ground := Ground.data }, { on := 22, ground := Ground.data }], guard := none }) (v := ?_) rfl (by kernel_rfl) (by kernel_rfl) (by kernel_rfl) (fun _ _ _ h => h) (Or.inl ⟨by rfl, ?_⟩) hHeld ?_
    case refine_2 => (intro w hSw; (try dsimp only at hSw); go_simp; try (with_reducible rfl))
    try simp only [Act.put, List.setIfInBounds_toArray, List.set_cons_zero, List.set_cons_succ]
    refine wpAnyH_take (i := 24) (oi := { dst := some 81, op := Op.move (Operand.tmp 80), type := 4, pos := "law.go:61", after := #[{ on := 23, ground := Ground.data }, { on := 19, ground := Ground.chain }], guard := none }) (v := ?_) rfl (by kernel_rfl) (by kernel_rfl) (by kernel_rfl) (fun _ _ _ h => h) (Or.inl ⟨by rfl, ?_⟩) hHeld ?_
    case refine_2 => (intro w hSw; (try dsimp only at hSw); go_simp; try (with_reducible rfl))
    try simp only [Act.put, List.setIfInBounds_toArray, List.set_cons_zero, List.set_cons_succ]
    refine wpAnyH_take (i := 25) (oi := { dst := some 82, op := Op.move (Operand.tmp 12), type := 4, pos := "law.go:61", after := #[{ on := 24, ground := Ground.guard }], guard := some (24, true) }) (v := ?_) rfl (by kernel_rfl) (by kernel_rfl) (by kernel_rfl) (fun _ _ _ h => h) (Or.inl ⟨by rfl, ?_⟩) hHeld ?_
    case refine_2 => (intro w hSw; (try dsimp only at hSw); go_simp; try (with_reducible rfl))
    try simp only [Act.put, List.setIfInBounds_toArray, List.set_cons_zero, List.set_cons_succ]
    refine wpAnyH_take (i := 26) (oi := { dst := some 83, op := Op.move (Operand.tmp 14), type := 4, pos := "law.go:61", after := #[{ on := 24, ground := Ground.guard }], guard := some (24, true) }) (v := ?_) rfl (by kernel_rfl) (by kernel_rfl) (by kernel_rfl) (fun _ _ _ h => h) (Or.inl ⟨by rfl, ?_⟩) hHeld ?_
    case refine_2 => (intro w hSw; (try dsimp only at hSw); go_simp; try (with_reducible rfl))
    try simp only [Act.put, List.setIfInBounds_toArray, List.set_cons_zero, List.set_cons_succ]
    refine wpAnyH_take (i := 27) (oi := { dst := some 84, op := Op.binOp BinOp.eql 4 (Operand.tmp 82) (Operand.tmp 83) 4, type := 4, pos := "law.go:61", after := #[{ on := 25, ground := Ground.data }, { on := 26, ground := Ground.data }, { on := 24, ground := Ground.guard }], guard := some (24, true) }) (v := ?_) rfl (by kernel_rfl) (by kernel_rfl) (by kernel_rfl) (fun _ _ _ h => h) (Or.inl ⟨by rfl, ?_⟩) hHeld ?_
    case refine_2 => (intro w hSw; (try dsimp only at hSw); go_simp; try (with_reducible rfl))
    try simp only [Act.put, List.setIfInBounds_toArray, List.set_cons_zero, List.set_cons_succ]
    refine wpAnyH_take (i := 28) (oi := { dst := some 85, op := Op.pick (Operand.tmp 81) (Operand.tmp 84) (Operand.const (Value.bool false)), type := 4, pos := "law.go:61", after := #[{ on := 24, ground := Ground.data }, { on := 27, ground := Ground.data }], guard := none }) (v := ?_) rfl (by kernel_rfl) (by kernel_rfl) (by kernel_rfl) (fun _ _ _ h => h) (Or.inl ⟨by rfl, ?_⟩) hHeld ?_
    case refine_2 => (intro w hSw; (try dsimp only at hSw); go_simp; try (with_reducible rfl))
    try simp only [Act.put, List.setIfInBounds_toArray, List.set_cons_zero, List.set_cons_succ]
    refine wpAnyH_take (i := 29) (oi := { dst := some 8, op := Op.assign (Operand.tmp 85), type := 4, pos := "law.go:61", after := #[{ on := 28, ground := Ground.data }, { on := 24, ground := Ground.chain }, { on := 0, ground := Ground.phase }, { on := 1, ground := Ground.phase }, { on := 2, ground := Ground.phase }, { on := 3, ground := Ground.phase }, { on := 4, ground := Ground.phase }, { on := 5, ground := Ground.phase }, { on := 6, ground := Ground.phase }, { on := 7, ground := Ground.phase }, { on := 8, ground := Ground.phase }, { on := 9, ground := Ground.phase }, { on := 10, ground := Ground.phase }, { on := 11, ground := Ground.phase }, { on := 12, ground := Ground.phase }, { on := 13, ground := Ground.phase }, { on := 14, ground := Ground.phase }, { on := 15, ground := Ground.phase }, { on := 16, ground := Ground.phase }, { on := 17, ground := Ground.phase }, { on := 18, ground := Ground.phase }, { on := 19, ground := Ground.phase }, { on := 20, ground := Ground.phase }, { on := 21, ground := Ground.phase }, { on := 22, ground := Ground.phase }, { on := 23, ground := Ground.phase }, { on := 24, ground := Ground.phase }, { on := 25, ground := Ground.phase }, { on := 26, ground := Ground.phase }, { on := 27, ground := Ground.phase }, { on := 28, ground := Ground.phase }], guard := none }) (v := ?_) rfl (by kernel_rfl) (by kernel_rfl) (by kernel_rfl) (fun _ _ _ h => h) (Or.inl ⟨by rfl, ?_⟩) hHeld ?_
    case refine_2 => (intro w hSw; (try dsimp only at hSw); go_simp; try (with_reducible rfl))
    try simp only [Act.put, List.setIfInBounds_toArray, List.set_cons_zero, List.set_cons_succ]
    refine wpAnyH_done (by kernel_rfl) ?_ _
    go_wp2_with fail
    go_ret
    exact ⟨rfl, Gr.trans BW.out (Gr.trans G8.out Gz6.out)⟩
end Go.Proofs.Ytmnblcnhbafcpaa
