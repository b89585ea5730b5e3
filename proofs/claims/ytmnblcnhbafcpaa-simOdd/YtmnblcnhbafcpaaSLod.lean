/-
  SimOdd, WALKED.
-/
import Derived.Test.YtmnblcnhbafcpaaM01simOdd
import Derived.Test.YtmnblcnhbafcpaaJ33
import Derived.Deep.CutRange
namespace Go.Proofs.Ytmnblcnhbafcpaa
open Go.RowKit
open NetM
open VecM

set_option maxRecDepth 100000 in
set_option maxHeartbeats 16000000 in
theorem odd_walk (n : Nt) (v : Value) (A : Option Addr) (cA : Nat) (l : List (List Nat)) (p p2 : Nat) (w : World) (hn : Hid (NtAt w n v)) (hl : l.length ≤ maxLen) (hL : Hid (RawP w A l)) (hp8 : p < 256) (hp9 : p2 < 256) :
    Calls Try.prog 8 #[v, .slice A l.length cA, .int .u8 p, .int .u8 p2] w fun e w' => e = .returned (.bool true) ∧ Gr w w' := by
  obtain ⟨i4, hi, hz0, hz1, hz2⟩ := info_parts info42
  have HI4 := Lib.hid (And.intro hi (And.intro hz0 (And.intro hz1 hz2)))
  clear hi hz0 hz1 hz2
  obtain ⟨i0, hi, hz0, hz1, hz2⟩ := info_parts info3
  have HI := Lib.hid (And.intro hi (And.intro hz0 (And.intro hz1 hz2)))
  clear hi hz0 hz1 hz2
  have HV := Lib.hid (fun (u : World) (hu : Gr w u) => hn.out.gr hu)
  obtain ⟨A1, A2, A3, A4, A5, c1, c2, c3, c4, c5, rfl, hc1, h1, h2, h3, h4, h5⟩ := hn.out
  have H1 := Lib.hid h1
  have H2 := Lib.hid h2
  have H3 := Lib.hid h3
  have H4 := Lib.hid h4
  have H5 := Lib.hid h5
  clear h1 h2 h3 h4 h5
  obtain ⟨W0, eW, BW, KEEP⟩ : ∃ W0, w.alloc (.cells (bxC n A1 A2 A3 A4 A5 c1 c2 c3 c4 c5) 27) = W0 ∧ Hid (Gr w W0) ∧ Hid (∀ u, Gr W0 u → BxAt u w.heap.size n A1 A2 A3 A4 A5 c1 c2 c3 c4 c5) :=
    ⟨_, rfl, Lib.hid (bel_alloc _ _), Lib.hid fun u hu => bx_gr (bx_new w n A1 A2 A3 A4 A5 c1 c2 c3 c4 c5) (by simp) hu⟩
  obtain ⟨e0, e1, e2, e3, e4⟩ := KEEP.out W0 (Gr.refl _)
  have H0 := Lib.hid Shead_any
  obtain ⟨gb, hgb⟩ : ∃ gb : Bool, gb = true ↔ NGreat n := by classical exact ⟨decide _, decide_eq_true_iff⟩
  obtain ⟨rb, hrb⟩ : ∃ rb : Bool, rb = true ↔ NRight n := by classical exact ⟨decide _, decide_eq_true_iff⟩
  have GC := Lib.hid (fun (u : World) (hu : Gr w u) => Great_any n _ u (Lib.hid (HV.out u hu)) gb (Lib.hid hgb))
  go_enter Try.func8, Try.ntmps8
  go_wp2_with fail
  try rw [eW]
  clear eW
  refine (H0.out _).mono ?_
  rintro e w1 ⟨rfl, hg⟩
  have G1 := Lib.hid hg
  clear hg e0 e1 e2 e3 e4
  obtain ⟨e0, e1, e2, e3, e4⟩ := KEEP.out _ G1.out
  go_wp2_with fail
  refine (GC.out _ (Gr.trans BW.out G1.out)).mono ?_
  rintro e w2 ⟨rfl, hg⟩
  have G2 := Lib.hid (Gr.trans G1.out hg)
  clear hg e0 e1 e2 e3 e4
  obtain ⟨e0, e1, e2, e3, e4⟩ := KEEP.out _ G2.out
  cases gb with
  | true =>
    go_wp2_with fail
    all_goals
      go_ret
      exact ⟨rfl, Gr.trans BW.out G2.out⟩
  | false =>
  have hz := sz_of (fun h => by have := hgb.2 h; simp at this)
  have hs : Sz n := by unfold Sz; omega
  have RC := Lib.hid (fun (u : World) (hu : Gr w u) => RRight_any n _ u hs (Lib.hid (HV.out u hu)) rb (Lib.hid hrb))
  clear hgb GC
  go_wp2_with fail
  refine (RC.out _ (Gr.trans BW.out G2.out)).mono ?_
  rintro e w3 ⟨rfl, hg⟩
  have G3 := Lib.hid (Gr.trans G2.out hg)
  clear RC
  clear hg e0 e1 e2 e3 e4
  obtain ⟨e0, e1, e2, e3, e4⟩ := KEEP.out _ G3.out
  cases rb with
  | false =>
    go_wp2_with fail
    all_goals
      go_ret
      exact ⟨rfl, Gr.trans BW.out G3.out⟩
  | true =>
  have hR := hrb.1 rfl
  clear hrb
  have hw := wok_of hR.1
  have hI := hR.2.1.2
  have TR := Lib.hid (Trace_any n _ A cA l w3 hs (Lib.hid (HV.out _ (Gr.trans BW.out G3.out))) hw hI hl (Lib.hid (hL.out.gr (Gr.trans BW.out G3.out))))
  go_wp2_with fail
  refine TR.out.mono ?_
  rintro e w4 ⟨vt, rfl, ht4, hg⟩
  have G4 := Lib.hid (Gr.trans G3.out hg)
  obtain ⟨t, htq⟩ : ∃ t, trOf n l = t := ⟨_, rfl⟩
  have hto : TrOk n t := by rw [← htq]; exact trOf_ok n l
  have htl : t.length ≤ 64 := by rw [← htq]; exact trOf_len n l
  rw [htq] at ht4
  have HT := Lib.hid ht4
  obtain ⟨At, ct, rfl, hct, hrt⟩ := ht4
  rw [List.length_map] at hct HT ⊢
  have HTP := Lib.hid hrt
  clear hrt TR htq
  clear hg e0 e1 e2 e3 e4
  obtain ⟨e0, e1, e2, e3, e4⟩ := KEEP.out _ G4.out
  have HV4 := Lib.hid (fun (u : World) (hu : Gr w4 u) => HV.out u (Gr.trans BW.out (Gr.trans G4.out hu)))
  have ST := Lib.hid (fun (u : World) (hu : Gr w4 u) => SStates_any n _ _ t u hs (Lib.hid (HV4.out u hu)) hR hto htl (Lib.hid (HT.out.gr hu)))
  have RU := Lib.hid (fun (u : World) (hu : Gr w4 u) => SRun_any n _ _ t u hs (Lib.hid (HV4.out u hu)) hR hto htl (Lib.hid (HT.out.gr hu)))
  have HH := Lib.hid (fun (pi : Int) (u : World) (hu : Gr w4 u) => SHit_any n _ _ pi t u hs (Lib.hid (HV4.out u hu)) hR hto htl (Lib.hid (HT.out.gr hu)))
  have U4 := Lib.hid (Gr.refl w4)
  clear ST RU HH
  by_cases h0 : t.length = 0
  case pos =>
    have q0 : ((t.length : Int) == 0) = true := by simp [h0]
    clear h0
    go_wp2_with fail
    all_goals
      go_ret
      exact ⟨rfl, Gr.trans BW.out G4.out⟩
  case neg =>
  have q0 : ((t.length : Int) == 0) = false := beq_eq_false_iff_ne.2 (by omega)
  have q1 : ¬ (t.length : Int) = 0 := by omega
  have hz := hs
  unfold Sz at hz
  have hrow : ∀ r ∈ t.map ofN, r.length ≤ maxLen := fun r hr => by
    obtain ⟨r0, h1, rfl⟩ := List.mem_map.1 hr
    rw [ofN_len, (hto r0 h1).1]
    unfold maxLen
    omega
  have RI := Lib.hid (fun (rows : List (List Int)) (tv : Value) (R : Bool) (u : World) (hu : Gr w4 u) (hrl : rows.length ≤ maxLen) (hlen : ∀ r ∈ rows, r.length ≤ maxLen) (h : RwsR u tv rows) (hR2 : R = true ↔ TrRight n rows) => Tright_any n _ tv rows u hs (Lib.hid (HV4.out u hu)) hw hI hrl (Lib.hid hlen) (Lib.hid h) R (Lib.hid hR2))
  have R1 := Lib.hid (RI.out (t.map ofN) _ true w4 (Gr.refl _) (by rw [List.length_map]; unfold maxLen; omega) hrow HT.out ⟨fun _ => tr_ok htl hto, fun _ => rfl⟩)
  obtain ⟨k, hk⟩ : ∃ k, k = p % t.length := ⟨_, rfl⟩
  have hkl : k < t.length := by rw [hk]; exact Nat.mod_lt _ (by omega)
  have htm : Int.tmod (p : Int) (t.length : Int) = (k : Int) := by rw [Int.tmod_eq_emod_of_nonneg (by omega), ← Int.natCast_emod, ← hk]
  have r0 := wrap_int (y := (p : Int)) (by omega) (by omega)
  have r1 := wrap_int (y := (k : Int)) (by omega) (by omega)
  have hr : t[k]? = some t[k] := List.getElem?_eq_getElem hkl
  generalize t[k] = r at hr
  obtain ⟨hrl, hrk⟩ := hto r (List.mem_of_getElem? hr)
  have HTR := Lib.hid hr
  have HRK := Lib.hid hrk
  obtain ⟨usT, hT⟩ := rc_rws HTP.out
  have TC := Lib.hid (fun (u : World) (hu : Gr w4 u) => hT.gr hu)
  have HCT := Lib.hid hct
  obtain ⟨bt, ot, X3, x3, rfl, hbt, s3, p3⟩ := rws_get HTP.out (show (t.map ofN)[k]? = some (ofN r) from by rw [List.getElem?_map, hr]; rfl)
  rw [ofN_len, hrl] at s3 p3
  have S3 := Lib.hid (And.intro hbt s3)
  have P3 := Lib.hid p3
  have HIX := Lib.hid (fun (u : World) (hu : Gr w4 u) => (show Ints u u.heap.size X3 (ofN r) from by
    obtain ⟨A', c', e, -, h⟩ := p3.gr hu
    simp only [Value.slice.injEq] at e
    obtain ⟨rfl, -, rfl⟩ := e
    exact h))
  clear hk hT p3 s3 hr hrk hbt
  go_wp2_with fail
  refine R1.out.mono ?_
  rintro e w5 ⟨rfl, hg⟩
  have G5 := Lib.hid (Gr.trans G4.out hg)
  have U5 := Lib.hid hg
  clear R1
  clear hg e0 e1 e2 e3 e4
  obtain ⟨e0, e1, e2, e3, e4⟩ := KEEP.out _ G5.out
  have HX1 := Lib.hid (show w4.heap.size ≤ w5.heap.size from U5.out.size)
  go_upto_region 9 with (at_builtin; refine wpList_app_rws rfl _ _ rfl HI4.out.1 HI4.out.2.1 HI4.out.2.2.1 HI4.out.2.2.2 w5 _ (.slice (some ⟨w5.heap.size, 0, none⟩) 0 0) [] [] rfl (rws_empty w5) (some ⟨bt, ot, none⟩) t.length ct rfl usT (t.map ofN) (by rw [List.length_map]) 0 w4.heap.size (TC.out _ (Gr.trans U5.out (bel_alloc w5 _))) (fun g hg => .inr (by have e : w5.heap.size = g := (by simpa [Value.ownBlock] using hg); rw [← e]; exact HX1.out)) (by simp only [List.length_nil]; omega) ?_; intro v1 w6 hU1 _ _; simp only [List.nil_append] at hU1; have HU1 := Lib.hid hU1; obtain ⟨gu, cu, rfl, hgb, hgl⟩ := hU1.2.1.form (by rw [List.length_map]; omega); rw [List.length_map] at HU1 ⊢; clear hU1)
  have HGL := Lib.hid (And.intro hgb hgl)
  obtain ⟨uk, huk⟩ : ∃ uk, usT[k]? = some uk := ⟨_, List.getElem?_eq_getElem (by rw [HU1.out.2.2.1, List.length_map]; exact hkl)⟩
  have HUK := Lib.hid huk
  clear huk
  have U6 := Lib.hid (Gr.trans U5.out HU1.out.1)
  have G6 := Lib.hid (Gr.trans G5.out HU1.out.1)
  clear e0 e1 e2 e3 e4 hgb hgl r0 r1 htm
  have s3 := cell_up U6.out S3.out.1 S3.out.2
  have s3a := cell_up (Gr.trans U6.out (bel_alloc w6 (.cells #[] 3))) S3.out.1 S3.out.2
  have k0 : (0 : Int) ≤ (k : Int) := by omega
  have k1 : (k : Int) < (t.length : Int) := by omega
  go_upto_region 10 with (at_builtin; first | (refine app_ints _ rfl _ _ rfl w6.heap.size HI.out.1 HI.out.2.1 HI.out.2.2.1 HI.out.2.2.2 (.slice (some ⟨w6.heap.size, 0, none⟩) 0 0) 0 [] rfl (own_empty w6 3 1 _ (Nat.le_refl _)) X3 n.ins.length x3 _ (ofN r) rfl (by rw [ofN_len]; exact hrl) (HIX.out _ (Gr.trans U6.out (bel_alloc w6 _))) (by omega) (bel_alloc w6 _).size ?_; intro v2 w7 hown hb7; rw [Nat.zero_add, List.nil_append] at hown; have HO2 := Lib.hid hown; have B7 := Lib.hid (show Gr w6 w7 from Below.trans (bel_alloc w6 (.cells #[] 3)) hb7); clear hown hb7) | (refine app_ints _ rfl _ _ rfl w6.heap.size HI.out.1 HI.out.2.1 HI.out.2.2.1 HI.out.2.2.2 v2 n.ins.length _ rfl (HO2.out.alloc _) (some ⟨w7.heap.size, 0, none⟩) 1 1 (w7.alloc (.cells #[.int .i64 0] 3)).heap.size [0] rfl rfl (show Ints _ _ _ [0] from by obtain ⟨A', c', e, -, h⟩ := int1 w7 0; simp only [Value.slice.injEq] at e; obtain ⟨rfl, -, rfl⟩ := e; exact h) (by omega) (Nat.le_trans B7.out.size (bel_alloc w7 _).size) ?_; intro v3 w8 hown hb8; obtain ⟨g3, cc3, rfl, hg3, -⟩ := hown.form (by omega); clear hg3; have HO3 := Lib.hid (show w8.ownsRow w6.heap.size 3 1 (.slice (some ⟨g3, 0, none⟩) (n.ins.length + 1) cc3) (n.ins.length + 1) (icells (ofN r ++ [0])) from by rw [icells_snoc]; exact hown); have B8 := Lib.hid (show Gr w6 w8 from Below.trans (Below.trans B7.out (Below.mono (bel_alloc w7 (.cells #[.int .i64 0] 3)) B7.out.size)) hb8); clear hown hb8; have HU3 := Lib.hid (HU1.out.gr B8.out); have OW3 := Lib.hid (show w8.ownsRow w5.heap.size 42 1 (.slice (some ⟨gu, 0, none⟩) t.length cu) t.length usT from by have h := HU3.out.2.1; rwa [List.length_map] at h); have hf0 := OW3.out.frozenAt k; have hd0 := OW3.out.cellAt k (by omega); rw [HUK.out] at hd0))
  have HU1L := Lib.hid (show usT.length = t.length from by rw [HU3.out.2.2.1, List.length_map])
  have HS9 := rws_set (k := k) HU3.out (by rw [List.length_map]) (by rw [List.length_map]; exact hkl) (ints_of_own HO3.out (by rw [List.length_append, ofN_len, hrl]; try rfl)) (fun _ b hb => by have h1 := (HO3.out.lt b hb).1; have h2 := HGL.out.2; omega)
  obtain ⟨W9, eW9, HU9⟩ : ∃ W9, w8.setCell ⟨gu, k, none⟩ (.slice (some ⟨g3, 0, none⟩) (n.ins.length + 1) cc3) = W9 ∧ Hid (RwsU w5 (.slice (some ⟨gu, 0, none⟩) t.length cu) (usT.set k (.slice (some ⟨g3, 0, none⟩) (n.ins.length + 1) cc3)) ((t.map ofN).set k (ofN r ++ [0])) W9) := ⟨_, rfl, Lib.hid HS9⟩
  rw [eW9]
  clear eW9 HS9 hf0 hd0 s3 s3a HO3 HO2 B7 B8 HU3 HU1
  have U9 := Lib.hid (Gr.trans U5.out HU9.out.1)
  have G9 := Lib.hid (Gr.trans G5.out HU9.out.1)
  have hln : r.length ≤ maxLen := by unfold maxLen; omega
  have RU9 := Lib.hid (fun (u : World) (hu : Gr W9 u) => RI.out _ _ false u (Gr.trans U9.out hu) (by rw [List.length_set, List.length_map]; unfold maxLen; omega) (set_len hrow (by rw [List.length_append, ofN_len, List.length_singleton]; unfold maxLen; omega)) ((rws_own HU9.out).gr hu) ⟨fun h => by simp at h, fun h => absurd h (odd_long (by rw [List.length_map]; exact hkl) hrl 0)⟩)
  have HX3 := Lib.hid (show ∀ b, (Value.slice X3 n.ins.length x3).ownBlock = some b → ofN r ≠ [] → b < W9.heap.size from fun b hb hne => Nat.lt_of_lt_of_le (intr_lt P3.out hne b hb) U9.out.size)
  go_wp2_with fail
  go_loopg [13, 14] 65 (fun g o y wr => ∃ (j : Nat) (us : List Value), j + g = 65 ∧ y = .int .i64 j ∧ Hid (RwsU W9 o us (List.replicate j (ofN r)) wr))
  case atStart => exact ⟨0, [], by omega, rfl, Lib.hid (rws_nil W9)⟩
  case round =>
    obtain ⟨j, us, hjg, rfl, HR⟩ := hrel
    have HJ := Lib.hid hjg
    have hjl : j ≤ 65 := by omega
    clear hjg
    have s3 := cell_up (Gr.trans U9.out HR.out.1) S3.out.1 S3.out.2
    by_cases hlt : j < 65
    case pos =>
      have j1 : (j : Int) < 65 := by omega
      have HRN := Lib.hid (show (List.replicate j (ofN r)).length = j from List.length_replicate)
      have HA := Lib.hid (HR.out.gr (bel_alloc wr (.cells #[.slice X3 n.ins.length x3] 42)))
      have HXI := Lib.hid (P3.out.gr (Gr.trans U9.out (Gr.trans HR.out.1 (bel_alloc wr (.cells #[.slice X3 n.ins.length x3] 42)))))
      have HFR := Lib.hid (HR.out.2.1.lt)
      go_wp2_with (at_builtin; refine wpList_append_lies _ rfl _ _ 28 rfl W9.heap.size 42 i4 (.slice none 0 0) 1 24 Try.underlying28 HI4.out.1 HI4.out.2.1 HI4.out.2.2.1 HI4.out.2.2.2 rfl (by decide) _ _ us rfl HA.out.2.1 ⟨wr.heap.size, 0, none⟩ 1 1 [.slice X3 n.ins.length x3] rfl rfl (World.news_of_block (heap_new' wr _)) (fun u hu => by obtain rfl := List.mem_singleton.1 hu; rfl) (by decide) (by rw [HRN.out]; unfold maxLen; omega) (by rw [HRN.out]; omega) HA.out.1.size _ rfl ?_; intro gz cz w7 hown hgrow hor hlt3; have HN := Lib.hid (rws_step HA.out HXI.out rfl (fun hne b hb e => by have h1 := HX3.out b hb hne; have h2 := (HFR.out b e.symm).1; omega) hgrow hor hown); clear hown hgrow hor hlt3)
      go_roundg (gk - 1)
      case measure => have := HJ.out; omega
      case rel =>
        refine ⟨j + 1, us ++ [.slice X3 n.ins.length x3], by have := HJ.out; omega, by go_num, Lib.hid ?_⟩
        have h9 := HN.out
        rw [HRN.out] at h9
        rw [List.replicate_succ']
        exact h9
    case neg =>
    have hj65 : j = 65 := by omega
    subst hj65
    have j1 : ¬ ((65 : Nat) : Int) < 65 := by omega
    rename_i o
    have GR := Lib.hid HR.out.1
    obtain ⟨gl, cl, rfl, -, -⟩ := HR.out.2.1.form (by rw [List.length_replicate]; decide)
    have RL := Lib.hid (fun (u : World) (hu : Gr wr u) => RI.out (List.replicate 65 (ofN r)) _ false u (Gr.trans U9.out (Gr.trans GR.out hu)) (by rw [List.length_replicate]; unfold maxLen; omega) (fun r' hr' => by rw [(List.mem_replicate.1 hr').2, ofN_len]; exact hln) ((rws_own HR.out).gr hu) ⟨fun h => by simp at h, fun h => absurd h (odd_many _)⟩)
    rw [List.length_replicate] at RL ⊢
    clear HR HJ hjl hlt s3
    obtain ⟨e0, e1, e2, e3, e4⟩ := KEEP.out _ (Gr.trans G9.out GR.out)
    go_wp2_with fail
    refine (RU9.out _ GR.out).mono ?_
    rintro e wA ⟨rfl, hg⟩
    have GA0 := Lib.hid hg
    have GA := Lib.hid (Gr.trans GR.out hg)
    clear e0 e1 e2 e3 e4 RU9
    obtain ⟨e0, e1, e2, e3, e4⟩ := KEEP.out _ (Gr.trans G9.out GA.out)
    go_wp2_with fail
    refine (RL.out _ GA0.out).mono ?_
    rintro e wB ⟨rfl, hg⟩
    have GB := Lib.hid (Gr.trans GA.out hg)
    clear e0 e1 e2 e3 e4 RL GA GA0 hg
    obtain ⟨e0, e1, e2, e3, e4⟩ := KEEP.out _ (Gr.trans G9.out GB.out)
    by_cases hi0 : n.ins.length = 0
    case pos =>
      have m0 : ((n.ins.length : Int) == 0) = true := by simp [hi0]
      clear hi0
      go_wp2_with fail
      go_ret
      exact ⟨rfl, Gr.trans BW.out (Gr.trans G9.out GB.out)⟩
    case neg =>
    have m0 : ((n.ins.length : Int) == 0) = false := beq_eq_false_iff_ne.2 (by omega)
    have m1 : ¬ (n.ins.length : Int) = 0 := by omega
    have s3 := cell_up (Gr.trans U9.out GB.out) S3.out.1 S3.out.2
    obtain ⟨j, hj⟩ : ∃ j, j = p2 % n.ins.length := ⟨_, rfl⟩
    have hjl : j < n.ins.length := by rw [hj]; exact Nat.mod_lt _ (by omega)
    have htj : Int.tmod (p2 : Int) (n.ins.length : Int) = (j : Int) := by rw [Int.tmod_eq_emod_of_nonneg (by omega), ← Int.natCast_emod, ← hj]
    have m2 := wrap_int (y := (p2 : Int)) (by omega) (by omega)
    have m3 := wrap_int (y := (j : Int)) (by omega) (by omega)
    clear hj
    have s3a := cell_up (Gr.trans U9.out (Gr.trans GB.out (bel_alloc wB (.cells #[] 3)))) S3.out.1 S3.out.2
    have HRL := Lib.hid hrl
    go_upto_region 20 with (at_builtin; refine app_ints _ rfl _ _ rfl wB.heap.size HI.out.1 HI.out.2.1 HI.out.2.2.1 HI.out.2.2.2 (.slice (some ⟨wB.heap.size, 0, none⟩) 0 0) 0 [] rfl (own_empty wB 3 1 _ (Nat.le_refl _)) X3 n.ins.length x3 _ (ofN r) rfl (by rw [ofN_len, HRL.out]) (HIX.out _ (Gr.trans U9.out (Gr.trans GB.out (bel_alloc wB _)))) (by omega) (bel_alloc wB _).size ?_; intro v4 wC hown hbC; rw [Nat.zero_add, List.nil_append] at hown; have HO4 := Lib.hid hown; have BC := Lib.hid (show Gr wB wC from Below.trans (bel_alloc wB (.cells #[] 3)) hbC); obtain ⟨gr, cr, rfl, hgr, -⟩ := hown.form (by omega); clear hown hbC)
    have GC := Lib.hid (Gr.trans GB.out BC.out)
    clear e0 e1 e2 e3 e4 s3 s3a
    obtain ⟨e0, e1, e2, e3, e4⟩ := KEEP.out _ (Gr.trans G9.out GC.out)
    have hjr : j < r.length := by omega
    have hrj : r[j]? = some r[j] := List.getElem?_eq_getElem hjr
    generalize r[j] = y at hrj
    have hsx : n.ins[j]? = some n.ins[j] := List.getElem?_eq_getElem hjl
    generalize n.ins[j] = x at hsx
    have hy2 := HRK.out j x hsx
    rw [getN_nat, hrj, Option.getD_some] at hy2
    obtain ⟨kn, yn, hkn, hyn, -⟩ := places_mem (op := 21) (l := n.nodes) (p := x.node) (by rw [← hI]; exact List.mem_map.2 ⟨x, List.mem_of_getElem? hsx, rfl⟩)
    have hknl : kn < n.nodes.length := (List.getElem?_eq_some_iff.1 hyn).1
    obtain ⟨hyw1, hyw2⟩ := hw yn (List.mem_of_getElem? hyn)
    have hww : widA n.nodes x.node = yn.w := by rw [hkn]; exact widA_some hyn
    obtain ⟨mm, hmm⟩ : ∃ m : Nat, yn.w = m := ⟨yn.w.toNat, by omega⟩
    have HBIG := Lib.hid (show (widA n.nodes x.node).toNat = mm from by rw [hww, hmm]; rfl)
    rw [HBIG.out] at hy2
    have h16 : 2 ^ mm ≤ 65536 := Nat.pow_le_pow_right (n := 2) (by omega) (show mm ≤ 16 by omega)
    have h1m : 1 ≤ 2 ^ mm := Nat.one_le_two_pow
    obtain ⟨qm, hqm⟩ : ∃ q, 2 ^ mm - 1 = q := ⟨_, rfl⟩
    have MK := Lib.hid (show ∀ u, Calls Try.prog 27 #[.int .i64 yn.w] u fun e w' => e = .returned (.int .i64 (qm : Nat)) ∧ u = w' from fun u => by rw [hmm]; exact rmask_is (k := mm) (by omega) hqm u)
    obtain ⟨bb, ob, rfl, hbb, d0, d1⟩ := (H2.out.gr (Gr.trans BW.out (Gr.trans G9.out GB.out))) j x hsx
    obtain ⟨bn, on, rfl, hbn, y0, y1, y2, y3, y4, y5, y6⟩ := (H1.out.gr (Gr.trans BW.out (Gr.trans G9.out GB.out))) kn yn hyn
    rw [hkn] at d1
    have D1 := Lib.hid (And.intro hbb d1)
    have Y1 := Lib.hid (And.intro hbn y1)
    have KP := Lib.hid (fun (u : World) (hu : Gr wB u) => (show (fun u : World => BxAt u w.heap.size n (some ⟨bn, on, none⟩) (some ⟨bb, ob, none⟩) A3 A4 A5 c1 c2 c3 c4 c5 ∧ u.cell? ⟨bb, ob + j * 2 + 1, none⟩ = some (.int .i64 (kn : Nat)) ∧ u.cell? ⟨bn, on + kn * 7 + 1, none⟩ = some (.int .i64 yn.w)) u from ⟨KEEP.out u (Gr.trans G9.out (Gr.trans GB.out hu)), cell_up hu D1.out.1 D1.out.2, cell_up hu Y1.out.1 Y1.out.2⟩))
    have hcj : wC.cell? ⟨gr, j, none⟩ = some (.int .i64 (y : Nat)) := by
      rw [HO4.out.cellAt j (by omega)]
      unfold icells ofN
      rw [List.getElem?_map, List.getElem?_map, hrj]
      rfl
    have hfj := HO4.out.frozenAt j
    obtain ⟨P2, hP2⟩ : ∃ P2, 2 ^ mm = P2 := ⟨_, rfl⟩
    have HP2 := Lib.hid hP2
    rw [hP2] at hy2 h16 h1m hqm
    clear hP2
    have m4 : (0 : Int) ≤ (j : Int) := by omega
    have m5 : (j : Int) < (n.ins.length : Int) := by omega
    have m6 : (0 : Int) ≤ (kn : Int) := by omega
    have m7 : (kn : Int) < (n.nodes.length : Int) := by omega
    have m8 := wrap_int (y := (y : Int) + 1) (by omega) (by omega)
    have m9 : IntKind.i64.wrap ((y : Int) + 1 + (qm : Int)) = (y : Int) + 1 + (qm : Int) := by
      have h := wrap_nat (a := y + 1 + qm) (by omega)
      rwa [show ((y + 1 + qm : Nat) : Int) = (y : Int) + 1 + (qm : Int) from by omega] at h
    have HGR := Lib.hid hgr
    have HSET := Lib.hid (show P2 ≤ y + 1 + qm by omega)
    have HSX := Lib.hid hsx
    have HBT := Lib.hid (show W9.heap.size ≤ gr from Nat.le_trans GB.out.size hgr)
    clear hgr hy2 hsx hkn hyn hww h16 h1m hqm d0 d1 y0 y1 y2 y3 y4 y5 y6 hyw1 hyw2 hmm hbb hbn hrj e0 e1 e2 e3 e4
    have hst := HO4.out.stored j (.int .i64 ((y : Int) + 1 + (qm : Int)))
    have HO5 := Lib.hid (show (wC.setCell ⟨gr, j, none⟩ (.int .i64 ((y : Int) + 1 + (qm : Int)))).ownsRow wB.heap.size 3 1 (.slice (some ⟨gr, 0, none⟩) n.ins.length cr) n.ins.length (icells ((ofN r).set j ((y : Int) + 1 + (qm : Int)))) from by have h := hst.1; unfold icells at h ⊢; rw [← List.map_set] at h; exact h)
    have BD := Lib.hid (show Gr wB (wC.setCell ⟨gr, j, none⟩ (.int .i64 ((y : Int) + 1 + (qm : Int)))) from Below.grown BC.out hst.2 BC.out.size (fun b hb => by have := Option.some.inj hb; have := HGR.out; omega))
    clear hst
    go_upto_region 21 with fail
    clear htj m2 m3
    refine wp_region_held_drew (S := (fun u : World => BxAt u w.heap.size n (some ⟨bn, on, none⟩) (some ⟨bb, ob, none⟩) A3 A4 A5 c1 c2 c3 c4 c5 ∧ u.cell? ⟨bb, ob + j * 2 + 1, none⟩ = some (.int .i64 (kn : Nat)) ∧ u.cell? ⟨bn, on + kn * 7 + 1, none⟩ = some (.int .i64 yn.w))) (by kernel_rfl) (KP.out _ (Gr.trans BC.out (Gr.drew _))) (fun hHeld => ?_)
    refine wpAnyH_take (i := 0) (oi := { dst := some 98, op := Op.move (Operand.tmp 15), type := 42, pos := "law.go:197", after := #[], guard := none }) (v := ?_) rfl (by kernel_rfl) (by kernel_rfl) (by kernel_rfl) (fun _ _ _ h => h) (Or.inl ⟨by rfl, ?_⟩) hHeld ?_
    case refine_2 => (intro w hSw; (try dsimp only at hSw); go_simp; try (with_reducible rfl))
    try simp only [Act.put, List.setIfInBounds_toArray, List.set_cons_zero, List.set_cons_succ]
    refine wpAnyH_take (i := 1) (oi := { dst := some 99, op := Op.move (Operand.tmp 16), type := 3, pos := "law.go:197", after := #[], guard := none }) (v := ?_) rfl (by kernel_rfl) (by kernel_rfl) (by kernel_rfl) (fun _ _ _ h => h) (Or.inl ⟨by rfl, ?_⟩) hHeld ?_
    case refine_2 => (intro w hSw; (try dsimp only at hSw); go_simp; try (with_reducible rfl))
    try simp only [Act.put, List.setIfInBounds_toArray, List.set_cons_zero, List.set_cons_succ]
    refine wpAnyH_take (i := 2) (oi := { dst := some 100, op := Op.move (Operand.tmp 15), type := 42, pos := "law.go:197", after := #[], guard := none }) (v := ?_) rfl (by kernel_rfl) (by kernel_rfl) (by kernel_rfl) (fun _ _ _ h => h) (Or.inl ⟨by rfl, ?_⟩) hHeld ?_
    case refine_2 => (intro w hSw; (try dsimp only at hSw); go_simp; try (with_reducible rfl))
    try simp only [Act.put, List.setIfInBounds_toArray, List.set_cons_zero, List.set_cons_succ]
    refine wpAnyH_take (i := 3) (oi := { dst := some 101, op := Op.move (Operand.tmp 16), type := 3, pos := "law.go:197", after := #[], guard := none }) (v := ?_) rfl (by kernel_rfl) (by kernel_rfl) (by kernel_rfl) (fun _ _ _ h => h) (Or.inl ⟨by rfl, ?_⟩) hHeld ?_
    case refine_2 => (intro w hSw; (try dsimp only at hSw); go_simp; try (with_reducible rfl))
    try simp only [Act.put, List.setIfInBounds_toArray, List.set_cons_zero, List.set_cons_succ]
    refine wpAnyH_take (i := 4) (oi := { dst := some 102, op := Op.indexAddr 42 (Operand.tmp 100) (Operand.tmp 101), type := 0, pos := "law.go:197", after := #[{ on := 2, ground := Ground.data }, { on := 3, ground := Ground.data }], guard := none }) (v := ?_) rfl (by kernel_rfl) (by kernel_rfl) (by kernel_rfl) (fun _ _ _ h => h) (Or.inl ⟨by rfl, ?_⟩) hHeld ?_
    case refine_2 => (intro w hSw; (try dsimp only at hSw); go_simp; try (with_reducible rfl))
    try simp only [Act.put, List.setIfInBounds_toArray, List.set_cons_zero, List.set_cons_succ]
    refine wpAnyH_take (i := 7) (oi := { dst := some 105, op := Op.fieldAddr 27 (Operand.tmp 4) 0, type := 0, pos := "law.go:197", after := #[], guard := none }) (v := ?_) rfl (by kernel_rfl) (by kernel_rfl) (by kernel_rfl) (fun _ _ _ h => h) (Or.inl ⟨by rfl, ?_⟩) hHeld ?_
    case refine_2 => (intro w hSw; (try dsimp only at hSw); go_simp; try (with_reducible rfl))
    try simp only [Act.put, List.setIfInBounds_toArray, List.set_cons_zero, List.set_cons_succ]
    refine wpAnyH_take (i := 8) (oi := { dst := some 106, op := Op.load 22 (Operand.tmp 105), type := 22, pos := "law.go:197", after := #[{ on := 7, ground := Ground.data }], guard := none }) (v := ?_) rfl (by kernel_rfl) (by kernel_rfl) (by kernel_rfl) (fun _ _ _ h => h) (Or.inl ⟨by rfl, ?_⟩) hHeld ?_
    case refine_2 => (intro w hSw; (try dsimp only at hSw); go_simp; try (with_reducible rfl))
    try simp only [Act.put, List.setIfInBounds_toArray, List.set_cons_zero, List.set_cons_succ]
    refine wpAnyH_take (i := 9) (oi := { dst := some 107, op := Op.fieldAddr 27 (Operand.tmp 4) 1, type := 0, pos := "law.go:197", after := #[], guard := none }) (v := ?_) rfl (by kernel_rfl) (by kernel_rfl) (by kernel_rfl) (fun _ _ _ h => h) (Or.inl ⟨by rfl, ?_⟩) hHeld ?_
    case refine_2 => (intro w hSw; (try dsimp only at hSw); go_simp; try (with_reducible rfl))
    try simp only [Act.put, List.setIfInBounds_toArray, List.set_cons_zero, List.set_cons_succ]
    refine wpAnyH_take (i := 10) (oi := { dst := some 108, op := Op.load 23 (Operand.tmp 107), type := 23, pos := "law.go:197", after := #[{ on := 9, ground := Ground.data }], guard := none }) (v := ?_) rfl (by kernel_rfl) (by kernel_rfl) (by kernel_rfl) (fun _ _ _ h => h) (Or.inl ⟨by rfl, ?_⟩) hHeld ?_
    case refine_2 => (intro w hSw; (try dsimp only at hSw); go_simp; try (with_reducible rfl))
    try simp only [Act.put, List.setIfInBounds_toArray, List.set_cons_zero, List.set_cons_succ]
    refine wpAnyH_take (i := 11) (oi := { dst := some 109, op := Op.move (Operand.tmp 16), type := 3, pos := "law.go:197", after := #[], guard := none }) (v := ?_) rfl (by kernel_rfl) (by kernel_rfl) (by kernel_rfl) (fun _ _ _ h => h) (Or.inl ⟨by rfl, ?_⟩) hHeld ?_
    case refine_2 => (intro w hSw; (try dsimp only at hSw); go_simp; try (with_reducible rfl))
    try simp only [Act.put, List.setIfInBounds_toArray, List.set_cons_zero, List.set_cons_succ]
    refine wpAnyH_take (i := 12) (oi := { dst := some 110, op := Op.indexAddr 23 (Operand.tmp 108) (Operand.tmp 109), type := 0, pos := "law.go:197", after := #[{ on := 10, ground := Ground.data }, { on := 11, ground := Ground.data }], guard := none }) (v := ?_) rfl (by kernel_rfl) (by kernel_rfl) (by kernel_rfl) (fun _ _ _ h => h) (Or.inl ⟨by rfl, ?_⟩) hHeld ?_
    case refine_2 => (intro w hSw; (try dsimp only at hSw); go_simp; try (with_reducible rfl))
    try simp only [Act.put, List.setIfInBounds_toArray, List.set_cons_zero, List.set_cons_succ]
    refine wpAnyH_take (i := 13) (oi := { dst := some 111, op := Op.fieldAddr 55 (Operand.tmp 110) 1, type := 0, pos := "law.go:197", after := #[{ on := 12, ground := Ground.data }], guard := none }) (v := ?_) rfl (by kernel_rfl) (by kernel_rfl) (by kernel_rfl) (fun _ _ _ h => h) (Or.inl ⟨by rfl, ?_⟩) hHeld ?_
    case refine_2 => (intro w hSw; (try dsimp only at hSw); go_simp; try (with_reducible rfl))
    try simp only [Act.put, List.setIfInBounds_toArray, List.set_cons_zero, List.set_cons_succ]
    refine wpAnyH_take (i := 14) (oi := { dst := some 112, op := Op.load 3 (Operand.tmp 111), type := 3, pos := "law.go:197", after := #[{ on := 13, ground := Ground.data }], guard := none }) (v := ?_) rfl (by kernel_rfl) (by kernel_rfl) (by kernel_rfl) (fun _ _ _ h => h) (Or.inl ⟨by rfl, ?_⟩) hHeld ?_
    case refine_2 => (intro w hSw; (try dsimp only at hSw); go_simp; try (with_reducible rfl))
    try simp only [Act.put, List.setIfInBounds_toArray, List.set_cons_zero, List.set_cons_succ]
    refine wpAnyH_take (i := 15) (oi := { dst := some 113, op := Op.indexAddr 22 (Operand.tmp 106) (Operand.tmp 112), type := 0, pos := "law.go:197", after := #[{ on := 8, ground := Ground.data }, { on := 14, ground := Ground.data }], guard := none }) (v := ?_) rfl (by kernel_rfl) (by kernel_rfl) (by kernel_rfl) (fun _ _ _ h => h) (Or.inl ⟨by rfl, ?_⟩) hHeld ?_
    case refine_2 => (intro w hSw; (try dsimp only at hSw); go_simp; try (with_reducible rfl))
    try simp only [Act.put, List.setIfInBounds_toArray, List.set_cons_zero, List.set_cons_succ]
    refine wpAnyH_take (i := 16) (oi := { dst := some 114, op := Op.fieldAddr 53 (Operand.tmp 113) 1, type := 0, pos := "law.go:197", after := #[{ on := 15, ground := Ground.data }], guard := none }) (v := ?_) rfl (by kernel_rfl) (by kernel_rfl) (by kernel_rfl) (fun _ _ _ h => h) (Or.inl ⟨by rfl, ?_⟩) hHeld ?_
    case refine_2 => (intro w hSw; (try dsimp only at hSw); go_simp; try (with_reducible rfl))
    try simp only [Act.put, List.setIfInBounds_toArray, List.set_cons_zero, List.set_cons_succ]
    refine wpAnyH_take (i := 17) (oi := { dst := some 115, op := Op.load 3 (Operand.tmp 114), type := 3, pos := "law.go:197", after := #[{ on := 16, ground := Ground.data }], guard := none }) (v := ?_) rfl (by kernel_rfl) (by kernel_rfl) (by kernel_rfl) (fun _ _ _ h => h) (Or.inl ⟨by rfl, ?_⟩) hHeld ?_
    case refine_2 => (intro w hSw; (try dsimp only at hSw); go_simp; try (with_reducible rfl))
    try simp only [Act.put, List.setIfInBounds_toArray, List.set_cons_zero, List.set_cons_succ]
    refine wpAnyH_ready (rs := [5, 18]) (by kernel_rfl) (by simp) ?_
    refine (AllReadyH.cons (o := { dst := some 103, op := Op.load 3 (Operand.tmp 102), type := 3, pos := "law.go:197", after := #[{ on := 4, ground := Ground.data }], guard := none }) rfl (fun K hK => ?_) (AllReadyH.cons (o := { dst := some 116, op := Op.call { callee := Callee.value (Operand.func 27), args := #[Operand.tmp 115], argTypes := #[3] }, type := 3, pos := "law.go:197", after := #[{ on := 17, ground := Ground.data }], guard := none }) rfl (fun K hK => ?_) AllReadyH.nil))
    · skip
      go_simp
      refine hK.out _ _ (KP.out _ (Gr.trans BC.out (Gr.drew _))) (fun hHeld => ?_)
      clear hK K
      try simp only [Act.put, List.setIfInBounds_toArray, List.set_cons_zero, List.set_cons_succ]
      refine wpAnyH_take (i := 6) (oi := { dst := some 104, op := Op.binOp BinOp.add 3 (Operand.tmp 103) (Operand.const (Value.int IntKind.i64 1)) 3, type := 3, pos := "law.go:197", after := #[{ on := 5, ground := Ground.data }], guard := none }) (v := ?_) rfl (by kernel_rfl) (by kernel_rfl) (by kernel_rfl) (fun _ _ _ h => h) (Or.inl ⟨by rfl, ?_⟩) hHeld ?_
      case refine_2 => (intro w hSw; (try dsimp only at hSw); go_simp; try (with_reducible rfl))
      try simp only [Act.put, List.setIfInBounds_toArray, List.set_cons_zero, List.set_cons_succ]
      refine wpAnyH_ready (rs := [18]) (by kernel_rfl) (by simp) ?_
      refine (AllReadyH.cons (o := { dst := some 116, op := Op.call { callee := Callee.value (Operand.func 27), args := #[Operand.tmp 115], argTypes := #[3] }, type := 3, pos := "law.go:197", after := #[{ on := 17, ground := Ground.data }], guard := none }) rfl (fun K hK => ?_) AllReadyH.nil)
      go_simp
      refine (MK.out _).mono ?_
      rintro e z ⟨rfl, rfl⟩
      refine hK.out _ _ (KP.out _ (Gr.trans BC.out (Gr.drew _))) (fun hHeld => ?_)
      clear hK K
      try simp only [Act.put, List.setIfInBounds_toArray, List.set_cons_zero, List.set_cons_succ]
      refine wpAnyH_take (i := 19) (oi := { dst := some 117, op := Op.binOp BinOp.add 3 (Operand.tmp 104) (Operand.tmp 116) 3, type := 3, pos := "law.go:197", after := #[{ on := 6, ground := Ground.data }, { on := 18, ground := Ground.data }], guard := none }) (v := ?_) rfl (by kernel_rfl) (by kernel_rfl) (by kernel_rfl) (fun _ _ _ h => h) (Or.inl ⟨by rfl, ?_⟩) hHeld ?_
      case refine_2 => (intro w hSw; (try dsimp only at hSw); go_simp; try (with_reducible rfl))
      try simp only [Act.put, List.setIfInBounds_toArray, List.set_cons_zero, List.set_cons_succ]
      refine wpAnyH_take (i := 20) (oi := { dst := some 118, op := Op.indexAddr 42 (Operand.tmp 98) (Operand.tmp 99), type := 0, pos := "law.go:197", after := #[{ on := 0, ground := Ground.data }, { on := 1, ground := Ground.data }, { on := 0, ground := Ground.phase }, { on := 1, ground := Ground.phase }, { on := 2, ground := Ground.phase }, { on := 3, ground := Ground.phase }, { on := 4, ground := Ground.phase }, { on := 5, ground := Ground.phase }, { on := 6, ground := Ground.phase }, { on := 7, ground := Ground.phase }, { on := 8, ground := Ground.phase }, { on := 9, ground := Ground.phase }, { on := 10, ground := Ground.phase }, { on := 11, ground := Ground.phase }, { on := 12, ground := Ground.phase }, { on := 13, ground := Ground.phase }, { on := 14, ground := Ground.phase }, { on := 15, ground := Ground.phase }, { on := 16, ground := Ground.phase }, { on := 17, ground := Ground.phase }, { on := 18, ground := Ground.phase }, { on := 19, ground := Ground.phase }], guard := none }) (v := ?_) rfl (by kernel_rfl) (by kernel_rfl) (by kernel_rfl) (fun _ _ _ h => h) (Or.inl ⟨by rfl, ?_⟩) hHeld ?_
      case refine_2 => (intro w hSw; (try dsimp only at hSw); go_simp; try (with_reducible rfl))
      try simp only [Act.put, List.setIfInBounds_toArray, List.set_cons_zero, List.set_cons_succ]
      refine wpAnyH_ready (rs := [21]) (by kernel_rfl) (by simp) ?_
      refine (AllReadyH.cons (o := { dst := none, op := Op.store 3 (Operand.tmp 118) (Operand.tmp 117), type := 0, pos := "law.go:197", after := #[{ on := 20, ground := Ground.data }, { on := 19, ground := Ground.data }, { on := 18, ground := Ground.chain }, { on := 0, ground := Ground.phase }, { on := 1, ground := Ground.phase }, { on := 2, ground := Ground.phase }, { on := 3, ground := Ground.phase }, { on := 4, ground := Ground.phase }, { on := 5, ground := Ground.phase }, { on := 6, ground := Ground.phase }, { on := 7, ground := Ground.phase }, { on := 8, ground := Ground.phase }, { on := 9, ground := Ground.phase }, { on := 10, ground := Ground.phase }, { on := 11, ground := Ground.phase }, { on := 12, ground := Ground.phase }, { on := 13, ground := Ground.phase }, { on := 14, ground := Ground.phase }, { on := 15, ground := Ground.phase }, { on := 16, ground := Ground.phase }, { on := 17, ground := Ground.phase }, { on := 18, ground := Ground.phase }, { on := 19, ground := Ground.phase }], guard := none }) rfl (fun K hK => ?_) AllReadyH.nil)
      go_simp
      refine hK.out _ _ (KP.out _ (Below.drew BD.out)) (fun hHeld => ?_)
      clear hK K
      try simp only [Act.put, List.setIfInBounds_toArray, List.set_cons_zero, List.set_cons_succ]
      refine wpAnyH_done (by kernel_rfl) ?_ _
      clear hcj hfj m4 m5 m6 m7 m8 m9
      have HDD := Lib.hid (show Gr wB (wC.setCell ⟨gr, j, none⟩ (.int .i64 ((y : Int) + 1 + (qm : Int)))).drew ∧ (wC.setCell ⟨gr, j, none⟩ (.int .i64 ((y : Int) + 1 + (qm : Int)))).drew.ownsRow wB.heap.size 3 1 (.slice (some ⟨gr, 0, none⟩) n.ins.length cr) n.ins.length (icells ((ofN r).set j ((y : Int) + 1 + (qm : Int)))) from ⟨Below.drew BD.out, HO5.out.drew⟩)
      generalize (wC.setCell ⟨gr, j, none⟩ (.int .i64 ((y : Int) + 1 + (qm : Int)))).drew = wD at HDD ⊢
      have HUD := Lib.hid (HU9.out.gr (Gr.trans GB.out HDD.out.1))
      have OWD := Lib.hid (show wD.ownsRow w5.heap.size 42 1 (.slice (some ⟨gu, 0, none⟩) t.length cu) t.length (usT.set k (.slice (some ⟨g3, 0, none⟩) (n.ins.length + 1) cc3)) from by have h := HUD.out.2.1; rwa [List.length_set, List.length_map] at h)
      have hf1 := OWD.out.frozenAt k
      have hd1 := OWD.out.cellAt k (by omega)
      rw [List.getElem?_set_self (by rw [HU1L.out]; exact hkl)] at hd1
      go_upto_region 23 with fail
      have HSE := rws_set (k := k) HUD.out (by rw [List.length_set, List.length_map]) (by rw [List.length_set, List.length_map]; exact hkl) (ints_of_own HDD.out.2 (by rw [List.length_set, ofN_len]; exact HRL.out)) (fun _ b hb => by have e : gr = b := (by simpa [Value.ownBlock] using hb); have h1 := HBT.out; have h2 := (HU9.out.2.1.lt gu (by simp [Value.ownBlock])).2; omega)
      rw [List.set_set, List.set_set] at HSE
      obtain ⟨wE, eE, HUE⟩ : ∃ wE, wD.setCell ⟨gu, k, none⟩ (.slice (some ⟨gr, 0, none⟩) n.ins.length cr) = wE ∧ Hid (RwsU w5 (.slice (some ⟨gu, 0, none⟩) t.length cu) (usT.set k (.slice (some ⟨gr, 0, none⟩) n.ins.length cr)) ((t.map ofN).set k ((ofN r).set j ((y : Int) + 1 + (qm : Int)))) wE) := ⟨_, rfl, Lib.hid HSE⟩
      rw [eE]
      clear eE HSE hf1 hd1 OWD HUD HDD
      obtain ⟨e0, e1, e2, e3, e4⟩ := KEEP.out _ (Gr.trans G5.out HUE.out.1)
      have RF := Lib.hid (RI.out _ _ false wE (Gr.trans U5.out HUE.out.1) (by rw [List.length_set, List.length_map]; unfold maxLen; omega) (set_len hrow (by rw [List.length_set, ofN_len]; exact hln)) (rws_own HUE.out) ⟨fun h => by simp at h, fun h => absurd h (odd_big (by rw [List.length_map]; exact hkl) HSX.out (by rw [ofN_len]; omega) (by rw [HBIG.out, HP2.out]; have := HSET.out; omega))⟩)
      go_wp2_with fail
      refine RF.out.mono ?_
      rintro e wF ⟨rfl, hg⟩
      go_wp2_with fail
      go_ret
      exact ⟨rfl, Gr.trans BW.out (Gr.trans G5.out (Gr.trans HUE.out.1 hg))⟩
    · skip
      go_simp
      refine (MK.out _).mono ?_
      rintro e z ⟨rfl, rfl⟩
      refine hK.out _ _ (KP.out _ (Gr.trans BC.out (Gr.drew _))) (fun hHeld => ?_)
      clear hK K
      try simp only [Act.put, List.setIfInBounds_toArray, List.set_cons_zero, List.set_cons_succ]
      refine wpAnyH_ready (rs := [5]) (by kernel_rfl) (by simp) ?_
      refine (AllReadyH.cons (o := { dst := some 103, op := Op.load 3 (Operand.tmp 102), type := 3, pos := "law.go:197", after := #[{ on := 4, ground := Ground.data }], guard := none }) rfl (fun K hK => ?_) AllReadyH.nil)
      go_simp
      refine hK.out _ _ (KP.out _ (Gr.trans BC.out (Gr.drew _))) (fun hHeld => ?_)
      clear hK K
      try simp only [Act.put, List.setIfInBounds_toArray, List.set_cons_zero, List.set_cons_succ]
      refine wpAnyH_take (i := 6) (oi := { dst := some 104, op := Op.binOp BinOp.add 3 (Operand.tmp 103) (Operand.const (Value.int IntKind.i64 1)) 3, type := 3, pos := "law.go:197", after := #[{ on := 5, ground := Ground.data }], guard := none }) (v := ?_) rfl (by kernel_rfl) (by kernel_rfl) (by kernel_rfl) (fun _ _ _ h => h) (Or.inl ⟨by rfl, ?_⟩) hHeld ?_
      case refine_2 => (intro w hSw; (try dsimp only at hSw); go_simp; try (with_reducible rfl))
      try simp only [Act.put, List.setIfInBounds_toArray, List.set_cons_zero, List.set_cons_succ]
      refine wpAnyH_take (i := 19) (oi := { dst := some 117, op := Op.binOp BinOp.add 3 (Operand.tmp 104) (Operand.tmp 116) 3, type := 3, pos := "law.go:197", after := #[{ on := 6, ground := Ground.data }, { on := 18, ground := Ground.data }], guard := none }) (v := ?_) rfl (by kernel_rfl) (by kernel_rfl) (by kernel_rfl) (fun _ _ _ h => h) (Or.inl ⟨by rfl, ?_⟩) hHeld ?_
      case refine_2 => (intro w hSw; (try dsimp only at hSw); go_simp; try (with_reducible rfl))
      try simp only [Act.put, List.setIfInBounds_toArray, List.set_cons_zero, List.set_cons_succ]
      refine wpAnyH_take (i := 20) (oi := { dst := some 118, op := Op.indexAddr 42 (Operand.tmp 98) (Operand.tmp 99), type := 0, pos := "law.go:197", after := #[{ on := 0, ground := Ground.data }, { on := 1, ground := Ground.data }, { on := 0, ground := Ground.phase }, { on := 1, ground := Ground.phase }, { on := 2, ground := Ground.phase }, { on := 3, ground := Ground.phase }, { on := 4, ground := Ground.phase }, { on := 5, ground := Ground.phase }, { on := 6, ground := Ground.phase }, { on := 7, ground := Ground.phase }, { on := 8, ground := Ground.phase }, { on := 9, ground := Ground.phase }, { on := 10, ground := Ground.phase }, { on := 11, ground := Ground.phase }, { on := 12, ground := Ground.phase }, { on := 13, ground := Ground.phase }, { on := 14, ground := Ground.phase }, { on := 15, ground := Ground.phase }, { on := 16, ground := Ground.phase }, { on := 17, ground := Ground.phase }, { on := 18, ground := Ground.phase }, { on := 19, ground := Ground.phase }], guard := none }) (v := ?_) rfl (by kernel_rfl) (by kernel_rfl) (by kernel_rfl) (fun _ _ _ h => h) (Or.inl ⟨by rfl, ?_⟩) hHeld ?_
      case refine_2 => (intro w hSw; (try dsimp only at hSw); go_simp; try (with_reducible rfl))
      try simp only [Act.put, List.setIfInBounds_toArray, List.set_cons_zero, List.set_cons_succ]
      refine wpAnyH_ready (rs := [21]) (by kernel_rfl) (by simp) ?_
      refine (AllReadyH.cons (o := { dst := none, op := Op.store 3 (Operand.tmp 118) (Operand.tmp 117), type := 0, pos := "law.go:197", after := #[{ on := 20, ground := Ground.data }, { on := 19, ground := Ground.data }, { on := 18, ground := Ground.chain }, { on := 0, ground := Ground.phase }, { on := 1, ground := Ground.phase }, { on := 2, ground := Ground.phase }, { on := 3, ground := Ground.phase }, { on := 4, ground := Ground.phase }, { on := 5, ground := Ground.phase }, { on := 6, ground := Ground.phase }, { on := 7, ground := Ground.phase }, { on := 8, ground := Ground.phase }, { on := 9, ground := Ground.phase }, { on := 10, ground := Ground.phase }, { on := 11, ground := Ground.phase }, { on := 12, ground := Ground.phase }, { on := 13, ground := Ground.phase }, { on := 14, ground := Ground.phase }, { on := 15, ground := Ground.phase }, { on := 16, ground := Ground.phase }, { on := 17, ground := Ground.phase }, { on := 18, ground := Ground.phase }, { on := 19, ground := Ground.phase }], guard := none }) rfl (fun K hK => ?_) AllReadyH.nil)
      go_simp
      refine hK.out _ _ (KP.out _ (Below.drew BD.out)) (fun hHeld => ?_)
      clear hK K
      try simp only [Act.put, List.setIfInBounds_toArray, List.set_cons_zero, List.set_cons_succ]
      refine wpAnyH_done (by kernel_rfl) ?_ _
      clear hcj hfj m4 m5 m6 m7 m8 m9
      have HDD := Lib.hid (show Gr wB (wC.setCell ⟨gr, j, none⟩ (.int .i64 ((y : Int) + 1 + (qm : Int)))).drew ∧ (wC.setCell ⟨gr, j, none⟩ (.int .i64 ((y : Int) + 1 + (qm : Int)))).drew.ownsRow wB.heap.size 3 1 (.slice (some ⟨gr, 0, none⟩) n.ins.length cr) n.ins.length (icells ((ofN r).set j ((y : Int) + 1 + (qm : Int)))) from ⟨Below.drew BD.out, HO5.out.drew⟩)
      generalize (wC.setCell ⟨gr, j, none⟩ (.int .i64 ((y : Int) + 1 + (qm : Int)))).drew = wD at HDD ⊢
      have HUD := Lib.hid (HU9.out.gr (Gr.trans GB.out HDD.out.1))
      have OWD := Lib.hid (show wD.ownsRow w5.heap.size 42 1 (.slice (some ⟨gu, 0, none⟩) t.length cu) t.length (usT.set k (.slice (some ⟨g3, 0, none⟩) (n.ins.length + 1) cc3)) from by have h := HUD.out.2.1; rwa [List.length_set, List.length_map] at h)
      have hf1 := OWD.out.frozenAt k
      have hd1 := OWD.out.cellAt k (by omega)
      rw [List.getElem?_set_self (by rw [HU1L.out]; exact hkl)] at hd1
      go_upto_region 23 with fail
      have HSE := rws_set (k := k) HUD.out (by rw [List.length_set, List.length_map]) (by rw [List.length_set, List.length_map]; exact hkl) (ints_of_own HDD.out.2 (by rw [List.length_set, ofN_len]; exact HRL.out)) (fun _ b hb => by have e : gr = b := (by simpa [Value.ownBlock] using hb); have h1 := HBT.out; have h2 := (HU9.out.2.1.lt gu (by simp [Value.ownBlock])).2; omega)
      rw [List.set_set, List.set_set] at HSE
      obtain ⟨wE, eE, HUE⟩ : ∃ wE, wD.setCell ⟨gu, k, none⟩ (.slice (some ⟨gr, 0, none⟩) n.ins.length cr) = wE ∧ Hid (RwsU w5 (.slice (some ⟨gu, 0, none⟩) t.length cu) (usT.set k (.slice (some ⟨gr, 0, none⟩) n.ins.length cr)) ((t.map ofN).set k ((ofN r).set j ((y : Int) + 1 + (qm : Int)))) wE) := ⟨_, rfl, Lib.hid HSE⟩
      rw [eE]
      clear eE HSE hf1 hd1 OWD HUD HDD
      obtain ⟨e0, e1, e2, e3, e4⟩ := KEEP.out _ (Gr.trans G5.out HUE.out.1)
      have RF := Lib.hid (RI.out _ _ false wE (Gr.trans U5.out HUE.out.1) (by rw [List.length_set, List.length_map]; unfold maxLen; omega) (set_len hrow (by rw [List.length_set, ofN_len]; exact hln)) (rws_own HUE.out) ⟨fun h => by simp at h, fun h => absurd h (odd_big (by rw [List.length_map]; exact hkl) HSX.out (by rw [ofN_len]; omega) (by rw [HBIG.out, HP2.out]; have := HSET.out; omega))⟩)
      go_wp2_with fail
      refine RF.out.mono ?_
      rintro e wF ⟨rfl, hg⟩
      go_wp2_with fail
      go_ret
      exact ⟨rfl, Gr.trans BW.out (Gr.trans G5.out (Gr.trans HUE.out.1 hg))⟩
end Go.Proofs.Ytmnblcnhbafcpaa
