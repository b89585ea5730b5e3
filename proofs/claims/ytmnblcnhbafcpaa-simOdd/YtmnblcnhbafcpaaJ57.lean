/-
  THE HEAD OF LAYER 11's LAWS, WALKED.
-/
import Derived.Test.YtmnblcnhbafcpaaJ56
namespace Go.Proofs.Ytmnblcnhbafcpaa
open Go.RowKit
open NetM
open VecM

theorem hd_two (u : World) : RwsR ((u.alloc (.cells #[.int .i64 2] 3)).alloc (.cells #[.slice (some ⟨u.heap.size, 0, none⟩) 1 1] 42)) (.slice (some ⟨u.heap.size + 1, 0, none⟩) 1 1) [[2]] := by
  have h := rws_own (rws_one (int1 u 2) rfl)
  simpa [ofN] using h
theorem int_nil (u : World) (g : Nat) : IntR u (.slice (some ⟨g, 0, none⟩) 0 0) [] := ⟨_, 0, rfl, Nat.le_refl _, fun i s hi => by simp at hi⟩
theorem hd_nil (u : World) : RwsR ((u.alloc (.cells #[] 3)).alloc (.cells #[.slice (some ⟨u.heap.size, 0, none⟩) 0 0] 42)) (.slice (some ⟨u.heap.size + 1, 0, none⟩) 1 1) [[]] := by
  have h := rws_own (rws_one (int_nil (u.alloc (.cells #[] 3)) u.heap.size) rfl)
  simpa using h
set_option maxRecDepth 100000 in
set_option maxHeartbeats 16000000 in
theorem Shead_any (w : World) : Calls Try.prog 10 #[] w fun e w' => e = .returned (.bool true) ∧ Gr w w' := by
  have HB := Lib.hid Base_any
  obtain ⟨i4, hi, hz0, hz1, hz2⟩ := info_parts info42
  have HI4 := Lib.hid (And.intro hi (And.intro hz0 (And.intro hz1 hz2)))
  clear hi hz0 hz1 hz2
  go_enter Try.func10, Try.ntmps10
  go_wp2_with fail
  refine (HB.out _).mono ?_
  rintro e w1 ⟨v1, rfl, hn1, hg1⟩
  have HN1 := Lib.hid hn1
  have HG1 := Lib.hid hg1
  obtain ⟨A1, A2, A3, A4, A5, k1, k2, k3, k4, k5, c1, c2, c3, c4, c5, rfl⟩ := hn1.form
  clear hn1 hg1 HB
  go_upto_region 3 with fail
  obtain ⟨W0, eW, BW, KEEP, NT⟩ : ∃ W0, w1.alloc (.cells #[.slice A1 k1 c1, .slice A2 k2 c2, .slice A3 k3 c3, .slice A4 k4 c4, .slice A5 k5 c5] 27) = W0 ∧ Hid (Gr w W0) ∧ Hid (∀ u, Gr W0 u → Bx5 u w1.heap.size (.slice A1 k1 c1) (.slice A2 k2 c2) (.slice A3 k3 c3) (.slice A4 k4 c4) (.slice A5 k5 c5)) ∧ Hid (NtAt W0 baseN (ntV A1 A2 A3 A4 A5 k1 k2 k3 k4 k5 c1 c2 c3 c4 c5)) :=
    ⟨_, rfl, Lib.hid (Gr.trans HG1.out (bel_alloc _ _)), Lib.hid fun u hu => bx5_gr (bx5_new w1 _ _ _ _ _) (by simp) hu, Lib.hid (HN1.out.gr (bel_alloc _ _))⟩
  clear HN1 HG1
  try rw [eW]
  clear eW
  go_wp2_with fail
  go_loopg [2, 3] 13 (fun g o y wr => ∃ (j : Nat) (us : List Value), j + g = 13 ∧ y = .int .i64 j ∧ Hid (RwsU W0 o us (List.replicate j (ofN [1])) wr))
  case atStart => exact ⟨0, [], by omega, rfl, Lib.hid (rws_nil W0)⟩
  case round =>
    obtain ⟨j, us, hjg, rfl, HR⟩ := hrel
    have HJ := Lib.hid hjg
    have hjl : j ≤ 13 := by omega
    clear hjg
    by_cases hlt : j < 13
    · have j1 : (j : Int) < 13 := by omega
      have HRN := Lib.hid (show (List.replicate j (ofN [1])).length = j from List.length_replicate)
      have HX := Lib.hid ((int1 wr 1).gr (bel_alloc _ (.cells #[.slice (some ⟨wr.heap.size, 0, none⟩) 1 1] 42)))
      have HA := Lib.hid ((HR.out.gr (bel_alloc wr (.cells #[.int .i64 1] 3))).gr (bel_alloc _ (.cells #[.slice (some ⟨wr.heap.size, 0, none⟩) 1 1] 42)))
      have HFR := Lib.hid (HR.out.2.1.lt)
      have HNW := Lib.hid (show ((wr.alloc (.cells #[.int .i64 1] 3)).alloc (.cells #[.slice (some ⟨wr.heap.size, 0, none⟩) 1 1] 42)).heap[wr.heap.size + 1]? = some (.cells #[.slice (some ⟨wr.heap.size, 0, none⟩) 1 1] 42) from by have h := heap_new' (wr.alloc (.cells #[.int .i64 1] 3)) (.cells #[.slice (some ⟨wr.heap.size, 0, none⟩) 1 1] 42); simpa using h)
      go_wp2_with (at_builtin; refine wpList_append_lies _ rfl _ _ 28 rfl W0.heap.size 42 i4 (.slice none 0 0) 1 24 Try.underlying28 HI4.out.1 HI4.out.2.1 HI4.out.2.2.1 HI4.out.2.2.2 rfl (by decide) _ _ us rfl HA.out.2.1 ⟨wr.heap.size + 1, 0, none⟩ 1 1 [.slice (some ⟨wr.heap.size, 0, none⟩) 1 1] rfl rfl (World.news_of_block HNW.out) (fun u hu => by obtain rfl := List.mem_singleton.1 hu; rfl) (by decide) (by rw [HRN.out]; unfold maxLen; omega) (by rw [HRN.out]; omega) HA.out.1.size _ rfl ?_; intro gz cz w7 hown hgrow hor hlt3; have HN := Lib.hid (rws_step HA.out HX.out rfl (fun _ b hb e => by have e1 : wr.heap.size = b := (by simpa [Value.ownBlock] using hb); have h2 := (HFR.out b e.symm).2; omega) hgrow hor hown); clear hown hgrow hor hlt3)
      go_roundg (gk - 1)
      case measure => have := HJ.out; omega
      case rel =>
        refine ⟨j + 1, us ++ [.slice (some ⟨wr.heap.size, 0, none⟩) 1 1], by have := HJ.out; omega, by go_num, Lib.hid ?_⟩
        have h9 := HN.out
        rw [HRN.out] at h9
        rw [List.replicate_succ']
        exact h9
    have hj13 : j = 13 := by omega
    have j1 : ¬ (j : Int) < 13 := by omega
    have HT := Lib.hid (show RwsR wr _ (tB.map ofN) by rw [← ofN_tB j hj13]; exact rws_own HR.out)
    have GW := Lib.hid HR.out.1
    clear HR HJ
    obtain ⟨At, ct, ho, hct, hrt⟩ := HT.out
    rw [List.length_map, tb_len] at ho
    subst ho
    clear hrt hct
    have ST := Lib.hid (fun (u : World) (hu : Gr wr u) => SStates_any baseN _ _ tB u base_sz (Lib.hid (NT.out.gr (Gr.trans GW.out hu))) base_right tb_ok (by rw [tb_len]; decide) (Lib.hid (HT.out.gr hu)))
    have RU := Lib.hid (fun (u : World) (hu : Gr wr u) => SRun_any baseN _ _ tB u base_sz (Lib.hid (NT.out.gr (Gr.trans GW.out hu))) base_right tb_ok (by rw [tb_len]; decide) (Lib.hid (HT.out.gr hu)))
    have HH := Lib.hid (fun (pi : Int) (u : World) (hu : Gr wr u) => SHit_any baseN _ _ pi tB u base_sz (Lib.hid (NT.out.gr (Gr.trans GW.out hu))) base_right tb_ok (by rw [tb_len]; decide) (Lib.hid (HT.out.gr hu)))
    have RG := Lib.hid (fun (rows : List (List Int)) (tv : Value) (R : Bool) (hl : rows.length ≤ maxLen) (hl2 : ∀ r ∈ rows, r.length ≤ maxLen) (hR : R = true ↔ TrRight baseN rows) (u : World) (hu : Gr wr u) (hv : RwsR u tv rows) => Tright_any baseN _ tv rows u base_sz (Lib.hid (NT.out.gr (Gr.trans GW.out hu))) (wok_of base_nds) base_right.2.1.2 hl (Lib.hid hl2) (Lib.hid hv) R (Lib.hid hR))
    have U0 := Lib.hid (Gr.refl wr)
    obtain ⟨e0, e1, e2, e3, e4⟩ := KEEP.out _ GW.out
    go_wp2_with fail
    refine (ST.out _ U0.out).mono ?_
    rintro e u1 ⟨vs, rfl, hs1, hg⟩
    have U1 := Lib.hid (Gr.trans U0.out hg)
    obtain ⟨As, cs, rfl, -, hs1⟩ := hs1
    have HSS := Lib.hid hs1
    rw [stsL_len, tb_len]
    clear hs1 hg e0 e1 e2 e3 e4
    obtain ⟨e0, e1, e2, e3, e4⟩ := KEEP.out _ (Gr.trans GW.out U1.out)
    go_wp2_with fail
    refine (RU.out _ U1.out).mono ?_
    rintro e u2 ⟨vr, rfl, hr1, hg⟩
    have U2 := Lib.hid (Gr.trans U1.out hg)
    have HSS2 := Lib.hid (HSS.out.gr hg)
    obtain ⟨Ar, cr, rfl, -, hr1⟩ := hr1
    have HRR := Lib.hid hr1
    rw [runL_len, tb_len]
    clear hr1 hg e0 e1 e2 e3 e4 HSS
    obtain ⟨e0, e1, e2, e3, e4⟩ := KEEP.out _ (Gr.trans GW.out U2.out)
    go_wp2_with fail
    refine (HH.out 1 _ U2.out).mono ?_
    rw [tb_h1]
    rintro e u3 ⟨rfl, hg⟩
    have U3 := Lib.hid (Gr.trans U2.out hg)
    have V3 := Lib.hid (show Gr u2 u3 from hg)
    clear hg e0 e1 e2 e3 e4
    obtain ⟨e0, e1, e2, e3, e4⟩ := KEEP.out _ (Gr.trans GW.out U3.out)
    go_wp2_with fail
    refine (HH.out 0 _ U3.out).mono ?_
    rw [tb_h0]
    rintro e u4 ⟨rfl, hg⟩
    have U4 := Lib.hid (Gr.trans U3.out hg)
    have V4 := Lib.hid (Gr.trans V3.out hg)
    clear hg e0 e1 e2 e3 e4
    obtain ⟨e0, e1, e2, e3, e4⟩ := KEEP.out _ (Gr.trans GW.out U4.out)
    go_wp2_with fail
    refine (HH.out 2 _ U4.out).mono ?_
    rw [tb_h2]
    rintro e u5 ⟨rfl, hg⟩
    have U5 := Lib.hid (Gr.trans U4.out hg)
    have V5 := Lib.hid (Gr.trans V4.out hg)
    clear hg e0 e1 e2 e3 e4
    obtain ⟨e0, e1, e2, e3, e4⟩ := KEEP.out _ (Gr.trans GW.out U5.out)
    go_wp2_with fail
    refine (RG.out (tB.map ofN) _ true (by rw [List.length_map, tb_len]; decide) (fun r hr => by obtain ⟨q, hq, rfl⟩ := List.mem_map.1 hr; obtain rfl := (List.mem_replicate.1 hq).2; decide) ⟨fun _ => tr_ok (by rw [tb_len]; decide) tb_ok, fun _ => rfl⟩ _ U5.out (HT.out.gr U5.out)).mono ?_
    rintro e u6 ⟨rfl, hg⟩
    have U6 := Lib.hid (Gr.trans U5.out hg)
    have V6 := Lib.hid (Gr.trans V5.out hg)
    clear hg e0 e1 e2 e3 e4
    obtain ⟨e0, e1, e2, e3, e4⟩ := KEEP.out _ (Gr.trans GW.out U6.out)
    have H2 := Lib.hid (hd_two u6)
    go_wp2_with fail
    refine (RG.out [[2]] _ false (by decide) (by decide) ⟨fun h => (by cases h), fun h => absurd h tb_two⟩ _ (Gr.trans U6.out (Gr.trans (bel_alloc _ _) (bel_alloc _ _))) H2.out).mono ?_
    rintro e u7 ⟨rfl, hg⟩
    have U7 := Lib.hid (Gr.trans U6.out (Gr.trans (Gr.trans (bel_alloc _ _) (bel_alloc _ _)) hg))
    have V7 := Lib.hid (Gr.trans V6.out (Gr.trans (Gr.trans (bel_alloc _ _) (bel_alloc _ _)) hg))
    clear hg e0 e1 e2 e3 e4 H2
    obtain ⟨e0, e1, e2, e3, e4⟩ := KEEP.out _ (Gr.trans GW.out U7.out)
    have H3 := Lib.hid (hd_nil u7)
    go_wp2_with fail
    refine (RG.out [[]] _ false (by decide) (by decide) ⟨fun h => (by cases h), fun h => absurd h tb_none⟩ _ (Gr.trans U7.out (Gr.trans (bel_alloc _ _) (bel_alloc _ _))) H3.out).mono ?_
    rintro e u8 ⟨rfl, hg⟩
    have U8 := Lib.hid (Gr.trans U7.out (Gr.trans (Gr.trans (bel_alloc _ _) (bel_alloc _ _)) hg))
    have V8 := Lib.hid (Gr.trans V7.out (Gr.trans (Gr.trans (bel_alloc _ _) (bel_alloc _ _)) hg))
    clear hg e0 e1 e2 e3 e4 H3
    obtain ⟨bs, os, X1, x1, rfl, -, s1, p1⟩ := rws_get (HSS2.out.gr V8.out) (show (stsL baseN tB (tB.length + 1))[11]? = some (ofN [11]) from by rw [stsL_at (by rw [tb_len]; decide), tb_11])
    obtain ⟨X2, x2, s2, p2⟩ := rws_at (HSS2.out.gr V8.out) (show (stsL baseN tB (tB.length + 1))[12]? = some (ofN [0]) from by rw [stsL_at (by rw [tb_len]; decide), tb_12])
    obtain ⟨X3, x3, s3, p3⟩ := rws_at (HSS2.out.gr V8.out) (show (stsL baseN tB (tB.length + 1))[13]? = some (ofN [1]) from by rw [stsL_at (by rw [tb_len]; decide), tb_13])
    obtain ⟨q1, o1, rfl, y1⟩ := int_get p1 (show (ofN [11])[0]? = some 11 from rfl)
    obtain ⟨q2, o2, rfl, y2⟩ := int_get p2 (show (ofN [0])[0]? = some 0 from rfl)
    obtain ⟨q3, o3, rfl, y3⟩ := int_get p3 (show (ofN [1])[0]? = some 1 from rfl)
    obtain ⟨zb, hzb⟩ := tb_b12
    obtain ⟨br, or, X4, x4, rfl, -, s4, p4⟩ := bws_get (HRR.out.gr V8.out) (show (runL baseN tB tB.length)[11]? = some [true, true] from by rw [runL_at (by rw [tb_len]; decide), tb_b11])
    obtain ⟨X5, x5, s5, p5⟩ := bws_at (HRR.out.gr V8.out) (show (runL baseN tB tB.length)[12]? = some [zb, false] from by rw [runL_at (by rw [tb_len]; decide), hzb])
    obtain ⟨q4, o4, rfl, y4⟩ := bool_get p4 (show [true, true][0]? = some true from rfl)
    obtain ⟨q4', o4', e9, y5⟩ := bool_get p4 (show [true, true][1]? = some true from rfl)
    simp only [Option.some.injEq, Addr.mk.injEq, and_true] at e9
    obtain ⟨rfl, rfl⟩ := e9
    obtain ⟨q5, o5, rfl, y6⟩ := bool_get p5 (show [zb, false][1]? = some false from rfl)
    clear p1 p2 p3 p4 p5
    simp only [Nat.add_zero, ofN_len, List.length_cons, List.length_nil, Nat.zero_add, Nat.reduceAdd] at s1 s2 s3 s4 s5 y1 y2 y3 y4 y5 y6
    go_wp2_with fail
    go_ret
    exact ⟨rfl, Gr.trans BW.out (Gr.trans GW.out U8.out)⟩
end Go.Proofs.Ytmnblcnhbafcpaa
