/-
  NetTells, WALKED.
-/
import Derived.Test.YtnkifhgkhgialaaNRsm
namespace Go.Proofs.Ytnkifhgkhgialaa
open Go.RowKit
open NetM

set_option maxRecDepth 100000 in
set_option maxHeartbeats 16000000 in
theorem tells_walk (n m : Nt) (v u0 : Value) (Pa Pb : Option Addr) (ca cb : Nat) (a b : List Nat) (w : World) (hn : Hid (NtAt w n v)) (hm : Hid (NtAt w m u0)) (ha : a.length ≤ maxLen) (ha2 : Hid (∀ x ∈ a, x < 65536)) (hA : Hid (U16s w w.heap.size Pa a)) (hb : b.length ≤ maxLen) (hb2 : Hid (∀ x ∈ b, x < 65536)) (hB : Hid (U16s w w.heap.size Pb b)) :
    Calls Try.prog 3 #[v, u0, .slice Pa a.length ca, .slice Pb b.length cb] w fun e w' => e = .returned (.bool true) ∧ Gr w w' := by
  have HV := Lib.hid (fun (u : World) (hu : Gr w u) => hn.out.gr hu)
  have HU := Lib.hid (fun (u : World) (hu : Gr w u) => hm.out.gr hu)
  obtain ⟨A1, A2, A3, A4, A5, c1, c2, c3, c4, c5, rfl, hc1, -, -, -, -, -⟩ := hn.out
  obtain ⟨B1, B2, B3, B4, B5, g1, g2, g3, g4, g5, rfl, hg1, -, -, -, -, -⟩ := hm.out
  have X0 := bx_new w n A1 A2 A3 A4 A5 c1 c2 c3 c4 c5
  have Y0 := bx_new (w.alloc (.cells (bxC n A1 A2 A3 A4 A5 c1 c2 c3 c4 c5) 27)) m B1 B2 B3 B4 B5 g1 g2 g3 g4 g5
  rw [World.size_alloc] at Y0
  obtain ⟨W0, eW, BW, KEEP⟩ : ∃ W0, (w.alloc (.cells (bxC n A1 A2 A3 A4 A5 c1 c2 c3 c4 c5) 27)).alloc (.cells (bxC m B1 B2 B3 B4 B5 g1 g2 g3 g4 g5) 27) = W0 ∧ Hid (Gr w W0) ∧ Hid (∀ u, Gr W0 u → BxAt u w.heap.size n A1 A2 A3 A4 A5 c1 c2 c3 c4 c5 ∧ BxAt u (w.heap.size + 1) m B1 B2 B3 B4 B5 g1 g2 g3 g4 g5) :=
    ⟨_, rfl, Lib.hid (Gr.trans (bel_alloc _ _) (bel_alloc _ _)), Lib.hid fun u hu => ⟨bx_gr X0 (by simp) (Gr.trans (bel_alloc _ _) hu), bx_gr Y0 (by simp) hu⟩⟩
  clear X0 Y0
  obtain ⟨⟨e0, e1, e2, e3, e4⟩, f0, f1, f2, f3, f4⟩ := KEEP.out W0 (Gr.refl _)
  have H0 := Lib.hid head_any
  obtain ⟨gb, hgb⟩ : ∃ gb : Bool, gb = true ↔ NGreat n := by classical exact ⟨decide _, decide_eq_true_iff⟩
  obtain ⟨gc, hgc⟩ : ∃ gc : Bool, gc = true ↔ NGreat m := by classical exact ⟨decide _, decide_eq_true_iff⟩
  obtain ⟨rb, hrb⟩ : ∃ rb : Bool, rb = true ↔ NRight n := by classical exact ⟨decide _, decide_eq_true_iff⟩
  obtain ⟨sb, hsb⟩ : ∃ sb : Bool, sb = true ↔ NSame n m := by classical exact ⟨decide _, decide_eq_true_iff⟩
  have GC := Lib.hid (fun (u : World) (hu : Gr w u) => Great_any n _ u (Lib.hid (HV.out u hu)) gb (Lib.hid hgb))
  have GM := Lib.hid (fun (u : World) (hu : Gr w u) => Great_any m _ u (Lib.hid (HU.out u hu)) gc (Lib.hid hgc))
  go_enter Try.func3, Try.ntmps3
  go_wp2_with fail
  try rw [eW]
  clear eW
  refine (H0.out _).mono ?_
  rintro e w1 ⟨rfl, hg⟩
  have G1 := Lib.hid hg
  clear hg e0 e1 e2 e3 e4 f0 f1 f2 f3 f4
  obtain ⟨⟨e0, e1, e2, e3, e4⟩, f0, f1, f2, f3, f4⟩ := KEEP.out _ G1.out
  go_wp2_with fail
  refine (GC.out _ (Gr.trans BW.out G1.out)).mono ?_
  rintro e w2 ⟨rfl, hg⟩
  have G2 := Lib.hid (Gr.trans G1.out hg)
  clear hg e0 e1 e2 e3 e4 f0 f1 f2 f3 f4
  obtain ⟨⟨e0, e1, e2, e3, e4⟩, f0, f1, f2, f3, f4⟩ := KEEP.out _ G2.out
  cases gb with
  | true =>
    go_wp2_with fail
    go_ret
    exact ⟨rfl, Gr.trans BW.out G2.out⟩
  | false =>
  have hz := sz_of (fun h => by have := hgb.2 h; simp at this)
  have hs : Sz n := by unfold Sz; omega
  go_wp2_with fail
  refine (GM.out _ (Gr.trans BW.out G2.out)).mono ?_
  rintro e w3 ⟨rfl, hg⟩
  have G3 := Lib.hid (Gr.trans G2.out hg)
  clear hg e0 e1 e2 e3 e4 f0 f1 f2 f3 f4
  obtain ⟨⟨e0, e1, e2, e3, e4⟩, f0, f1, f2, f3, f4⟩ := KEEP.out _ G3.out
  cases gc with
  | true =>
    go_wp2_with fail
    go_ret
    exact ⟨rfl, Gr.trans BW.out G3.out⟩
  | false =>
  have hz' := sz_of (fun h => by have := hgc.2 h; simp at this)
  have hs' : Sz m := by unfold Sz; omega
  have RC := Lib.hid (fun (u : World) (hu : Gr w u) => RRight_any n _ u hs (Lib.hid (HV.out u hu)) rb (Lib.hid hrb))
  have CR := Lib.hid (fun (u : World) (hu : Gr w u) => Right_any n _ u hs (Lib.hid (HV.out u hu)) rb (Lib.hid hrb))
  have SC := Lib.hid (fun (u : World) (hu : Gr w u) => Same_any n m _ _ u hs hs' (Lib.hid (HV.out u hu)) (Lib.hid (HU.out u hu)) sb (Lib.hid hsb))
  have SR := Lib.hid (fun (u : World) (hu : Gr w u) => RSame_any n m _ _ u hs hs' (Lib.hid (HV.out u hu)) (Lib.hid (HU.out u hu)) sb (Lib.hid hsb))
  have TR := Lib.hid (fun (u : World) (hu : Gr w3 u) => Gr.trans BW.out (Gr.trans G3.out hu))
  have KP := Lib.hid (fun (u : World) (hu : Gr w3 u) => KEEP.out u (Gr.trans G3.out hu))
  have nb : (rb != rb) = false := by cases rb <;> rfl
  have nsb : (sb != sb) = false := by cases sb <;> rfl
  clear hgb hgc GC GM hsb
  go_wp2_with fail
  go_region_held3 (fun u => BxAt u w.heap.size n A1 A2 A3 A4 A5 c1 c2 c3 c4 c5 ∧ BxAt u (w.heap.size + 1) m B1 B2 B3 B4 B5 g1 g2 g3 g4 g5)
    (first | exact KP.out _ (Gr.drew _) | exact KP.out _ (by assumption))
    (first
      | (go_at_call 12; (with_reducible refine (CR.out _ (TR.out _ (Gr.drew _))).mono ?_); rintro e u1 ⟨rfl, hu1'⟩; have hu1 : Gr w3 u1 := Gr.trans (Gr.drew _) hu1')
      | (go_at_call 13; (with_reducible refine (RC.out _ (TR.out _ hu1)).mono ?_); rintro e u2 ⟨rfl, hu2'⟩; have hu2 : Gr w3 u2 := Gr.trans hu1 hu2')
      | (go_at_call 14; (with_reducible refine (SC.out _ (TR.out _ hu2)).mono ?_); rintro e u3 ⟨rfl, hu3'⟩; have hu3 : Gr w3 u3 := Gr.trans hu2 hu3')
      | (go_at_call 15; (with_reducible refine (SR.out _ (TR.out _ hu3)).mono ?_); rintro e u4 ⟨rfl, hu4'⟩; have hu4 : Gr w3 u4 := Gr.trans hu3 hu4'))
  have G4 := Lib.hid (Gr.trans G3.out hu4)
  clear hu1 hu2 hu3 hu4 hu1' hu2' hu3' hu4' e0 e1 e2 e3 e4 f0 f1 f2 f3 f4 SC SR CR KP TR
  obtain ⟨⟨e0, e1, e2, e3, e4⟩, f0, f1, f2, f3, f4⟩ := KEEP.out _ G4.out
  go_wp2_with fail
  refine (RC.out _ (Gr.trans BW.out G4.out)).mono ?_
  rintro e w5 ⟨rfl, hg⟩
  have G5 := Lib.hid (Gr.trans G4.out hg)
  clear hg e0 e1 e2 e3 e4 f0 f1 f2 f3 f4 RC nb nsb
  obtain ⟨⟨e0, e1, e2, e3, e4⟩, f0, f1, f2, f3, f4⟩ := KEEP.out _ G5.out
  cases rb with
  | false =>
    go_wp2_with fail
    go_ret
    exact ⟨rfl, Gr.trans BW.out G5.out⟩
  | true =>
  have hR := hrb.1 rfl
  clear hrb
  have hw := wok_of hR.1
  have hC := hR.2.2.1.1
  have hI := hR.2.1.2
  have RW := Lib.hid (fun (u : World) (hu : Gr w u) => Rows_any n _ Pa Pb ca cb a b u hs (Lib.hid (HV.out u hu)) hw hC hI ha hb (Lib.hid (hA.out.gr hu)) (Lib.hid (hB.out.gr hu)) ha2 hb2)
  have HSO := Lib.hid (stOf_ok n a)
  have HIO := Lib.hid (inOf_ok n b)
  go_wp2_with fail
  refine (RW.out _ (Gr.trans BW.out G5.out)).mono ?_
  rintro e w6 ⟨sv, iv, rfl, hsv, hiv, hg⟩
  have HSV := Lib.hid hsv
  have HIV := Lib.hid hiv
  have G6 := Lib.hid (Gr.trans G5.out hg)
  clear hg e0 e1 e2 e3 e4 f0 f1 f2 f3 f4 RW hsv hiv
  have HLM := Lib.hid (evL_lim hR HSO.out HIO.out)
  have FI := Lib.hid (fun (u : World) (hu : Gr w6 u) => First_any n _ u hs (Lib.hid (HV.out u (Gr.trans BW.out (Gr.trans G6.out hu)))))
  have RF := Lib.hid (fun (u : World) (hu : Gr w6 u) => RFirst_any n _ u hs (Lib.hid (HV.out u (Gr.trans BW.out (Gr.trans G6.out hu)))))
  have EV := Lib.hid (fun (u : World) (hu : Gr w6 u) => Eval_any n _ sv iv (stOf n a) (inOf n b) u hs (Lib.hid (HV.out u (Gr.trans BW.out (Gr.trans G6.out hu)))) hR.1 (by rw [stOf_len]; omega) (by rw [inOf_len]; omega) (Lib.hid (HSV.out.gr hu)) (Lib.hid (HIV.out.gr hu)) HLM)
  have RE := Lib.hid (fun (u : World) (hu : Gr w6 u) => REval_any n _ sv iv (stOf n a) (inOf n b) u hs (Lib.hid (HV.out u (Gr.trans BW.out (Gr.trans G6.out hu)))) hR.1 hC hI HSO.out HIO.out (stOf_len n a) (inOf_len n b) (Lib.hid (HSV.out.gr hu)) (Lib.hid (HIV.out.gr hu)))
  have hvl : (evAll n (stOf n a) (inOf n b)).length = n.nodes.length := evL_len _ _ _ _ (Nat.le_refl _)
  obtain ⟨ev, hev⟩ : ∃ ev, evAll n (stOf n a) (inOf n b) = ev := ⟨_, rfl⟩
  rw [hev] at hvl
  simp only [hev] at EV RE
  have hel : (ofN ev).length ≤ 4000 := by rw [ofN_len]; omega
  have AF := Lib.hid (fun (u : World) (hu : Gr w6 u) => After_any n _ sv iv (ofN ev) u hs (Lib.hid (HV.out u (Gr.trans BW.out (Gr.trans G6.out hu)))) hel (Lib.hid fun u2 hu2 => EV.out u2 (Gr.trans hu hu2)))
  have hnx : ∀ c ∈ n.cells, 0 ≤ c.next ∧ c.next < ((ofN ev).length : Int) := fun c hc => by
    have h1 := (hR.2.2.1.2.1 c hc).1
    have h2 := cell_there hw hC c hc
    rw [ofN_len, hvl]
    exact (there_pos hw _).1 (by omega)
  have RA := Lib.hid (fun (u : World) (hu : Gr w6 u) => RAfter_any n _ sv iv (ofN ev) u hs (Lib.hid (HV.out u (Gr.trans BW.out (Gr.trans G6.out hu)))) hel hnx (Lib.hid fun u2 hu2 => RE.out u2 (Gr.trans hu hu2)))
  have hl1 : (n.cells.map Ce.reset).length ≤ 4000 := by rw [List.length_map]; omega
  have hl3 : (n.cells.map fun c => getA (ofN ev) c.next).length ≤ 4000 := by rw [List.length_map]; omega
  have KP := Lib.hid (fun (u : World) (hu : Gr w6 u) => (KEEP.out u (Gr.trans G6.out hu)).1)
  have S1 := Lib.hid (fun (v v' : Value) (u : World) (h1 : IntR u v (n.cells.map Ce.reset)) (h2 : IntR u v' (n.cells.map Ce.reset)) => same_of _ v v' u hl1 h1 h2)
  have S2 := Lib.hid (fun (v v' : Value) (u : World) (h1 : IntR u v (ofN ev)) (h2 : IntR u v' (ofN ev)) => same_of _ v v' u hel h1 h2)
  have S3 := Lib.hid (fun (v v' : Value) (u : World) (h1 : IntR u v (n.cells.map fun c => getA (ofN ev) c.next)) (h2 : IntR u v' (n.cells.map fun c => getA (ofN ev) c.next)) => same_of _ v v' u hl3 h1 h2)
  obtain ⟨e0, e1, e2, e3, e4⟩ := KP.out _ (Gr.refl _)
  clear hev HSO HIO HLM hl1 hl3 hel hnx hR hC hI hw
  go_wp2_with fail
  go_region_held3 (fun u => BxAt u w.heap.size n A1 A2 A3 A4 A5 c1 c2 c3 c4 c5)
    (first | exact KP.out _ (Gr.drew _) | exact KP.out _ (by assumption))
    (first
      | (go_at_call 18; (with_reducible refine (FI.out _ (Gr.drew _)).mono ?_); rintro e u1 ⟨v1, rfl, i1, hu1'⟩; have hu1 : Gr w6 u1 := Gr.trans (Gr.drew _) hu1')
      | (go_at_call 19; (with_reducible refine (RF.out u1 hu1).mono ?_); rintro e u2 ⟨v2, rfl, i2, hu2'⟩; have hu2 : Gr w6 u2 := Gr.trans hu1 hu2'; have j1 := i1.gr hu2')
      | (go_at_call 17; (with_reducible refine (S1.out v1 v2 u2 j1 i2).mono ?_); rintro e u3 ⟨rfl, hu3'⟩; have hu3 : Gr w6 u3 := Gr.trans hu2 hu3')
      | (go_at_call 20; (with_reducible refine (EV.out u3 hu3).mono ?_); rintro e u4 ⟨v4, rfl, i4, hu4'⟩; have hu4 : Gr w6 u4 := Gr.trans hu3 hu4')
      | (go_at_call 21; (with_reducible refine (RE.out u4 hu4).mono ?_); rintro e u5 ⟨v5, rfl, i5, hu5'⟩; have hu5 : Gr w6 u5 := Gr.trans hu4 hu5'; have j4 := i4.gr hu5')
      | (go_at_call 17; (with_reducible refine (S2.out v4 v5 u5 j4 i5).mono ?_); rintro e u6 ⟨rfl, hu6'⟩; have hu6 : Gr w6 u6 := Gr.trans hu5 hu6')
      | (go_at_call 22; (with_reducible refine (AF.out u6 hu6).mono ?_); rintro e u7 ⟨v7, rfl, i7, hu7'⟩; have hu7 : Gr w6 u7 := Gr.trans hu6 hu7')
      | (go_at_call 23; (with_reducible refine (RA.out u7 hu7).mono ?_); rintro e u8 ⟨v8, rfl, i8, hu8'⟩; have hu8 : Gr w6 u8 := Gr.trans hu7 hu8'; have j7 := i7.gr hu8')
      | (go_at_call 17; (with_reducible refine (S3.out v7 v8 u8 j7 i8).mono ?_); rintro e u9 ⟨rfl, hu9'⟩; have hu9 : Gr w6 u9 := Gr.trans hu8 hu9'))
  go_wp2_with fail
  go_ret
  exact ⟨rfl, Gr.trans BW.out (Gr.trans G6.out hu9)⟩
end Go.Proofs.Ytnkifhgkhgialaa
