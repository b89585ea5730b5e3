/-
  NetLeft, WALKED.
-/
import Derived.Test.YtnkifhgkhgialaaNCop
import Derived.Test.YtnkifhgkhgialaaNMap
import Derived.Deep.Cut
namespace Go.Proofs.Ytnkifhgkhgialaa
open Go.RowKit
open NetM
open VecM

theorem box_heap {w : World} {g : Nat} {x0 x1 x2 x3 x4 : Value} (h : w.heap[g]? = some (.cells #[x0, x1, x2, x3, x4] 27 (0, 0))) : w.cell? ⟨g, 0, none⟩ = some x0 ∧ w.cell? ⟨g, 1, none⟩ = some x1 ∧ w.cell? ⟨g, 2, none⟩ = some x2 ∧ w.cell? ⟨g, 3, none⟩ = some x3 ∧ w.cell? ⟨g, 4, none⟩ = some x4 ∧ ∀ j, w.frozen? ⟨g, j, none⟩ = false := by
  refine ⟨?_, ?_, ?_, ?_, ?_, fun j => by simp [World.frozen?, h]⟩
  all_goals simp [World.cell?, h]
theorem row_new (w : World) (cs : Array Value) (t : TypeId) : ∀ j u, cs.toList[j]? = some u → (w.alloc (.cells cs t)).cell? ((⟨w.heap.size, 0, none⟩ : Addr).add j) = some u := by
  intro j u hj
  have hadd : (⟨w.heap.size, 0, none⟩ : Addr).add j = ⟨w.heap.size, j, none⟩ := by
    by_cases hq : j = 0
    · subst hq; rfl
    · simp [Addr.add, hq]
  rw [hadd]
  exact new_cells _ _ _ _ _ (by simpa using hj)
theorem set_ne {w : World} {g o b j : Nat} {v : Value} (h : b ≠ g) : (w.setCell ⟨g, o, none⟩ v).cell? ⟨b, j, none⟩ = w.cell? ⟨b, j, none⟩ := by
  simp only [World.cell?]
  rw [heap_setCell_other w ⟨g, o, none⟩ b v h]
theorem nds_set {w : World} {B B' g o : Nat} {v : Value} {A : Option Addr} {l : List Nd} (h : Nds w B A l) (hB : B ≤ B') (hne : ∀ b off, A = some ⟨b, off, none⟩ → b ≠ g) : Nds (w.setCell ⟨g, o, none⟩ v) B' A l := by
  intro i x hx
  obtain ⟨b, off, e, hb, h0, h1, h2, h3, h4, h5, h6⟩ := h i x hx
  have := hne b off e
  refine ⟨b, off, e, by omega, ?_, ?_, ?_, ?_, ?_, ?_, ?_⟩
  all_goals
    rw [set_ne this]
    assumption
set_option maxRecDepth 100000 in
set_option maxHeartbeats 16000000 in
theorem left_walk (n : Nt) (v : Value) (Pa Pb : Option Addr) (ca cb : Nat) (a b : List Nat) (x : Nat) (w : World) (hx16 : x < 65536) (hn : Hid (NtAt w n v)) (hnil : Hid (NilOk v)) (ha : a.length ≤ maxLen) (ha2 : Hid (∀ x ∈ a, x < 65536)) (hA : Hid (U16s w w.heap.size Pa a)) (hb : b.length ≤ maxLen) (hb2 : Hid (∀ x ∈ b, x < 65536)) (hB : Hid (U16s w w.heap.size Pb b)) :
    Calls Try.prog 7 #[v, .slice Pa a.length ca, .slice Pb b.length cb, .int .u16 (x : Nat)] w fun e w' => e = .returned (.bool true) ∧ Gr w w' := by
  have HV := Lib.hid (fun (u : World) (hu : Gr w u) => hn.out.gr hu)
  obtain ⟨A1, A2, A3, A4, A5, c1, c2, c3, c4, c5, rfl, hc1, h1, h2, h3, h4, h5⟩ := hn.out
  have H1 := Lib.hid h1
  have H2 := Lib.hid h2
  have H3 := Lib.hid h3
  have H4 := Lib.hid h4
  have H5 := Lib.hid h5
  clear h1 h2 h3 h4 h5
  obtain ⟨W0, eW, BW, KEEP⟩ : ∃ W0, w.alloc (.cells (bxC n A1 A2 A3 A4 A5 c1 c2 c3 c4 c5) 27) = W0 ∧ Hid (Gr w W0) ∧ Hid (∀ u, Gr W0 u → BxAt u w.heap.size n A1 A2 A3 A4 A5 c1 c2 c3 c4 c5) :=
    ⟨_, rfl, Lib.hid (bel_alloc _ _), Lib.hid fun u hu => bx_gr (bx_new w n A1 A2 A3 A4 A5 c1 c2 c3 c4 c5) (by simp) hu⟩
  obtain ⟨e0, e1, e2, e3, e4⟩ := KEEP.out W0 (Gr.refl _)
  have H0 := Lib.hid head_any
  obtain ⟨gb, hgb⟩ : ∃ gb : Bool, gb = true ↔ NGreat n := by classical exact ⟨decide _, decide_eq_true_iff⟩
  obtain ⟨rb, hrb⟩ : ∃ rb : Bool, rb = true ↔ NRight n := by classical exact ⟨decide _, decide_eq_true_iff⟩
  have GC := Lib.hid (fun (u : World) (hu : Gr w u) => Great_any n _ u (Lib.hid (HV.out u hu)) gb (Lib.hid hgb))
  go_enter Try.func7, Try.ntmps7
  go_wp2_with fail
  try rw [eW]
  clear eW
  refine (H0.out _).mono ?_
  rintro e w1 ⟨rfl, hg⟩
  have G1 := Lib.hid hg
  clear hg e0 e1 e2 e3 e4
  obtain ⟨e0, e1, e2, e3, e4⟩ := KEEP.out _ G1.out
  go_wp2_with fail
  refine (GC.out _ (Gr.trans BW.out G1.out)).mono ?_
  rintro e w2 ⟨rfl, hg⟩
  have G2 := Lib.hid (Gr.trans G1.out hg)
  clear hg e0 e1 e2 e3 e4
  obtain ⟨e0, e1, e2, e3, e4⟩ := KEEP.out _ G2.out
  cases gb with
  | true =>
    go_wp2_with fail
    all_goals
      go_ret
      exact ⟨rfl, Gr.trans BW.out G2.out⟩
  | false =>
  have hz := sz_of (fun h => by have := hgb.2 h; simp at this)
  have hs : Sz n := by unfold Sz; omega
  have q4000 : ¬ ((4000 : Int) ≤ (n.nodes.length : Int)) := by omega
  have RC := Lib.hid (fun (u : World) (hu : Gr w u) => RRight_any n _ u hs (Lib.hid (HV.out u hu)) rb (Lib.hid hrb))
  clear hgb GC
  go_wp2_with fail
  refine (RC.out _ (Gr.trans BW.out G2.out)).mono ?_
  rintro e w3 ⟨rfl, hg⟩
  have G3 := Lib.hid (Gr.trans G2.out hg)
  clear hg e0 e1 e2 e3 e4 RC
  obtain ⟨e0, e1, e2, e3, e4⟩ := KEEP.out _ G3.out
  cases rb with
  | false =>
    go_wp2_with fail
    all_goals
      go_ret
      exact ⟨rfl, Gr.trans BW.out G3.out⟩
  | true =>
  have hR := hrb.1 rfl
  clear hrb
  have hw := wok_of hR.1
  have hC := hR.2.2.1.1
  have hI := hR.2.1.2
  have hnl := (hnil.out _ _ _ _ _ _ _ _ _ _ _ _ _ _ _ rfl).1
  have hwx := wrap_nat (a := x) (by omega)
  have RW := Lib.hid (fun (u : World) (hu : Gr w u) => Rows_any n _ Pa Pb ca cb a b u hs (Lib.hid (HV.out u hu)) hw hC hI ha hb (Lib.hid (hA.out.gr hu)) (Lib.hid (hB.out.gr hu)) ha2 hb2)
  have HSO := Lib.hid (stOf_ok n a)
  have HIO := Lib.hid (inOf_ok n b)
  obtain ⟨i0, hi, hz0, hz1, hz2⟩ := info_parts info41
  have HI := Lib.hid (And.intro hi (And.intro hz0 (And.intro hz1 hz2)))
  clear hi hz0 hz1 hz2
  have NW := Lib.hid (H1.out.gr (Gr.trans BW.out (Gr.trans G3.out (bel_alloc w3 (.cells #[.slice A1 n.nodes.length c1, .slice A2 n.ins.length c2, .slice A3 n.cells.length c3, .slice none 0 0, .slice none 0 0] 27)))))
  have B3 := heap_new' w3 (.cells #[.slice A1 n.nodes.length c1, .slice A2 n.ins.length c2, .slice A3 n.cells.length c3, .slice none 0 0, .slice none 0 0] 27)
  go_upto_region 7 with fail
  obtain ⟨X, eX, GX, XB, XS⟩ : ∃ X, w3.alloc (.cells #[.slice A1 n.nodes.length c1, .slice A2 n.ins.length c2, .slice A3 n.cells.length c3, .slice none 0 0, .slice none 0 0] 27) = X ∧ Hid (Gr w3 X) ∧ Hid (X.heap[w3.heap.size]? = some (.cells #[.slice A1 n.nodes.length c1, .slice A2 n.ins.length c2, .slice A3 n.cells.length c3, .slice none 0 0, .slice none 0 0] 27)) ∧ Hid (X.heap.size = w3.heap.size + 1) :=
    ⟨_, rfl, Lib.hid (bel_alloc _ _), Lib.hid B3, Lib.hid (by simp)⟩
  rw [eX] at NW
  try rw [eX]
  clear eX B3 e0 e1 e2 e3 e4
  obtain ⟨e0, e1, e2, e3, e4⟩ := KEEP.out _ (Gr.trans G3.out GX.out)
  obtain ⟨x0, x1, x2, x3, x4⟩ := KEEP.out (X.alloc (.cells #[] 41)) (Gr.trans G3.out (Gr.trans GX.out (bel_alloc _ _)))
  have hml : (n.nodes ++ [litN x]).length = n.nodes.length + 1 := by simp
  go_upto_region 8 with (first
    | (at_builtin; refine append_src _ rfl _ _ 22 rfl X.heap.size 41 i0 (.agg #[.int .i64 0, .int .i64 0, .int .i64 0, .int .i64 0, .int .i64 0, .int .i64 0, .int .i64 0]) 7 56 Try.underlying22 HI.out.1 HI.out.2.1 HI.out.2.2.1 HI.out.2.2.2 rfl (by decide) (.slice (some ⟨X.heap.size, 0, none⟩) 0 0) 0 [] rfl (own_empty X 41 7 X.heap.size (Nat.le_refl _)) A1 n.nodes.length c1 (n.nodes.flatMap ndL) rfl hnl (flat_len ndL ndL_len _) (nd_news (NW.out.gr (bel_alloc _ _))) (nd_one _) (by unfold maxLen; omega) (by omega) (by simp) ?_; intro v5 w5 hown5 hb5; have O5 := Lib.hid hown5; have B5 := Lib.hid (show Gr X w5 from Below.trans (bel_alloc X (.cells #[] 41)) hb5); have hB5 := B5.out.size; clear hown5 hb5)
    | (at_builtin; refine wpList_append_own _ rfl _ _ 22 rfl X.heap.size 41 i0 (.agg #[.int .i64 0, .int .i64 0, .int .i64 0, .int .i64 0, .int .i64 0, .int .i64 0, .int .i64 0]) 7 56 Try.underlying22 HI.out.1 HI.out.2.1 HI.out.2.2.1 HI.out.2.2.2 rfl (by decide) _ _ _ rfl (O5.out.alloc _) ⟨w5.heap.size, 0, none⟩ 1 1 (ndL (litN x)) rfl rfl (row_new w5 #[.int .i64 1, .int .i64 16, .int .i64 0, .int .i64 0, .int .i64 0, .int .i64 (x : Nat), .int .i64 0] 41) (fun u hu => nd_one [litN x] u (by simpa using hu)) (by unfold maxLen; omega) (by omega) (by simp; omega) ?_; intro v6 w6 hown6 hgrow6 hnil6; have B6 := Lib.hid (show Gr X w6 from ((B5.out.alloc hB5 (.cells #[.int .i64 1, .int .i64 16, .int .i64 0, .int .i64 0, .int .i64 0, .int .i64 (x : Nat), .int .i64 0] 41)).grown hgrow6 (by simp; omega) (fun q hq => (O5.out.lt q hq).1))); have hown7 : w6.ownsRow X.heap.size 41 7 v6 (n.nodes.length + 1) ((n.nodes ++ [litN x]).flatMap ndL) := (by simpa using hown6); have O6 := Lib.hid hown7; obtain ⟨A6, d6, rfl, hc6, hn6, hN6⟩ := nd_own hown7 hml; have N6 := Lib.hid hN6; obtain ⟨y0, y1, y2, y3, y4, yf⟩ := box_heap (heap_gr XB.out B6.out); obtain ⟨e0, e1, e2, e3, e4⟩ := KEEP.out _ (Gr.trans G3.out (Gr.trans GX.out B6.out)); clear hown6 hown7 hgrow6 hnil6 hN6))
  obtain ⟨mN, hmN⟩ : ∃ mN : Nt, mN = ⟨n.nodes ++ [litN x], n.ins, n.cells, [], []⟩ := ⟨_, rfl⟩
  obtain ⟨W7, eW7, G7, KP7, NM⟩ : ∃ W7, w6.setCell ⟨w3.heap.size, 0, none⟩ (.slice A6 (n.nodes.length + 1) d6) = W7 ∧ Hid (Gr w3 W7) ∧
      Hid (∀ u, Gr W7 u → BxAt u w.heap.size n A1 A2 A3 A4 A5 c1 c2 c3 c4 c5 ∧ Bx5 u w3.heap.size (.slice A6 (n.nodes.length + 1) d6) (.slice A2 n.ins.length c2) (.slice A3 n.cells.length c3) (.slice none 0 0) (.slice none 0 0)) ∧
      Hid (NtAt W7 mN (ntV A6 A2 A3 none none (n.nodes.length + 1) n.ins.length n.cells.length 0 0 d6 c2 c3 0 0)) := by
    have g36 : Gr w3 w6 := Gr.trans GX.out B6.out
    have g37 : Gr w3 (w6.setCell ⟨w3.heap.size, 0, none⟩ (.slice A6 (n.nodes.length + 1) d6)) := Below.setCell g36 (p := ⟨w3.heap.size, 0, none⟩) (Nat.le_refl _) _
    have h7 := heap_setCell_same w6 w3.heap.size 0 _ 27 (.slice A6 (n.nodes.length + 1) d6) (heap_gr XB.out B6.out)
    have hsz : (w6.setCell ⟨w3.heap.size, 0, none⟩ (.slice A6 (n.nodes.length + 1) d6)).heap.size = w6.heap.size := by simp
    obtain ⟨k0, k1, k2, k3, k4, -⟩ := box_heap (x0 := .slice A6 (n.nodes.length + 1) d6) (x1 := .slice A2 n.ins.length c2) (x2 := .slice A3 n.cells.length c3) (x3 := .slice none 0 0) (x4 := .slice none 0 0) (by simpa using h7)
    refine ⟨_, rfl, Lib.hid g37, Lib.hid fun u hu => ⟨KEEP.out u (Gr.trans G3.out (Gr.trans g37 hu)), bx5_gr ⟨k0, k1, k2, k3, k4⟩ (by rw [hsz]; have h1 := B6.out.size; have h2 := XS.out; omega) hu⟩, Lib.hid ?_⟩
    subst hmN
    refine ⟨A6, A2, A3, none, none, d6, c2, c3, 0, 0, by show ntV A6 A2 A3 none none (n.nodes.length + 1) _ _ _ _ _ _ _ _ _ = ntV A6 A2 A3 none none (n.nodes ++ [litN x]).length _ _ _ _ _ _ _ _ _; rw [hml]; rfl, by show (n.nodes ++ [litN x]).length ≤ d6; omega, ?_, H2.out.gr (Gr.trans BW.out (Gr.trans G3.out g37)), H3.out.gr (Gr.trans BW.out (Gr.trans G3.out g37)), fun i y h => by simp at h, fun i y h => by simp at h⟩
    refine nds_set N6.out (by rw [hsz]; exact Nat.le_refl _) (fun b' off' e => ?_)
    have h1 := (O6.out.lt b' (by rw [e]; rfl)).1
    have h2 := XS.out
    omega
  rw [eW7]
  clear eW7 e0 e1 e2 e3 e4 x0 x1 x2 x3 x4 y0 y1 y2 y3 y4 yf O5 B5 hB5 B6 O6 N6 NW hc6 hn6
  obtain ⟨⟨e0, e1, e2, e3, e4⟩, f0, f1, f2, f3, f4⟩ := KP7.out _ (Gr.refl _)
  have G4 := Lib.hid (Gr.trans G3.out G7.out)
  have hin := cell_in hR
  have hRm : NRight mN := by
    subst hmN
    refine right_app hR (lit_ok _ hx16) (by show ¬ (1 : Int) = 21; decide) (by show ¬ (1 : Int) = 22; decide) n.cells [] [] rfl (fun c hc => ?_) (fun p hp => by simp at hp) (by decide) (fun p hp => by simp at hp)
    obtain ⟨ck1, ck2, ck3⟩ := hR.2.2.1.2.1 c hc
    obtain ⟨⟨i1, i2⟩, i3, i4⟩ := hin c hc
    unfold CellOk
    rw [widA_app i3 i4, widA_app i1 i2]
    exact ⟨ck1, ck2, ck3⟩
  have hsm : Sz mN := by subst hmN; unfold Sz; simp only [List.length_append, List.length_singleton, List.length_nil]; omega
  have hevm : evAll mN (stOf n a) (inOf n b) = evAll n (stOf n a) (inOf n b) ++ [x] := by
    subst hmN
    rw [evAll_app hR.1, ev_lit]
  have HLM := Lib.hid (evL_lim hRm (st := stOf n a) (ins := inOf n b) (by subst hmN; exact stOk_app hR HSO.out _ _ _ rfl) (by subst hmN; exact inOk_app hR HIO.out _ _ _))
  have HLN := Lib.hid (evL_lim hR HSO.out HIO.out)
  go_wp2_with fail
  refine (RW.out _ (Gr.trans BW.out G4.out)).mono ?_
  rintro e w8 ⟨sv, iv, rfl, hsv, hiv, hg⟩
  have HSV := Lib.hid hsv
  have HIV := Lib.hid hiv
  have G8 := Lib.hid hg
  obtain ⟨As, cs, rfl, hcs, -⟩ := hsv
  obtain ⟨Ai, ci, rfl, hci, -⟩ := hiv
  rw [ofN_len, stOf_len] at hcs HSV ⊢
  rw [ofN_len, inOf_len] at hci HIV ⊢
  clear hg e0 e1 e2 e3 e4 f0 f1 f2 f3 f4 RW
  obtain ⟨⟨e0, e1, e2, e3, e4⟩, f0, f1, f2, f3, f4⟩ := KP7.out _ G8.out
  obtain ⟨ev, hev⟩ : ∃ ev, evAll n (stOf n a) (inOf n b) = ev := ⟨_, rfl⟩
  have hvl : ev.length = n.nodes.length := by rw [← hev]; exact evL_len _ _ _ _ (Nat.le_refl _)
  rw [hev] at hevm
  have EVm := Lib.hid (fun (u : World) (hu : Gr w8 u) => Eval_any mN _ _ _ (stOf n a) (inOf n b) u hsm (Lib.hid (NM.out.gr (Gr.trans G8.out hu))) hRm.1 (by rw [stOf_len]; omega) (by rw [inOf_len]; omega) (Lib.hid (HSV.out.gr hu)) (Lib.hid (HIV.out.gr hu)) HLM)
  simp only [hevm] at EVm
  have EVn := Lib.hid (fun (u : World) (hu : Gr w8 u) => Eval_any n _ _ _ (stOf n a) (inOf n b) u hs (Lib.hid (HV.out u (Gr.trans BW.out (Gr.trans G4.out (Gr.trans G8.out hu))))) hR.1 (by rw [stOf_len]; omega) (by rw [inOf_len]; omega) (Lib.hid (HSV.out.gr hu)) (Lib.hid (HIV.out.gr hu)) HLN)
  simp only [hev] at EVn
  have hme : (ofN (ev ++ [x])).length ≤ 4000 := by rw [ofN_len]; simp; omega
  have hne : (ofN ev).length ≤ 4000 := by rw [ofN_len]; omega
  have AFm := Lib.hid (fun (u : World) (hu : Gr w8 u) => After_any mN _ _ _ (ofN (ev ++ [x])) u hsm (Lib.hid (NM.out.gr (Gr.trans G8.out hu))) hme (Lib.hid fun u2 hu2 => EVm.out u2 (Gr.trans hu hu2)))
  have AFn := Lib.hid (fun (u : World) (hu : Gr w8 u) => After_any n _ _ _ (ofN ev) u hs (Lib.hid (HV.out u (Gr.trans BW.out (Gr.trans G4.out (Gr.trans G8.out hu))))) hne (Lib.hid fun u2 hu2 => EVn.out u2 (Gr.trans hu hu2)))
  have hmap : (mN.cells.map fun c => getA (ofN (ev ++ [x])) c.next) = n.cells.map fun c => getA (ofN ev) c.next := by
    subst hmN
    apply List.map_congr_left
    intro c hc
    obtain ⟨-, i3, i4⟩ := hin c hc
    rw [show ofN (ev ++ [x]) = ofN ev ++ [(x : Int)] from ofN_snoc ev x]
    exact getA_app i3 (by rw [ofN_len, hvl]; exact i4)
  rw [hmap] at AFm
  have RM := Lib.hid (fun (u : World) (hu : Gr w8 u) => Right_any mN _ u hsm (Lib.hid (NM.out.gr (Gr.trans G8.out hu))) true (Lib.hid ⟨fun _ => hRm, fun _ => rfl⟩))
  have SA := Lib.hid (fun (v v' : Value) (u : World) (h1 : IntR u v (ofN ev)) (h2 : IntR u v' (ofN ev)) => same_of _ v v' u hne h1 h2)
  have SB := Lib.hid (fun (v v' : Value) (u : World) (h1 : IntR u v (n.cells.map fun c => getA (ofN ev) c.next)) (h2 : IntR u v' (n.cells.map fun c => getA (ofN ev) c.next)) => same_of _ v v' u (by rw [List.length_map]; omega) h1 h2)
  clear hmap hevm hev HLM HLN HSO HIO
  go_wp2_with fail
  refine (EVm.out _ (Gr.refl _)).mono ?_
  rintro e w9 ⟨v9, rfl, hi9, hg⟩
  have G9 := Lib.hid hg
  obtain ⟨Av, cv, rfl, hcv, hiv9⟩ := hi9
  have I9 := Lib.hid hiv9
  rw [ofN_len, show (ev ++ [x]).length = n.nodes.length + 1 by simp; omega] at hcv ⊢
  clear hg hiv9 e0 e1 e2 e3 e4 f0 f1 f2 f3 f4
  obtain ⟨⟨e0, e1, e2, e3, e4⟩, f0, f1, f2, f3, f4⟩ := KP7.out _ (Gr.trans G8.out G9.out)
  go_wp2_with fail
  refine (RM.out _ G9.out).mono ?_
  rintro e w10 ⟨rfl, hg⟩
  have G10 := Lib.hid (Gr.trans G9.out hg)
  have I10 := Lib.hid (I9.out.gr hg)
  clear hg e0 e1 e2 e3 e4 f0 f1 f2 f3 f4 I9
  obtain ⟨⟨e0, e1, e2, e3, e4⟩, f0, f1, f2, f3, f4⟩ := KP7.out _ (Gr.trans G8.out G10.out)
  obtain ⟨bv, ov, rfl, -, iv0⟩ := I10.out n.nodes.length (x : Int) (by rw [show ofN (ev ++ [x]) = ofN ev ++ [(x : Int)] from ofN_snoc ev x, List.getElem?_append_right (by rw [ofN_len]; omega), ofN_len, hvl]; simp)
  have r1 : ((n.nodes.length : Int) + 1 != (n.nodes.length : Int) + 1) = false := by simp
  have r2 : ((x : Int) != (x : Int)) = false := by simp
  have r3 : (n.nodes.length : Int) < (n.nodes.length : Int) + 1 := by omega
  have r4 : (0 : Int) ≤ (n.nodes.length : Int) := by omega
  have r5 : (n.nodes.length : Int) ≤ (cv : Int) := by omega
  have IT := Lib.hid (show IntR w10 (.slice (some ⟨bv, ov, none⟩) n.nodes.length cv) (ofN ev) from ⟨_, cv, by rw [ofN_len, hvl], by rw [ofN_len, hvl]; omega, fun i z hi => I10.out i z (by rw [show ofN (ev ++ [x]) = ofN ev ++ [(x : Int)] from ofN_snoc ev x, List.getElem?_append_left (by exact (List.getElem?_eq_some_iff.1 hi).1)]; exact hi)⟩)
  have KPX := Lib.hid (fun (u : World) (hu : Gr w10 u) => KP7.out u (Gr.trans G8.out (Gr.trans G10.out hu)))
  go_wp2_with fail
  go_region_held3 (fun u => BxAt u w.heap.size n A1 A2 A3 A4 A5 c1 c2 c3 c4 c5 ∧ Bx5 u w3.heap.size (.slice A6 (n.nodes.length + 1) d6) (.slice A2 n.ins.length c2) (.slice A3 n.cells.length c3) (.slice none 0 0) (.slice none 0 0))
    (first | exact KPX.out _ (Gr.drew _) | exact KPX.out _ (by assumption))
    (first
      | (go_at_call 20; (with_reducible refine (EVn.out _ (Gr.trans G10.out (Gr.drew _))).mono ?_); rintro e u1 ⟨v1, rfl, i1, hu1'⟩; have hu1 : Gr w10 u1 := Gr.trans (Gr.drew _) hu1')
      | (go_at_call 17; (with_reducible refine (SA.out _ v1 u1 (IT.out.gr hu1) i1).mono ?_); rintro e u2 ⟨rfl, hu2'⟩; have hu2 : Gr w10 u2 := Gr.trans hu1 hu2')
      | (go_at_call 22; (with_reducible refine (AFm.out u2 (Gr.trans G10.out hu2)).mono ?_); rintro e u3 ⟨v3, rfl, i3, hu3'⟩; have hu3 : Gr w10 u3 := Gr.trans hu2 hu3')
      | (go_at_call 22; (with_reducible refine (AFn.out u3 (Gr.trans G10.out hu3)).mono ?_); rintro e u4 ⟨v4, rfl, i4, hu4'⟩; have hu4 : Gr w10 u4 := Gr.trans hu3 hu4'; have j3 := i3.gr hu4')
      | (go_at_call 17; (with_reducible refine (SB.out v3 v4 u4 j3 i4).mono ?_); rintro e u5 ⟨rfl, hu5'⟩; have hu5 : Gr w10 u5 := Gr.trans hu4 hu5'))
  go_wp2_with fail
  go_ret
  exact ⟨rfl, Gr.trans BW.out (Gr.trans G4.out (Gr.trans G8.out (Gr.trans G10.out hu5)))⟩
end Go.Proofs.Ytnkifhgkhgialaa
