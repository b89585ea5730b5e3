/-
  NetAhead, WALKED.
-/
import Derived.Test.YtnkifhgkhgialaaNLtw
import Derived.Test.YtnkifhgkhgialaaNAhm
import Derived.Deep.AppendLies
namespace Go.Proofs.Ytnkifhgkhgialaa
open Go.RowKit
open NetM
open VecM

theorem own_keep {w u : World} {base n size : Nat} {e : TypeId} {v : Value} {xs : List Value} (h : w.ownsRow base e size v n xs) (hk : ∀ b, v.ownBlock = some b → u.heap[b]? = w.heap[b]?) : u.ownsRow base e size v n xs := by
  refine ⟨h.1, ?_⟩
  rcases h.2 with h0 | ⟨q, cap, cur, rfl, hb, hh, r⟩
  · exact .inl h0
  · exact .inr ⟨q, cap, cur, rfl, hb, by rw [hk q rfl]; exact hh, r⟩
theorem set_ne_heap {w : World} {g o b : Nat} {v : Value} (h : b ≠ g) : (w.setCell ⟨g, o, none⟩ v).heap[b]? = w.heap[b]? := heap_setCell_other w ⟨g, o, none⟩ b v h
/-- the net that is built, on its way -/
def AhP (n : Nt) (L g6 d6 g B0 B1 B2 : Nat) (vI vC : Value) (lI : List Pn) (lC : List Ce) (W0 u : World) : Prop :=
  Gr W0 u ∧ u.heap[g]? = some (.cells #[.slice (some ⟨g6, 0, none⟩) L d6, vI, vC, .slice none 0 0, .slice none 0 0] 27 (0, 0)) ∧ u.ownsRow B0 41 7 (.slice (some ⟨g6, 0, none⟩) L d6) L ((n.nodes.take L).flatMap ndL) ∧
  u.ownsRow B1 47 2 vI lI.length (lI.flatMap pnL) ∧ u.ownsRow B2 43 4 vC lC.length (lC.flatMap ceL) ∧ g < B0 ∧ B0 ≤ g6 ∧ g6 < B1 ∧ B1 ≤ B2 ∧ B2 ≤ u.heap.size ∧ W0.heap.size ≤ g
theorem AhP.gr {n : Nt} {L g6 d6 g B0 B1 B2 : Nat} {vI vC : Value} {lI : List Pn} {lC : List Ce} {W0 u u' : World} (h : AhP n L g6 d6 g B0 B1 B2 vI vC lI lC W0 u) (hu : Gr u u') : AhP n L g6 d6 g B0 B1 B2 vI vC lI lC W0 u' := by
  obtain ⟨h1, h2, h3, h4, h5, h6, h7, h8, h9, h10, h11⟩ := h
  exact ⟨Gr.trans h1 hu, heap_gr h2 hu, own_gr' h3 hu, own_gr' h4 hu, own_gr' h5 hu, h6, h7, h8, h9, by have := hu.size; omega, h11⟩
theorem ah_box {n : Nt} {L g6 d6 g B0 B1 B2 : Nat} {vI vC : Value} {lI : List Pn} {lC : List Ce} {W0 u w' : World} (h : AhP n L g6 d6 g B0 B1 B2 vI vC lI lC W0 u) (hg : u.grownBy w' vC.ownBlock) :
    w'.heap[g]? = some (.cells #[.slice (some ⟨g6, 0, none⟩) L d6, vI, vC, .slice none 0 0, .slice none 0 0] 27 (0, 0)) := by
  obtain ⟨h1, h2, h3, h4, h5, h6, h7, h8, h9, h10, h11⟩ := h
  exact (hg.block _ (hlt h2) (fun e => by have := (h5.lt _ e.symm).1; omega)).trans h2
theorem ah_ins {n : Nt} {L g6 d6 g B0 B1 : Nat} {vI v' : Value} {lI : List Pn} {p : Pn} {W0 u w' : World} (h : AhP n L g6 d6 g B0 B1 B1 vI (.slice none 0 0) lI [] W0 u)
    (hg : u.grownBy w' vI.ownBlock) (ho : w'.ownsRow B1 47 2 v' (lI.length + 1) (lI.flatMap pnL ++ pnL p)) : AhP n L g6 d6 g B0 B1 B1 v' (.slice none 0 0) (lI ++ [p]) [] W0 (w'.setCell ⟨g, 1, none⟩ v') := by
  obtain ⟨h1, h2, h3, h4, -, h6, h7, h8, -, h10, h11⟩ := h
  have hb : ∀ b, vI.ownBlock = some b → B1 ≤ b := fun b hb => (h4.lt b hb).1
  have hk : ∀ z, z < B1 → w'.heap[z]? = u.heap[z]? := fun z hz => hg.block z (by omega) (fun e => by have := hb z e.symm; omega)
  have hgw : w'.heap[g]? = _ := (hk g (by omega)).trans h2
  refine ⟨Below.setCell (Below.grown h1 hg h1.size (fun b e => by have := hb b e; omega)) (p := ⟨g, 1, none⟩) h11 _, ?_, own_keep h3 (fun b e => ?_), ?_, World.ownsRow_nil _ _ _ _, h6, h7, h8, Nat.le_refl _, ?_, h11⟩
  · have h7 := heap_setCell_same w' g 1 _ 27 v' hgw
    simpa using h7
  · obtain rfl : g6 = b := by simpa [Value.ownBlock] using e
    rw [set_ne_heap (by omega)]
    exact hk _ h8
  · have h12 := own_set (g := g) (o := 1) (val := v') ho (by omega)
    rw [List.length_append, List.flatMap_append]
    simpa using h12
  · have := hg.size
    simp
    omega
theorem ah_cel {n : Nt} {L g6 d6 g B0 B1 B2 : Nat} {vI vC v' : Value} {lI : List Pn} {lC : List Ce} {c : Ce} {W0 u w' : World} (h : AhP n L g6 d6 g B0 B1 B2 vI vC lI lC W0 u) (hv : ∀ b, vI.ownBlock = some b → b < B2)
    (hg : u.grownBy w' vC.ownBlock) (ho : w'.ownsRow B2 43 4 v' (lC.length + 1) (lC.flatMap ceL ++ ceL c)) : AhP n L g6 d6 g B0 B1 B2 vI v' lI (lC ++ [c]) W0 (w'.setCell ⟨g, 2, none⟩ v') := by
  obtain ⟨h1, h2, h3, h4, h5, h6, h7, h8, h9, h10, h11⟩ := h
  have hb : ∀ b, vC.ownBlock = some b → B2 ≤ b := fun b hb => (h5.lt b hb).1
  have hk : ∀ z, z < B2 → w'.heap[z]? = u.heap[z]? := fun z hz => hg.block z (by omega) (fun e => by have := hb z e.symm; omega)
  have hgw : w'.heap[g]? = _ := (hk g (by omega)).trans h2
  refine ⟨Below.setCell (Below.grown h1 hg h1.size (fun b e => by have := hb b e; omega)) (p := ⟨g, 2, none⟩) h11 _, ?_, own_keep h3 (fun b e => ?_), own_keep h4 (fun b e => ?_), ?_, h6, h7, h8, h9, ?_, h11⟩
  · have h7 := heap_setCell_same w' g 2 _ 27 v' hgw
    simpa using h7
  · obtain rfl : g6 = b := by simpa [Value.ownBlock] using e
    rw [set_ne_heap (by omega)]
    exact hk _ (by omega)
  · have h12 := (h4.lt b e).1
    rw [set_ne_heap (by omega)]
    exact hk _ (hv b e)
  · have h12 := own_set (g := g) (o := 2) (val := v') ho (by omega)
    rw [List.length_append, List.flatMap_append]
    simpa using h12
  · have := hg.size
    simp
    omega
set_option maxRecDepth 100000 in
set_option maxHeartbeats 16000000 in
theorem ahead_walk (n : Nt) (v : Value) (x : Nat) (Pa Pb : Option Addr) (ca cb : Nat) (a b : List Nat) (w : World) (hx16 : x < 65536) (hn : Hid (NtAt w n v)) (hnil : Hid (NilOk v)) (ha : a.length ≤ maxLen) (ha2 : Hid (∀ x ∈ a, x < 65536)) (hA : Hid (U16s w w.heap.size Pa a)) (hb : b.length ≤ maxLen) (hb2 : Hid (∀ x ∈ b, x < 65536)) (hB : Hid (U16s w w.heap.size Pb b)) :
    Calls Try.prog 5 #[v, .int .u16 (x : Nat), .slice Pa a.length ca, .slice Pb b.length cb] w fun e w' => e = .returned (.bool true) ∧ Gr w w' := by
  clear hnil
  have HV := Lib.hid (fun (u : World) (hu : Gr w u) => hn.out.gr hu)
  obtain ⟨A1, A2, A3, A4, A5, c1, c2, c3, c4, c5, rfl, hc1, h1, h2, h3, h4, h5⟩ := hn.out
  have H1 := Lib.hid h1
  have H2 := Lib.hid h2
  have H3 := Lib.hid h3
  have H4 := Lib.hid h4
  have H5 := Lib.hid h5
  clear h1 h2 h3 h4 h5
  obtain ⟨W0, eW, BW, KEEP⟩ : ∃ W0, w.alloc (.cells (bxC n A1 A2 A3 A4 A5 c1 c2 c3 c4 c5) 27) = W0 ∧ Hid (Gr w W0) ∧ Hid (∀ u, Gr W0 u → BxAt u w.heap.size n A1 A2 A3 A4 A5 c1 c2 c3 c4 c5) :=
    ⟨_, rfl, Lib.hid (bel_alloc _ _), Lib.hid fun u hu => bx_gr (bx_new w n A1 A2 A3 A4 A5 c1 c2 c3 c4 c5) (by simp) hu⟩
  obtain ⟨e0, e1, e2, e3, e4⟩ := KEEP.out W0 (Gr.refl _)
  have H0 := Lib.hid head_any
  obtain ⟨gb, hgb⟩ : ∃ gb : Bool, gb = true ↔ NGreat n := by classical exact ⟨decide _, decide_eq_true_iff⟩
  obtain ⟨rb, hrb⟩ : ∃ rb : Bool, rb = true ↔ NRight n := by classical exact ⟨decide _, decide_eq_true_iff⟩
  have GC := Lib.hid (fun (u : World) (hu : Gr w u) => Great_any n _ u (Lib.hid (HV.out u hu)) gb (Lib.hid hgb))
  go_enter Try.func5, Try.ntmps5
  go_wp2_with fail
  try rw [eW]
  clear eW
  refine (H0.out _).mono ?_
  rintro e w1 ⟨rfl, hg⟩
  have G1 := Lib.hid hg
  clear hg e0 e1 e2 e3 e4
  obtain ⟨e0, e1, e2, e3, e4⟩ := KEEP.out _ G1.out
  go_wp2_with fail
  refine (GC.out _ (Gr.trans BW.out G1.out)).mono ?_
  rintro e w2 ⟨rfl, hg⟩
  have G2 := Lib.hid (Gr.trans G1.out hg)
  clear hg e0 e1 e2 e3 e4
  obtain ⟨e0, e1, e2, e3, e4⟩ := KEEP.out _ G2.out
  cases gb with
  | true =>
    go_wp2_with fail
    all_goals
      go_ret
      exact ⟨rfl, Gr.trans BW.out G2.out⟩
  | false =>
  have hz := sz_of (fun h => by have := hgb.2 h; simp at this)
  have hs : Sz n := by unfold Sz; omega
  have RC := Lib.hid (fun (u : World) (hu : Gr w u) => RRight_any n _ u hs (Lib.hid (HV.out u hu)) rb (Lib.hid hrb))
  clear hgb GC
  go_wp2_with fail
  refine (RC.out _ (Gr.trans BW.out G2.out)).mono ?_
  rintro e w3 ⟨rfl, hg⟩
  have G3 := Lib.hid (Gr.trans G2.out hg)
  clear hg e0 e1 e2 e3 e4 RC
  obtain ⟨e0, e1, e2, e3, e4⟩ := KEEP.out _ G3.out
  cases rb with
  | false =>
    go_wp2_with fail
    all_goals
      go_ret
      exact ⟨rfl, Gr.trans BW.out G3.out⟩
  | true =>
  have hR := hrb.1 rfl
  clear hrb
  have hw := wok_of hR.1
  have hC := hR.2.2.1.1
  have hI := hR.2.1.2
  by_cases hz0 : n.nodes.length = 0
  · have q0 : ((n.nodes.length : Int) == 0) = true := by simp [hz0]
    clear hz0
    go_wp2_with fail
    all_goals
      go_ret
      exact ⟨rfl, Gr.trans BW.out G3.out⟩
  have q0 : ((n.nodes.length : Int) == 0) = false := beq_eq_false_iff_ne.2 (by omega)
  have q1 : ¬ (n.nodes.length : Int) = 0 := by omega
  have RW := Lib.hid (fun (u : World) (hu : Gr w u) => Rows_any n _ Pa Pb ca cb a b u hs (Lib.hid (HV.out u hu)) hw hC hI ha hb (Lib.hid (hA.out.gr hu)) (Lib.hid (hB.out.gr hu)) ha2 hb2)
  have HSO := Lib.hid (stOf_ok n a)
  have HIO := Lib.hid (inOf_ok n b)
  obtain ⟨i0, hi, hz0, hz1, hz2⟩ := info_parts info41
  have HI := Lib.hid (And.intro hi (And.intro hz0 (And.intro hz1 hz2)))
  clear hi hz0 hz1 hz2
  obtain ⟨i3, hi, hz0, hz1, hz2⟩ := info_parts info43
  have HJ := Lib.hid (And.intro hi (And.intro hz0 (And.intro hz1 hz2)))
  clear hi hz0 hz1 hz2
  obtain ⟨iP, hi, hz0, hz1, hz2⟩ := info_parts info47
  have HK := Lib.hid (And.intro hi (And.intro hz0 (And.intro hz1 hz2)))
  clear hi hz0 hz1 hz2
  obtain ⟨k, hk⟩ : ∃ k : Nat, x % n.nodes.length = k := ⟨_, rfl⟩
  have hkl : k < n.nodes.length := by rw [← hk]; exact Nat.mod_lt _ (by omega)
  have htm : Int.tmod (x : Int) (n.nodes.length : Int) = (k : Int) := by rw [Int.tmod_eq_emod_of_nonneg (by omega)]; omega
  obtain ⟨L, hL⟩ : ∃ L : Nat, k + 1 = L := ⟨_, rfl⟩
  have hwx := wrap_nat (a := x) (by omega)
  have hwk := wrap_nat (a := k) (by omega)
  have hwL : IntKind.i64.wrap ((k : Int) + 1) = (L : Int) := by rw [wrap_int (by omega) (by omega)]; omega
  have hL1 : 1 ≤ L := by omega
  have hLn : L ≤ n.nodes.length := by omega
  have hlc : n.nodes.length ≤ c1 := hc1
  have l0 : (0 : Int) ≤ (L : Int) := by omega
  have l1 : (L : Int) ≤ (c1 : Int) := by omega
  obtain ⟨bb, off, rfl, -⟩ := (H1.out.gr (Gr.trans BW.out G3.out)) 0 n.nodes[0] (List.getElem?_eq_getElem (by omega))
  have hw0 : w.heap.size < w3.heap.size := cell_lt (KEEP.out _ G3.out).1
  clear hk hL hkl
  go_upto_region 6 with fail
  obtain ⟨X, eX, GX, XB, XS⟩ : ∃ X, w3.alloc (.cells #[.slice none 0 0, .slice none 0 0, .slice none 0 0, .slice none 0 0, .slice none 0 0] 27) = X ∧ Hid (Gr w3 X) ∧ Hid (X.heap[w3.heap.size]? = some (.cells #[.slice none 0 0, .slice none 0 0, .slice none 0 0, .slice none 0 0, .slice none 0 0] 27 (0, 0))) ∧ Hid (X.heap.size = w3.heap.size + 1) :=
    ⟨_, rfl, Lib.hid (bel_alloc _ _), Lib.hid (heap_new' _ _), Lib.hid (by simp)⟩
  rw [eX]
  clear eX e0 e1 e2 e3 e4 htm hwx hwk hwL
  obtain ⟨e0, e1, e2, e3, e4⟩ := KEEP.out _ (Gr.trans G3.out GX.out)
  obtain ⟨x0, x1, x2, x3, x4⟩ := KEEP.out (X.alloc (.cells #[] 41)) (Gr.trans G3.out (Gr.trans GX.out (bel_alloc _ _)))
  have hlt2 : (n.nodes.take L).length = L := by rw [List.length_take]; omega
  have HLT := Lib.hid hlt2
  clear hlt2
  go_upto_region 7 with (at_builtin; refine append_src _ rfl _ _ 22 rfl X.heap.size 41 i0 (.agg #[.int .i64 0, .int .i64 0, .int .i64 0, .int .i64 0, .int .i64 0, .int .i64 0, .int .i64 0]) 7 56 Try.underlying22 HI.out.1 HI.out.2.1 HI.out.2.2.1 HI.out.2.2.2 rfl (by decide) (.slice (some ⟨X.heap.size, 0, none⟩) 0 0) 0 [] rfl (own_empty X 41 7 X.heap.size (Nat.le_refl _)) (some ⟨bb, off, none⟩) L c1 ((n.nodes.take L).flatMap ndL) rfl (fun h => by simp at h) (by rw [flat_len ndL ndL_len, HLT.out]) (nd_news ((H1.out.gr (Gr.trans BW.out (Gr.trans G3.out (Gr.trans GX.out (bel_alloc X (.cells #[] 41)))))).take L)) (nd_one _) (by unfold maxLen; omega) (by omega) (by simp) ?_; intro v5 w5 hown hb5; have B5 := Lib.hid (show Gr X w5 from Below.trans (bel_alloc X (.cells #[] 41)) hb5); have hown5 : w5.ownsRow X.heap.size 41 7 v5 L ((n.nodes.take L).flatMap ndL) := (by simpa using hown); obtain ⟨g6, d6, rfl, hg6, hl6⟩ := hown5.form (by omega); have O5 := Lib.hid hown5; obtain ⟨y0, y1, y2, y3, y4, yf⟩ := box_heap (heap_gr XB.out B5.out); obtain ⟨e0, e1, e2, e3, e4⟩ := KEEP.out _ (Gr.trans G3.out (Gr.trans GX.out B5.out)); clear hown hown5 hb5)
  obtain ⟨W5, eW5, OK5, S5⟩ : ∃ W5, w5.setCell ⟨w3.heap.size, 0, none⟩ (.slice (some ⟨g6, 0, none⟩) L d6) = W5 ∧ Hid (AhP n L g6 d6 w3.heap.size X.heap.size W5.heap.size W5.heap.size (.slice none 0 0) (.slice none 0 0) [] [] W0 W5) ∧ Hid (W5.heap.size = W5.heap.size) := by
    have hxs := XS.out
    refine ⟨_, rfl, Lib.hid ⟨?_, ?_, own_set O5.out (by omega), World.ownsRow_nil _ _ _ _, World.ownsRow_nil _ _ _ _, by omega, hg6, by simpa using hl6, Nat.le_refl _, Nat.le_refl _, G3.out.size⟩, Lib.hid rfl⟩
    · exact Below.setCell (Gr.trans G3.out (Gr.trans GX.out B5.out)) (p := ⟨w3.heap.size, 0, none⟩) G3.out.size _
    · have h7 := heap_setCell_same w5 w3.heap.size 0 _ 27 (.slice (some ⟨g6, 0, none⟩) L d6) (heap_gr XB.out B5.out)
      simpa using h7
  rw [eW5]
  obtain ⟨B1, hB1⟩ : ∃ B1, W5.heap.size = B1 := ⟨_, rfl⟩
  rw [hB1] at OK5
  clear hB1 S5
  clear eW5 e0 e1 e2 e3 e4 x0 x1 x2 x3 x4 y0 y1 y2 y3 y4 yf O5 B5 hl6 hg6
  go_wp2_with fail
  go_loopg [12] n.ins.length (fun g i wr => ∃ (j : Nat) (vI : Value), j + g = n.ins.length ∧ i = .int .i64 j ∧ Hid (AhP n L g6 d6 w3.heap.size X.heap.size B1 B1 vI (.slice none 0 0) ((n.ins.take j).filter (preI L)) [] W0 wr))
  case atStart => exact ⟨0, _, by omega, rfl, OK5⟩
  case round =>
    obtain ⟨j, vI, hjg, rfl, HP⟩ := hrel
    have HJ2 := Lib.hid hjg
    have hjl : j ≤ n.ins.length := by omega
    clear hjg
    obtain ⟨e0, e1, e2, e3, e4⟩ := KEEP.out _ HP.out.1
    obtain ⟨f0, f1, f2, f3, f4, ff⟩ := box_heap HP.out.2.1
    by_cases hlt2 : j < n.ins.length
    · have hsx : n.ins[j]? = some n.ins[j] := List.getElem?_eq_getElem hlt2
      generalize n.ins[j] = p at hsx
      have HS := Lib.hid (filt_step (f := preI L) hsx)
      have HSXX := Lib.hid hsx
      obtain ⟨b2, o2, rfl, -, dS, dN⟩ := (H2.out.gr (Gr.trans BW.out HP.out.1)) j p hsx
      have hlen : ((n.ins.take j).filter (preI L)).length ≤ 400 := Nat.le_trans (List.length_filter_le _ _) (by rw [List.length_take]; omega)
      have HLN2 := Lib.hid hlen
      have i1 : (j : Int) < (n.ins.length : Int) := by omega
      have i2 : (0 : Int) ≤ (j : Int) := by omega
      clear hsx hlen
      by_cases hp : p.node < (L : Int)
      · have HPN := Lib.hid hp
        have HE := Lib.hid (fun (u : World) (hu : Gr W0 u) => (show (fun u : World => u.cell? ⟨w.heap.size, 0, none⟩ = some (.slice (some ⟨bb, off, none⟩) n.nodes.length c1) ∧ u.cell? ⟨w.heap.size, 1, none⟩ = some (.slice (some ⟨b2, o2, none⟩) n.ins.length c2) ∧ u.cell? ⟨w.heap.size, 2, none⟩ = some (.slice A3 n.cells.length c3) ∧ u.cell? ⟨w.heap.size, 3, none⟩ = some (.slice A4 n.props.length c4) ∧ u.cell? ⟨w.heap.size, 4, none⟩ = some (.slice A5 n.names.length c5) ∧ u.cell? ⟨b2, o2 + j * 2, none⟩ = some (.string p.s) ∧ u.cell? ⟨b2, o2 + j * 2 + 1, none⟩ = some (.int .i64 p.node)) u from by
          obtain ⟨h0, h1, h2, h3, h4⟩ := KEEP.out _ hu
          obtain ⟨b', o', e', -, h5, h6⟩ := (H2.out.gr (Gr.trans BW.out hu)) j p HSXX.out
          simp only [Option.some.injEq, Addr.mk.injEq, and_true] at e'
          obtain ⟨rfl, rfl⟩ := e'
          exact ⟨h0, h1, h2, h3, h4, h5, h6⟩))
        go_upto_region 11 with fail
        refine wp_region_held_drew (S := (fun u : World => u.cell? ⟨w.heap.size, 0, none⟩ = some (.slice (some ⟨bb, off, none⟩) n.nodes.length c1) ∧ u.cell? ⟨w.heap.size, 1, none⟩ = some (.slice (some ⟨b2, o2, none⟩) n.ins.length c2) ∧ u.cell? ⟨w.heap.size, 2, none⟩ = some (.slice A3 n.cells.length c3) ∧ u.cell? ⟨w.heap.size, 3, none⟩ = some (.slice A4 n.props.length c4) ∧ u.cell? ⟨w.heap.size, 4, none⟩ = some (.slice A5 n.names.length c5) ∧ u.cell? ⟨b2, o2 + j * 2, none⟩ = some (.string p.s) ∧ u.cell? ⟨b2, o2 + j * 2 + 1, none⟩ = some (.int .i64 p.node))) (by kernel_rfl) (HE.out _ (Gr.trans HP.out.1 (Gr.drew wr))) (fun hHeld => ?_)
        refine wpAnyH_take (i := 0) (oi := { dst := some 62, op := Op.fieldAddr 27 (Operand.tmp 11) 1, type := 0, pos := "law.go:112", after := #[], guard := none }) (v := ?_) rfl (by kernel_rfl) (by kernel_rfl) (by kernel_rfl) (fun _ _ _ h => h) (Or.inl ⟨by rfl, ?_⟩) hHeld ?_
        case refine_2 => (intro w hSw; (try dsimp only at hSw); go_simp; try (with_reducible rfl))
        try simp only [Act.put, List.setIfInBounds_toArray, List.set_cons_zero, List.set_cons_succ]
        refine wpAnyH_take (i := 2) (oi := { dst := some 64, op := Op.fieldAddr 27 (Operand.tmp 4) 1, type := 0, pos := "law.go:112", after := #[], guard := none }) (v := ?_) rfl (by kernel_rfl) (by kernel_rfl) (by kernel_rfl) (fun _ _ _ h => h) (Or.inl ⟨by rfl, ?_⟩) hHeld ?_
        case refine_2 => (intro w hSw; (try dsimp only at hSw); go_simp; try (with_reducible rfl))
        try simp only [Act.put, List.setIfInBounds_toArray, List.set_cons_zero, List.set_cons_succ]
        refine wpAnyH_take (i := 3) (oi := { dst := some 65, op := Op.load 23 (Operand.tmp 64), type := 23, pos := "law.go:112", after := #[{ on := 2, ground := Ground.data }], guard := none }) (v := ?_) rfl (by kernel_rfl) (by kernel_rfl) (by kernel_rfl) (fun _ _ _ h => h) (Or.inl ⟨by rfl, ?_⟩) hHeld ?_
        case refine_2 => (intro w hSw; (try dsimp only at hSw); go_simp; try (with_reducible rfl))
        try simp only [Act.put, List.setIfInBounds_toArray, List.set_cons_zero, List.set_cons_succ]
        refine wpAnyH_take (i := 4) (oi := { dst := some 66, op := Op.move (Operand.tmp 12), type := 3, pos := "law.go:112", after := #[], guard := none }) (v := ?_) rfl (by kernel_rfl) (by kernel_rfl) (by kernel_rfl) (fun _ _ _ h => h) (Or.inl ⟨by rfl, ?_⟩) hHeld ?_
        case refine_2 => (intro w hSw; (try dsimp only at hSw); go_simp; try (with_reducible rfl))
        try simp only [Act.put, List.setIfInBounds_toArray, List.set_cons_zero, List.set_cons_succ]
        refine wpAnyH_take (i := 5) (oi := { dst := some 67, op := Op.indexAddr 23 (Operand.tmp 65) (Operand.tmp 66), type := 0, pos := "law.go:112", after := #[{ on := 3, ground := Ground.data }, { on := 4, ground := Ground.data }], guard := none }) (v := ?_) rfl (by kernel_rfl) (by kernel_rfl) (by kernel_rfl) (fun _ _ _ h => h) (Or.inl ⟨by rfl, ?_⟩) hHeld ?_
        case refine_2 => (intro w hSw; (try dsimp only at hSw); go_simp; try (with_reducible rfl))
        try simp only [Act.put, List.setIfInBounds_toArray, List.set_cons_zero, List.set_cons_succ]
        refine wpAnyH_take (i := 6) (oi := { dst := some 68, op := Op.load 47 (Operand.tmp 67), type := 47, pos := "law.go:112", after := #[{ on := 5, ground := Ground.data }], guard := none }) (v := ?_) rfl (by kernel_rfl) (by kernel_rfl) (by kernel_rfl) (fun _ _ _ h => h) (Or.inl ⟨by rfl, ?_⟩) hHeld ?_
        case refine_2 => (intro w hSw; (try dsimp only at hSw); go_simp; try (with_reducible rfl))
        try simp only [Act.put, List.setIfInBounds_toArray, List.set_cons_zero, List.set_cons_succ]
        refine wpAnyH_ready (rs := [1, 7]) (by kernel_rfl) (by simp) ?_
        refine AllReadyH.cons (o := { dst := some 63, op := Op.load 23 (Operand.tmp 62), type := 23, pos := "law.go:112", after := #[{ on := 0, ground := Ground.data }], guard := none }) rfl (fun K hK => ?_) (AllReadyH.cons (o := { dst := some 69, op := Op.buildSlice 23 1 #[(0, Operand.tmp 68)], type := 23, pos := "law.go:112", after := #[{ on := 6, ground := Ground.data }], guard := none }) rfl (fun K hK => ?_) AllReadyH.nil)
        · skip
          go_simp
          refine hK.out _ _ (HE.out _ (Gr.trans HP.out.1 (Gr.drew wr))) (fun hHeld => ?_)
          clear hK K
          try simp only [Act.put, List.setIfInBounds_toArray, List.set_cons_zero, List.set_cons_succ]
          refine wpAnyH_ready (rs := [7]) (by kernel_rfl) (by simp) ?_
          refine AllReadyH.cons (o := { dst := some 69, op := Op.buildSlice 23 1 #[(0, Operand.tmp 68)], type := 23, pos := "law.go:112", after := #[{ on := 6, ground := Ground.data }], guard := none }) rfl (fun K hK => ?_) AllReadyH.nil
          go_simp
          refine hK.out _ _ (HE.out _ (Gr.trans HP.out.1 (Gr.trans (Gr.drew wr) (bel_alloc wr.drew (.cells #[.string p.s, .int .i64 p.node] 47))))) (fun hHeld => ?_)
          clear hK K
          try simp only [Act.put, List.setIfInBounds_toArray, List.set_cons_zero, List.set_cons_succ]
          refine wpAnyH_ready (rs := [8]) (by kernel_rfl) (by simp) ?_
          refine AllReadyH.cons (o := { dst := some 70, op := Op.call { callee := Callee.builtin Builtin.append, args := #[Operand.tmp 63, Operand.tmp 69], argTypes := #[23, 23] }, type := 23, pos := "law.go:112", after := #[{ on := 1, ground := Ground.data }, { on := 7, ground := Ground.data }], guard := none }) rfl (fun K hK => ?_) AllReadyH.nil
          have HPA := Lib.hid (HP.out.gr (Gr.trans (Gr.drew wr) (bel_alloc wr.drew (.cells #[.string p.s, .int .i64 p.node] 47))))
          refine step_append_lies _ rfl _ _ 23 rfl B1 47 iP (.agg #[.string ByteArray.empty, .int .i64 0]) 2 24 Try.underlying23 HK.out.1 HK.out.2.1 HK.out.2.2.1 HK.out.2.2.2 rfl (by decide) vI _ _ rfl HPA.out.2.2.2.1 ⟨wr.drew.heap.size, 0, none⟩ 1 1 (pnL p) rfl rfl (World.news_of_block (heap_new' wr.drew (.cells #[.string p.s, .int .i64 p.node] 47))) (fun u hu => pn_one [p] u (by simpa using hu)) (by decide) (by have := HLN2.out; unfold maxLen; omega) (by have := HLN2.out; omega) HPA.out.2.2.2.2.2.2.2.2.2.1 _ rfl ?_
          intro gz cz w6 hown hgrow hor hlt3
          have HP6 := Lib.hid (ah_ins HPA.out hgrow hown)
          have HG6 := Lib.hid (show Gr W0 w6 from by
            obtain ⟨h1, h2, h3, h4, h5, h6, h7, h8, h9, h10, h11⟩ := HPA.out
            exact Below.grown h1 hgrow h1.size (fun q hq => by have := (h4.lt q hq).1; omega))
          have HB6 := Lib.hid (show w6.heap[w3.heap.size]? = _ from by
            obtain ⟨h1, h2, h3, h4, h5, h6, h7, h8, h9, h10, h11⟩ := HPA.out
            exact (hgrow.block _ (hlt h2) (fun e => by have := (h4.lt _ e.symm).1; omega)).trans h2)
          clear hown hgrow hor hlt3 HPA
          refine hK.out _ _ (HE.out _ HG6.out) (fun hHeld => ?_)
          clear hK K
          try simp only [Act.put, List.setIfInBounds_toArray, List.set_cons_zero, List.set_cons_succ]
          obtain ⟨y0, y1, y2, y3, y4, yf⟩ := box_heap HB6.out
          refine wpAnyH_take (i := 9) (oi := { dst := some 71, op := Op.fieldAddr 27 (Operand.tmp 11) 1, type := 0, pos := "law.go:112", after := #[{ on := 0, ground := Ground.phase }, { on := 1, ground := Ground.phase }, { on := 2, ground := Ground.phase }, { on := 3, ground := Ground.phase }, { on := 4, ground := Ground.phase }, { on := 5, ground := Ground.phase }, { on := 6, ground := Ground.phase }, { on := 7, ground := Ground.phase }, { on := 8, ground := Ground.phase }], guard := none }) (v := ?_) rfl (by kernel_rfl) (by kernel_rfl) (by kernel_rfl) (fun _ _ _ h => h) (Or.inl ⟨by rfl, ?_⟩) hHeld ?_
          case refine_2 => (intro w hSw; (try dsimp only at hSw); go_simp; try (with_reducible rfl))
          try simp only [Act.put, List.setIfInBounds_toArray, List.set_cons_zero, List.set_cons_succ]
          refine wpAnyH_ready (rs := [10]) (by kernel_rfl) (by simp) ?_
          refine AllReadyH.cons (o := { dst := none, op := Op.store 23 (Operand.tmp 71) (Operand.tmp 70), type := 0, pos := "law.go:112", after := #[{ on := 9, ground := Ground.data }, { on := 8, ground := Ground.data }, { on := 8, ground := Ground.chain }, { on := 0, ground := Ground.phase }, { on := 1, ground := Ground.phase }, { on := 2, ground := Ground.phase }, { on := 3, ground := Ground.phase }, { on := 4, ground := Ground.phase }, { on := 5, ground := Ground.phase }, { on := 6, ground := Ground.phase }, { on := 7, ground := Ground.phase }, { on := 8, ground := Ground.phase }], guard := none }) rfl (fun K hK => ?_) AllReadyH.nil
          go_simp
          refine hK.out _ _ (HE.out _ HP6.out.1) (fun hHeld => ?_)
          clear hK K
          try simp only [Act.put, List.setIfInBounds_toArray, List.set_cons_zero, List.set_cons_succ]
          refine wpAnyH_done (by kernel_rfl) ?_ _
          clear e0 e1 e2 e3 e4 f0 f1 f2 f3 f4 ff y0 y1 y2 y3 y4 yf
          obtain ⟨e0, e1, e2, e3, e4⟩ := KEEP.out _ HP6.out.1
          go_wp2_with fail
          go_roundg (gk - 1)
          case measure => have := HJ2.out; omega
          case rel =>
            refine ⟨j + 1, .slice (some ⟨gz, 0, none⟩) (((n.ins.take j).filter (preI L)).length + 1) cz, by have := HJ2.out; omega, by go_num, Lib.hid ?_⟩
            rw [HS.out, if_pos (by simpa [preI] using HPN.out)]
            exact HP6.out
        · skip
          go_simp
          refine hK.out _ _ (HE.out _ (Gr.trans HP.out.1 (Gr.trans (Gr.drew wr) (bel_alloc wr.drew (.cells #[.string p.s, .int .i64 p.node] 47))))) (fun hHeld => ?_)
          clear hK K
          try simp only [Act.put, List.setIfInBounds_toArray, List.set_cons_zero, List.set_cons_succ]
          obtain ⟨y0, y1, y2, y3, y4, yf⟩ := box_heap (show (wr.alloc (.cells #[.string p.s, .int .i64 p.node] 47)).heap[w3.heap.size]? = _ from (HP.out.gr (bel_alloc wr (.cells #[.string p.s, .int .i64 p.node] 47))).2.1)
          refine wpAnyH_ready (rs := [1]) (by kernel_rfl) (by simp) ?_
          refine AllReadyH.cons (o := { dst := some 63, op := Op.load 23 (Operand.tmp 62), type := 23, pos := "law.go:112", after := #[{ on := 0, ground := Ground.data }], guard := none }) rfl (fun K hK => ?_) AllReadyH.nil
          go_simp
          refine hK.out _ _ (HE.out _ (Gr.trans HP.out.1 (Gr.trans (Gr.drew wr) (bel_alloc wr.drew (.cells #[.string p.s, .int .i64 p.node] 47))))) (fun hHeld => ?_)
          clear hK K y0 y1 y2 y3 y4 yf
          try simp only [Act.put, List.setIfInBounds_toArray, List.set_cons_zero, List.set_cons_succ]
          refine wpAnyH_ready (rs := [8]) (by kernel_rfl) (by simp) ?_
          refine AllReadyH.cons (o := { dst := some 70, op := Op.call { callee := Callee.builtin Builtin.append, args := #[Operand.tmp 63, Operand.tmp 69], argTypes := #[23, 23] }, type := 23, pos := "law.go:112", after := #[{ on := 1, ground := Ground.data }, { on := 7, ground := Ground.data }], guard := none }) rfl (fun K hK => ?_) AllReadyH.nil
          have HPA := Lib.hid (HP.out.gr (Gr.trans (Gr.drew wr) (bel_alloc wr.drew (.cells #[.string p.s, .int .i64 p.node] 47))))
          refine step_append_lies _ rfl _ _ 23 rfl B1 47 iP (.agg #[.string ByteArray.empty, .int .i64 0]) 2 24 Try.underlying23 HK.out.1 HK.out.2.1 HK.out.2.2.1 HK.out.2.2.2 rfl (by decide) vI _ _ rfl HPA.out.2.2.2.1 ⟨wr.drew.heap.size, 0, none⟩ 1 1 (pnL p) rfl rfl (World.news_of_block (heap_new' wr.drew (.cells #[.string p.s, .int .i64 p.node] 47))) (fun u hu => pn_one [p] u (by simpa using hu)) (by decide) (by have := HLN2.out; unfold maxLen; omega) (by have := HLN2.out; omega) HPA.out.2.2.2.2.2.2.2.2.2.1 _ rfl ?_
          intro gz cz w6 hown hgrow hor hlt3
          have HP6 := Lib.hid (ah_ins HPA.out hgrow hown)
          have HG6 := Lib.hid (show Gr W0 w6 from by
            obtain ⟨h1, h2, h3, h4, h5, h6, h7, h8, h9, h10, h11⟩ := HPA.out
            exact Below.grown h1 hgrow h1.size (fun q hq => by have := (h4.lt q hq).1; omega))
          have HB6 := Lib.hid (show w6.heap[w3.heap.size]? = _ from by
            obtain ⟨h1, h2, h3, h4, h5, h6, h7, h8, h9, h10, h11⟩ := HPA.out
            exact (hgrow.block _ (hlt h2) (fun e => by have := (h4.lt _ e.symm).1; omega)).trans h2)
          clear hown hgrow hor hlt3 HPA
          refine hK.out _ _ (HE.out _ HG6.out) (fun hHeld => ?_)
          clear hK K
          try simp only [Act.put, List.setIfInBounds_toArray, List.set_cons_zero, List.set_cons_succ]
          obtain ⟨y0, y1, y2, y3, y4, yf⟩ := box_heap HB6.out
          refine wpAnyH_take (i := 9) (oi := { dst := some 71, op := Op.fieldAddr 27 (Operand.tmp 11) 1, type := 0, pos := "law.go:112", after := #[{ on := 0, ground := Ground.phase }, { on := 1, ground := Ground.phase }, { on := 2, ground := Ground.phase }, { on := 3, ground := Ground.phase }, { on := 4, ground := Ground.phase }, { on := 5, ground := Ground.phase }, { on := 6, ground := Ground.phase }, { on := 7, ground := Ground.phase }, { on := 8, ground := Ground.phase }], guard := none }) (v := ?_) rfl (by kernel_rfl) (by kernel_rfl) (by kernel_rfl) (fun _ _ _ h => h) (Or.inl ⟨by rfl, ?_⟩) hHeld ?_
          case refine_2 => (intro w hSw; (try dsimp only at hSw); go_simp; try (with_reducible rfl))
          try simp only [Act.put, List.setIfInBounds_toArray, List.set_cons_zero, List.set_cons_succ]
          refine wpAnyH_ready (rs := [10]) (by kernel_rfl) (by simp) ?_
          refine AllReadyH.cons (o := { dst := none, op := Op.store 23 (Operand.tmp 71) (Operand.tmp 70), type := 0, pos := "law.go:112", after := #[{ on := 9, ground := Ground.data }, { on := 8, ground := Ground.data }, { on := 8, ground := Ground.chain }, { on := 0, ground := Ground.phase }, { on := 1, ground := Ground.phase }, { on := 2, ground := Ground.phase }, { on := 3, ground := Ground.phase }, { on := 4, ground := Ground.phase }, { on := 5, ground := Ground.phase }, { on := 6, ground := Ground.phase }, { on := 7, ground := Ground.phase }, { on := 8, ground := Ground.phase }], guard := none }) rfl (fun K hK => ?_) AllReadyH.nil
          go_simp
          refine hK.out _ _ (HE.out _ HP6.out.1) (fun hHeld => ?_)
          clear hK K
          try simp only [Act.put, List.setIfInBounds_toArray, List.set_cons_zero, List.set_cons_succ]
          refine wpAnyH_done (by kernel_rfl) ?_ _
          clear e0 e1 e2 e3 e4 f0 f1 f2 f3 f4 ff y0 y1 y2 y3 y4 yf
          obtain ⟨e0, e1, e2, e3, e4⟩ := KEEP.out _ HP6.out.1
          go_wp2_with fail
          go_roundg (gk - 1)
          case measure => have := HJ2.out; omega
          case rel =>
            refine ⟨j + 1, .slice (some ⟨gz, 0, none⟩) (((n.ins.take j).filter (preI L)).length + 1) cz, by have := HJ2.out; omega, by go_num, Lib.hid ?_⟩
            rw [HS.out, if_pos (by simpa [preI] using HPN.out)]
            exact HP6.out
      · have r1 : ¬ p.node < (L : Int) := hp
        have HPN := Lib.hid hp
        go_wp2_with fail
        go_roundg (gk - 1)
        case measure => have := HJ2.out; omega
        case rel =>
          refine ⟨j + 1, vI, by have := HJ2.out; omega, by go_num, Lib.hid ?_⟩
          rw [HS.out, if_neg (by simpa [preI] using HPN.out), List.append_nil]
          exact HP.out
    · have hjn : j = n.ins.length := by omega
      subst hjn
      have i1 : ¬ (n.ins.length : Int) < (n.ins.length : Int) := by omega
      have hp := HP.out
      rw [List.take_length] at hp
      have HP1 := Lib.hid hp
      clear hp HP HJ2
      obtain ⟨B2, hB2⟩ : ∃ B2, wr.heap.size = B2 := ⟨_, rfl⟩
      have hv2 : ∀ b, vI.ownBlock = some b → b < B2 := fun b hb => by rw [← hB2]; exact (HP1.out.2.2.2.1.lt b hb).2
      have HP2 := Lib.hid (show AhP n L g6 d6 w3.heap.size X.heap.size B1 B2 vI (.slice none 0 0) (n.ins.filter (preI L)) [] W0 wr from by
        obtain ⟨h1, h2, h3, h4, h5, h6, h7, h8, h9, h10, h11⟩ := HP1.out
        exact ⟨h1, h2, h3, h4, World.ownsRow_nil _ _ _ _, h6, h7, h8, by omega, by omega, h11⟩)
      have HV2 := Lib.hid hv2
      clear hv2 hB2 HP1
      go_wp2_with fail
      go_loopg [13, 14] n.cells.length (fun g i s14 wr => ∃ (j : Nat) (vC : Value), j + g = n.cells.length ∧ i = .int .i64 j ∧ Hid (AhP n L g6 d6 w3.heap.size X.heap.size B1 B2 vI vC (n.ins.filter (preI L)) (((n.cells.take j).filter (preC L)).map selfC) W0 wr))
      case atStart => exact ⟨0, _, by omega, rfl, HP2⟩
      case round =>
        clear e0 e1 e2 e3 e4 f0 f1 f2 f3 f4 ff HP2
        obtain ⟨j, vC, hjg, rfl, HC⟩ := hrel
        have HJ3 := Lib.hid hjg
        have hjl : j ≤ n.cells.length := by omega
        clear hjg
        obtain ⟨e0, e1, e2, e3, e4⟩ := KEEP.out _ HC.out.1
        obtain ⟨f0, f1, f2, f3, f4, ff⟩ := box_heap HC.out.2.1
        by_cases hlt2 : j < n.cells.length
        · have hsx : n.cells[j]? = some n.cells[j] := List.getElem?_eq_getElem hlt2
          generalize n.cells[j] = c at hsx
          have HS := Lib.hid (filt_step (f := preC L) hsx)
          obtain ⟨b3, o3, rfl, -, dS, dN, dX, dR⟩ := (H3.out.gr (Gr.trans BW.out HC.out.1)) j c hsx
          have hlen : ((n.cells.take j).filter (preC L)).length ≤ 400 := Nat.le_trans (List.length_filter_le _ _) (by rw [List.length_take]; omega)
          have HLN3 := Lib.hid (show (((n.cells.take j).filter (preC L)).map selfC).length ≤ 400 from by rw [List.length_map]; exact hlen)
          have i1 : (j : Int) < (n.cells.length : Int) := by omega
          have i2 : (0 : Int) ≤ (j : Int) := by omega
          clear hsx hlen
          by_cases hp : c.node < (L : Int)
          · have HPN := Lib.hid hp
            obtain ⟨x0, x1, x2, x3, x4⟩ := KEEP.out (wr.alloc (.cells #[.string c.s, .int .i64 c.node, .int .i64 c.node, .int .i64 c.reset] 43)) (Gr.trans HC.out.1 (bel_alloc _ _))
            obtain ⟨y0, y1, y2, y3, y4, yf⟩ := box_heap (HC.out.gr (bel_alloc wr (.cells #[.string c.s, .int .i64 c.node, .int .i64 c.node, .int .i64 c.reset] 43))).2.1
            obtain ⟨z0, z1, z2, z3, z4⟩ := KEEP.out (wr.alloc (.cells #[.string c.s, .int .i64 c.node, .int .i64 c.next, .int .i64 c.reset] 43)) (Gr.trans HC.out.1 (bel_alloc _ _))
            obtain ⟨u0, u1, u2, u3, u4, uf⟩ := box_heap (HC.out.gr (bel_alloc wr (.cells #[.string c.s, .int .i64 c.node, .int .i64 c.next, .int .i64 c.reset] 43))).2.1
            have HCA := Lib.hid (HC.out.gr (Gr.trans (bel_alloc wr (.cells #[.string c.s, .int .i64 c.node, .int .i64 c.node, .int .i64 c.reset] 43)) (bel_alloc (wr.alloc (.cells #[.string c.s, .int .i64 c.node, .int .i64 c.node, .int .i64 c.reset] 43)) (.cells #[.string c.s, .int .i64 c.node, .int .i64 c.node, .int .i64 c.reset] 43))))
            have HNB := Lib.hid (show ((wr.alloc (.cells #[.string c.s, .int .i64 c.node, .int .i64 c.node, .int .i64 c.reset] 43)).alloc (.cells #[.string c.s, .int .i64 c.node, .int .i64 c.node, .int .i64 c.reset] 43)).heap[wr.heap.size + 1]? = some (.cells #[.string c.s, .int .i64 c.node, .int .i64 c.node, .int .i64 c.reset] 43 (0, 0)) from by have h3 := heap_new' (wr.alloc (.cells #[.string c.s, .int .i64 c.node, .int .i64 c.node, .int .i64 c.reset] 43)) (.cells #[.string c.s, .int .i64 c.node, .int .i64 c.node, .int .i64 c.reset] 43); simpa using h3)
            go_wp2_with (at_builtin; refine wpList_append_lies _ rfl _ _ 24 rfl B2 43 i3 (.agg #[.string ByteArray.empty, .int .i64 0, .int .i64 0, .int .i64 0]) 4 40 Try.underlying24 HJ.out.1 HJ.out.2.1 HJ.out.2.2.1 HJ.out.2.2.2 rfl (by decide) vC _ _ rfl HCA.out.2.2.2.2.1 ⟨wr.heap.size + 1, 0, none⟩ 1 1 (ceL (selfC c)) rfl rfl (World.news_of_block HNB.out) (fun u hu => ce_one [selfC c] u (by simpa using hu)) (by decide) (by have := HLN3.out; unfold maxLen; omega) (by have := HLN3.out; omega) HCA.out.2.2.2.2.2.2.2.2.2.1 _ rfl ?_; intro gz cz w6 hown hgrow hor hlt3; have HC6 := Lib.hid (ah_cel HCA.out HV2.out hgrow hown); have HB6 := Lib.hid (show w6.heap[w3.heap.size]? = _ from (ah_box HCA.out hgrow)); clear hown hgrow hor hlt3; clear x0 x1 x2 x3 x4 y0 y1 y2 y3 y4 yf z0 z1 z2 z3 z4 u0 u1 u2 u3 u4 uf e0 e1 e2 e3 e4 f0 f1 f2 f3 f4 ff dS dN dX dR; obtain ⟨y0, y1, y2, y3, y4, yf⟩ := box_heap HB6.out)
            go_roundg (gk - 1)
            case measure => have := HJ3.out; omega
            case rel =>
              refine ⟨j + 1, .slice (some ⟨gz, 0, none⟩) (((n.cells.take j).filter (preC L)).length + 1) cz, by have := HJ3.out; omega, by go_num, Lib.hid ?_⟩
              rw [HS.out, if_pos (by simpa [preC] using HPN.out), List.map_append]
              have h20 := HC6.out
              simp only [List.length_map] at h20
              exact h20
          · have r1 : ¬ c.node < (L : Int) := hp
            have HPN := Lib.hid hp
            go_wp2_with fail
            go_roundg (gk - 1)
            case measure => have := HJ3.out; omega
            case rel =>
              refine ⟨j + 1, vC, by have := HJ3.out; omega, by go_num, Lib.hid ?_⟩
              rw [HS.out, if_neg (by simpa [preC] using HPN.out), List.append_nil]
              exact HC.out
        · have hjn : j = n.cells.length := by omega
          subst hjn
          have i1 : ¬ (n.cells.length : Int) < (n.cells.length : Int) := by omega
          have hp := HC.out
          rw [List.take_length] at hp
          have HC1 := Lib.hid hp
          clear hp HC HJ3
          clear e0 e1 e2 e3 e4 f0 f1 f2 f3 f4 ff
          obtain ⟨cI, hcI⟩ : ∃ cI, (n.ins.filter (preI L)).length = cI := ⟨_, rfl⟩
          obtain ⟨cC, hcC⟩ : ∃ cC, ((n.cells.filter (preC L)).map selfC).length = cC := ⟨_, rfl⟩
          have hcI2 : cnt 21 (n.nodes.take L) = cI := by rw [← hcI, cut_lenI hR hLn]
          have hcC2 : cnt 22 (n.nodes.take L) = cC := by rw [← hcC, List.length_map, cut_lenC hR hLn]
          have hcI3 : cI ≤ n.ins.length := by rw [← hcI]; exact List.length_filter_le _ _
          have hcC3 : cC ≤ n.cells.length := by rw [← hcC, List.length_map]; exact List.length_filter_le _ _
          have hpk := HC1.out
          obtain ⟨h1, h2, h3, h4, h5, h6, h7, h8, h9, h10, h11⟩ := hpk
          obtain ⟨AI, dI, rfl, hdI, -, hPI⟩ := pn_own h4 rfl
          obtain ⟨AC, dC, rfl, hdC, -, hCC⟩ := ce_own h5 rfl
          obtain ⟨AN, dN, eN, hdN, -, hNN⟩ := nd_own h3 HLT.out
          simp only [Value.slice.injEq, true_and] at eN
          obtain ⟨rfl, rfl⟩ := eN
          have GR := Lib.hid h1
          have NM := Lib.hid (show NtAt wr (cutN n L) (ntV (some ⟨g6, 0, none⟩) AI AC none none L cI cC 0 0 d6 dI dC 0 0) from by
            refine ⟨some ⟨g6, 0, none⟩, AI, AC, none, none, d6, dI, dC, 0, 0, ?_, ?_, hNN, hPI, hCC, fun i y h => by simp [cutN] at h, fun i y h => by simp [cutN] at h⟩
            · show ntV _ _ _ _ _ L cI cC _ _ _ _ _ _ _ = ntV _ _ _ _ _ (n.nodes.take L).length (n.ins.filter (preI L)).length ((n.cells.filter (preC L)).map selfC).length _ _ _ _ _ _ _
              rw [HLT.out, hcI, hcC]
              rfl
            · show (n.nodes.take L).length ≤ _
              rw [HLT.out]
              exact hdN)
          rw [hcI, hcC] at h2
          have HB2 := Lib.hid h2
          clear h1 h2 h3 h4 h5 h6 h7 h8 h9 h10 h11 hdI hPI hdC hCC hNN hdN HV2 HC1
          have KPR := Lib.hid (fun (u : World) (hu : Gr wr u) => (show BxAt u w.heap.size n (some ⟨bb, off, none⟩) A2 A3 A4 A5 c1 c2 c3 c4 c5 ∧ Bx5 u w3.heap.size (.slice (some ⟨g6, 0, none⟩) L d6) (.slice AI cI dI) (.slice AC cC dC) (.slice none 0 0) (.slice none 0 0) from by
            obtain ⟨k0, k1, k2, k3, k4, -⟩ := box_heap (heap_gr HB2.out hu)
            exact ⟨KEEP.out _ (Gr.trans GR.out hu), k0, k1, k2, k3, k4⟩))
          have hRm : NRight (cutN n L) := cut_right hR hLn
          have hsm : Sz (cutN n L) := by
            unfold Sz
            have z1 : (cutN n L).nodes.length = L := HLT.out
            have z2 : (cutN n L).ins.length = cI := hcI
            have z3 : (cutN n L).cells.length = cC := hcC
            have z4 : (cutN n L).props.length = 0 := rfl
            have z5 : (cutN n L).names.length = 0 := rfl
            omega
          obtain ⟨ev, hev⟩ : ∃ ev, evAll n (stOf n a) (inOf n b) = ev := ⟨_, rfl⟩
          have hevm : evAll (cutN n L) ((stOf n a).take cC) ((inOf n b).take cI) = ev.take L := by rw [← hev, ← hcI2, ← hcC2]; exact cut_ev hR hLn _ _
          have hvl : ev.length = n.nodes.length := by rw [← hev]; exact evL_len _ _ _ _ (Nat.le_refl _)
          have HLM := Lib.hid (evL_lim hRm (st := (stOf n a).take cC) (ins := (inOf n b).take cI) (by rw [← hcC2]; exact cut_stOk hR hLn HSO.out) (by rw [← hcI2]; exact cut_inOk hR hLn HIO.out))
          have HLN := Lib.hid (evL_lim hR HSO.out HIO.out)
          have HEV := Lib.hid (And.intro hev (And.intro hevm hvl))
          clear hev hevm hvl hcI hcC hcI2 hcC2 HSO HIO
          obtain ⟨⟨e0, e1, e2, e3, e4⟩, f0, f1, f2, f3, f4⟩ := KPR.out _ (Gr.refl _)
          go_wp2_with fail
          refine (RW.out _ (Gr.trans BW.out GR.out)).mono ?_
          rintro e wA ⟨sv, iv, rfl, hsv, hiv, hg⟩
          have HSV := Lib.hid hsv
          have HIV := Lib.hid hiv
          have GA := Lib.hid hg
          obtain ⟨As, cs, rfl, hcs, hss⟩ := hsv
          obtain ⟨Ai, ci, rfl, hci, hii⟩ := hiv
          have HSS := Lib.hid hss
          have HII := Lib.hid hii
          rw [ofN_len, stOf_len] at hcs HSV ⊢
          rw [ofN_len, inOf_len] at hci HIV ⊢
          clear hg hss hii e0 e1 e2 e3 e4 f0 f1 f2 f3 f4 RW i1
          obtain ⟨⟨e0, e1, e2, e3, e4⟩, f0, f1, f2, f3, f4⟩ := KPR.out _ GA.out
          have IS := Lib.hid (fun (u : World) (hu : Gr wA u) => (show IntR u (.slice As cC cs) (ofN ((stOf n a).take cC)) from ⟨As, cs, by rw [ofN_len, List.length_take, stOf_len, Nat.min_eq_left hcC3], by rw [ofN_len, List.length_take, stOf_len]; omega, by rw [← ofN_take]; exact (HSS.out.gr hu).take cC⟩))
          have II := Lib.hid (fun (u : World) (hu : Gr wA u) => (show IntR u (.slice Ai cI ci) (ofN ((inOf n b).take cI)) from ⟨Ai, ci, by rw [ofN_len, List.length_take, inOf_len, Nat.min_eq_left hcI3], by rw [ofN_len, List.length_take, inOf_len]; omega, by rw [← ofN_take]; exact (HII.out.gr hu).take cI⟩))
          have EVm := Lib.hid (fun (u : World) (hu : Gr wA u) => Eval_any (cutN n L) _ _ _ ((stOf n a).take cC) ((inOf n b).take cI) u hsm (Lib.hid (NM.out.gr (Gr.trans GA.out hu))) hRm.1 (by rw [List.length_take, stOf_len]; omega) (by rw [List.length_take, inOf_len]; omega) (Lib.hid (IS.out u hu)) (Lib.hid (II.out u hu)) HLM)
          simp only [HEV.out.2.1] at EVm
          have EVn := Lib.hid (fun (u : World) (hu : Gr wA u) => Eval_any n _ _ _ (stOf n a) (inOf n b) u hs (Lib.hid (HV.out u (Gr.trans BW.out (Gr.trans GR.out (Gr.trans GA.out hu))))) hR.1 (by rw [stOf_len]; omega) (by rw [inOf_len]; omega) (Lib.hid (HSV.out.gr hu)) (Lib.hid (HIV.out.gr hu)) HLN)
          simp only [HEV.out.1] at EVn
          have RM := Lib.hid (fun (u : World) (hu : Gr wA u) => Right_any (cutN n L) _ u hsm (Lib.hid (NM.out.gr (Gr.trans GA.out hu))) true (Lib.hid ⟨fun _ => hRm, fun _ => rfl⟩))
          have SB := Lib.hid (fun (v v' : Value) (u : World) (h1 : IntR u v (ofN (ev.take L))) (h2 : IntR u v' (ofN (ev.take L))) => same_of _ v v' u (by rw [ofN_len, List.length_take]; omega) h1 h2)
          clear HLM HLN
          go_wp2_with fail
          refine (EVn.out _ (Gr.refl _)).mono ?_
          rintro e wB ⟨vB, rfl, hiB, hg⟩
          have GB := Lib.hid hg
          obtain ⟨Av, cv, rfl, hcv, hivB⟩ := hiB
          have IB := Lib.hid hivB
          have hel : (ofN ev).length = n.nodes.length := by rw [ofN_len, HEV.out.2.2]
          rw [hel] at hcv ⊢
          obtain ⟨bv, ov, rfl, -, -⟩ := IB.out 0 (ofN ev)[0] (List.getElem?_eq_getElem (by omega))
          clear hg hivB e0 e1 e2 e3 e4 f0 f1 f2 f3 f4 hel
          have IT := Lib.hid (fun (u : World) (hu : Gr wB u) => (show IntR u (.slice (some ⟨bv, ov, none⟩) L cv) (ofN (ev.take L)) from ⟨_, cv, by rw [ofN_len, List.length_take, HEV.out.2.2, Nat.min_eq_left hLn], by rw [ofN_len, List.length_take]; omega, by rw [← ofN_take]; exact (IB.out.gr hu).take L⟩))
          obtain ⟨⟨e0, e1, e2, e3, e4⟩, f0, f1, f2, f3, f4⟩ := KPR.out _ (Gr.trans GA.out GB.out)
          go_wp2_with fail
          refine (RM.out _ GB.out).mono ?_
          rintro e wC ⟨rfl, hg⟩
          have GC2 := Lib.hid hg
          clear hg e0 e1 e2 e3 e4 f0 f1 f2 f3 f4
          obtain ⟨⟨e0, e1, e2, e3, e4⟩, f0, f1, f2, f3, f4⟩ := KPR.out _ (Gr.trans GA.out (Gr.trans GB.out GC2.out))
          have r1 : ¬ (n.nodes.length : Int) < (L : Int) := by omega
          have r2 : (0 : Int) ≤ (cC : Int) := by omega
          have r3 : (cC : Int) ≤ (cs : Int) := by omega
          have r4 : (0 : Int) ≤ (cI : Int) := by omega
          have r5 : (cI : Int) ≤ (ci : Int) := by omega
          have r6 : (L : Int) ≤ (cv : Int) := by omega
          have KPX := Lib.hid (fun (u : World) (hu : Gr wC u) => KPR.out u (Gr.trans GA.out (Gr.trans GB.out (Gr.trans GC2.out hu))))
          have G1X := Lib.hid (Gr.trans GB.out GC2.out)
          go_upto_region 23 with fail
          go_region_held3 (fun u => BxAt u w.heap.size n (some ⟨bb, off, none⟩) A2 A3 A4 A5 c1 c2 c3 c4 c5 ∧ Bx5 u w3.heap.size (.slice (some ⟨g6, 0, none⟩) L d6) (.slice AI cI dI) (.slice AC cC dC) (.slice none 0 0) (.slice none 0 0))
            (first | exact KPX.out _ (Gr.drew _) | exact KPX.out _ (by assumption))
            (first
              | (go_at_call 20; (with_reducible refine (EVm.out _ (Gr.trans G1X.out (Gr.drew _))).mono ?_); rintro e t1 ⟨v1, rfl, j1, ht1'⟩; have ht1 : Gr wC t1 := Gr.trans (Gr.drew _) ht1')
              | (go_at_call 17; (with_reducible refine (SB.out v1 _ t1 j1 (IT.out t1 (Gr.trans GC2.out ht1))).mono ?_); rintro e t2 ⟨rfl, ht2'⟩; have ht2 : Gr wC t2 := Gr.trans ht1 ht2'))
          go_wp2_with fail
          go_ret
          exact ⟨rfl, Gr.trans BW.out (Gr.trans GR.out (Gr.trans GA.out (Gr.trans G1X.out ht2)))⟩
end Go.Proofs.Ytnkifhgkhgialaa
