/-
  NetTwice, WALKED.
-/
import Derived.Test.YtnkifhgkhgialaaNLle
import Derived.Test.YtnkifhgkhgialaaNTwm
import Derived.Deep.CutRange
import Derived.Deep.AppendLies
namespace Go.Proofs.Ytnkifhgkhgialaa
open Go.RowKit
open NetM
open VecM

theorem heap_below {B : Nat} {w u : World} {g : Nat} {o : Obj} (h : w.heap[g]? = some o) (hg : g < B) (hb : Below B w u) : u.heap[g]? = some o := (hb.block _ hg).trans h
theorem cell_lt {w : World} {b o : Nat} {v : Value} (hv : w.cell? ⟨b, o, none⟩ = some v) : b < w.heap.size := by
  rcases Nat.lt_or_ge b w.heap.size with h | h
  · exact h
  · simp [World.cell?, Array.getElem?_eq_none h] at hv
theorem own_set {w : World} {base n size g o : Nat} {e : TypeId} {v val : Value} {xs : List Value} (h : w.ownsRow base e size v n xs) (hg : g < base) : (w.setCell ⟨g, o, none⟩ val).ownsRow base e size v n xs := by
  refine ⟨h.1, ?_⟩
  rcases h.2 with h0 | ⟨q, cap, cur, e1, hb, hh, r⟩
  · exact .inl h0
  · exact .inr ⟨q, cap, cur, e1, hb, by rw [heap_setCell_other w ⟨g, o, none⟩ q val (by show q ≠ g; omega)]; exact hh, r⟩
theorem node_cells {w : World} {g : Nat} {y : Nd} (h : w.heap[g]? = some (.cells #[.int .i64 y.op, .int .i64 y.w, .int .i64 y.a, .int .i64 y.b, .int .i64 y.c, .int .i64 y.n, .int .i64 y.lo] 41 (0, 0))) : w.cell? ⟨g, 0, none⟩ = some (.int .i64 y.op) ∧ w.cell? ⟨g, 1, none⟩ = some (.int .i64 y.w) ∧ w.cell? ⟨g, 2, none⟩ = some (.int .i64 y.a) ∧ w.cell? ⟨g, 3, none⟩ = some (.int .i64 y.b) ∧ w.cell? ⟨g, 4, none⟩ = some (.int .i64 y.c) ∧ w.cell? ⟨g, 5, none⟩ = some (.int .i64 y.n) ∧ w.cell? ⟨g, 6, none⟩ = some (.int .i64 y.lo) := by
  refine ⟨?_, ?_, ?_, ?_, ?_, ?_, ?_⟩
  all_goals simp [World.cell?, h]
/-- what holds behind the nodes' copy -/
def TwN (n : Nt) (y : Nd) (w3 wx : World) (g2 H c2 c3 c4 c5 : Nat) (A2 A3 A4 A5 : Option Addr) (g cap : Nat) : Prop :=
  Gr w3 wx ∧ wx.heap[g2]? = some (.cells #[.slice (some ⟨g, 0, none⟩) (n.nodes.length + 1) cap, .slice A2 n.ins.length c2, .slice A3 n.cells.length c3, .slice A4 n.props.length c4, .slice A5 n.names.length c5] 27 (0, 0)) ∧ Nds wx wx.heap.size (some ⟨g, 0, none⟩) (n.nodes ++ [y]) ∧ H ≤ g ∧ n.nodes.length + 1 ≤ cap ∧ H ≤ wx.heap.size
set_option maxRecDepth 100000 in
set_option maxHeartbeats 16000000 in
theorem twice_walk (n : Nt) (v : Value) (x : Nat) (Pa Pb : Option Addr) (ca cb : Nat) (a b : List Nat) (w : World) (hx16 : x < 65536) (hn : Hid (NtAt w n v)) (hnil : Hid (NilOk v)) (ha : a.length ≤ maxLen) (ha2 : Hid (∀ x ∈ a, x < 65536)) (hA : Hid (U16s w w.heap.size Pa a)) (hb : b.length ≤ maxLen) (hb2 : Hid (∀ x ∈ b, x < 65536)) (hB : Hid (U16s w w.heap.size Pb b)) :
    Calls Try.prog 9 #[v, .int .u16 (x : Nat), .slice Pa a.length ca, .slice Pb b.length cb] w fun e w' => e = .returned (.bool true) ∧ Gr w w' := by
  have HV := Lib.hid (fun (u : World) (hu : Gr w u) => hn.out.gr hu)
  obtain ⟨A1, A2, A3, A4, A5, c1, c2, c3, c4, c5, rfl, hc1, h1, h2, h3, h4, h5⟩ := hn.out
  have H1 := Lib.hid h1
  have H2 := Lib.hid h2
  have H3 := Lib.hid h3
  have H4 := Lib.hid h4
  have H5 := Lib.hid h5
  clear h1 h2 h3 h4 h5
  obtain ⟨W0, eW, BW, KEEP⟩ : ∃ W0, w.alloc (.cells (bxC n A1 A2 A3 A4 A5 c1 c2 c3 c4 c5) 27) = W0 ∧ Hid (Gr w W0) ∧ Hid (∀ u, Gr W0 u → BxAt u w.heap.size n A1 A2 A3 A4 A5 c1 c2 c3 c4 c5) :=
    ⟨_, rfl, Lib.hid (bel_alloc _ _), Lib.hid fun u hu => bx_gr (bx_new w n A1 A2 A3 A4 A5 c1 c2 c3 c4 c5) (by simp) hu⟩
  obtain ⟨e0, e1, e2, e3, e4⟩ := KEEP.out W0 (Gr.refl _)
  have H0 := Lib.hid head_any
  obtain ⟨gb, hgb⟩ : ∃ gb : Bool, gb = true ↔ NGreat n := by classical exact ⟨decide _, decide_eq_true_iff⟩
  obtain ⟨rb, hrb⟩ : ∃ rb : Bool, rb = true ↔ NRight n := by classical exact ⟨decide _, decide_eq_true_iff⟩
  have GC := Lib.hid (fun (u : World) (hu : Gr w u) => Great_any n _ u (Lib.hid (HV.out u hu)) gb (Lib.hid hgb))
  go_enter Try.func9, Try.ntmps9
  go_wp2_with fail
  try rw [eW]
  clear eW
  refine (H0.out _).mono ?_
  rintro e w1 ⟨rfl, hg⟩
  have G1 := Lib.hid hg
  clear hg e0 e1 e2 e3 e4
  obtain ⟨e0, e1, e2, e3, e4⟩ := KEEP.out _ G1.out
  go_wp2_with fail
  refine (GC.out _ (Gr.trans BW.out G1.out)).mono ?_
  rintro e w2 ⟨rfl, hg⟩
  have G2 := Lib.hid (Gr.trans G1.out hg)
  clear hg e0 e1 e2 e3 e4
  obtain ⟨e0, e1, e2, e3, e4⟩ := KEEP.out _ G2.out
  cases gb with
  | true =>
    go_wp2_with fail
    all_goals
      go_ret
      exact ⟨rfl, Gr.trans BW.out G2.out⟩
  | false =>
  have hz := sz_of (fun h => by have := hgb.2 h; simp at this)
  have hs : Sz n := by unfold Sz; omega
  have RC := Lib.hid (fun (u : World) (hu : Gr w u) => RRight_any n _ u hs (Lib.hid (HV.out u hu)) rb (Lib.hid hrb))
  clear hgb GC
  go_wp2_with fail
  refine (RC.out _ (Gr.trans BW.out G2.out)).mono ?_
  rintro e w3 ⟨rfl, hg⟩
  have G3 := Lib.hid (Gr.trans G2.out hg)
  clear hg e0 e1 e2 e3 e4 RC
  obtain ⟨e0, e1, e2, e3, e4⟩ := KEEP.out _ G3.out
  cases rb with
  | false =>
    go_wp2_with fail
    all_goals
      go_ret
      exact ⟨rfl, Gr.trans BW.out G3.out⟩
  | true =>
  have hR := hrb.1 rfl
  clear hrb
  have hw := wok_of hR.1
  have hC := hR.2.2.1.1
  have hI := hR.2.1.2
  have hnl := hnil.out _ _ _ _ _ _ _ _ _ _ _ _ _ _ _ rfl
  have HNL := Lib.hid hnl
  clear hnl hnil
  by_cases hz0 : n.nodes.length = 0
  · have q0 : ((n.nodes.length : Int) == 0) = true := by simp [hz0]
    clear hz0
    go_wp2_with fail
    all_goals
      go_ret
      exact ⟨rfl, Gr.trans BW.out G3.out⟩
  have q0 : ((n.nodes.length : Int) == 0) = false := beq_eq_false_iff_ne.2 (by omega)
  have q1 : ¬ (n.nodes.length : Int) = 0 := by omega
  have RW := Lib.hid (fun (u : World) (hu : Gr w u) => Rows_any n _ Pa Pb ca cb a b u hs (Lib.hid (HV.out u hu)) hw hC hI ha hb (Lib.hid (hA.out.gr hu)) (Lib.hid (hB.out.gr hu)) ha2 hb2)
  have HSO := Lib.hid (stOf_ok n a)
  have HIO := Lib.hid (inOf_ok n b)
  obtain ⟨i0, hi, hz0, hz1, hz2⟩ := info_parts info41
  have HI := Lib.hid (And.intro hi (And.intro hz0 (And.intro hz1 hz2)))
  clear hi hz0 hz1 hz2
  obtain ⟨i3, hi, hz0, hz1, hz2⟩ := info_parts info43
  have HJ := Lib.hid (And.intro hi (And.intro hz0 (And.intro hz1 hz2)))
  clear hi hz0 hz1 hz2
  obtain ⟨k, hk⟩ : ∃ k : Nat, x % n.nodes.length = k := ⟨_, rfl⟩
  have hkl : k < n.nodes.length := by rw [← hk]; exact Nat.mod_lt _ (by omega)
  have htm : Int.tmod (x : Int) (n.nodes.length : Int) = (k : Int) := by rw [Int.tmod_eq_emod_of_nonneg (by omega)]; omega
  have hwx := wrap_nat (a := x) (by omega)
  have hwk := wrap_nat (a := k) (by omega)
  have hy : n.nodes[k]? = some n.nodes[k] := List.getElem?_eq_getElem hkl
  generalize n.nodes[k] = y at hy
  have HY := Lib.hid hy
  obtain ⟨bb, off, rfl, -, d0, d1, d2, d3, d4, d5, d6⟩ := (H1.out.gr (Gr.trans BW.out G3.out)) k y hy
  have k1 : (k : Int) < (n.nodes.length : Int) := by omega
  have k2 : (0 : Int) ≤ (k : Int) := by omega
  clear hy hk
  go_upto_region 6 with fail
  clear d0 d1 d2 d3 d4 d5 d6 htm hwx
  by_cases h21 : y.op = 21
  · have q2 : (y.op == 21) = true := by simp [h21]
    clear h21
    go_wp2_with fail
    all_goals
      go_ret
      exact ⟨rfl, Gr.trans BW.out (Gr.trans G3.out (bel_alloc _ _))⟩
  by_cases h22 : y.op = 22
  · have q2 : (y.op == 21) = false := by simp [h21]
    have q3 : (y.op == 22) = true := by simp [h22]
    clear h21 h22
    go_wp2_with fail
    all_goals
      go_ret
      exact ⟨rfl, Gr.trans BW.out (Gr.trans G3.out (bel_alloc _ _))⟩
  have q2 : (y.op == 21) = false := by simp [h21]
  have q3 : (y.op == 22) = false := by simp [h22]
  have H21 := Lib.hid h21
  have H22 := Lib.hid h22
  clear h21 h22
  obtain ⟨x0, x1, x2, x3, x4⟩ := KEEP.out (w3.alloc (.cells #[.int .i64 y.op, .int .i64 y.w, .int .i64 y.a, .int .i64 y.b, .int .i64 y.c, .int .i64 y.n, .int .i64 y.lo] 41)) (Gr.trans G3.out (bel_alloc _ _))
  go_upto_region 9 with fail
  obtain ⟨X, eX, GX, XN, XB, XS⟩ : ∃ X, (w3.alloc (.cells #[.int .i64 y.op, .int .i64 y.w, .int .i64 y.a, .int .i64 y.b, .int .i64 y.c, .int .i64 y.n, .int .i64 y.lo] 41)).alloc (.cells #[.slice (some ⟨bb, off, none⟩) n.nodes.length c1, .slice A2 n.ins.length c2, .slice A3 n.cells.length c3, .slice A4 n.props.length c4, .slice A5 n.names.length c5] 27) = X ∧ Hid (Gr w3 X) ∧ Hid (X.heap[w3.heap.size]? = some (.cells #[.int .i64 y.op, .int .i64 y.w, .int .i64 y.a, .int .i64 y.b, .int .i64 y.c, .int .i64 y.n, .int .i64 y.lo] 41 (0, 0))) ∧ Hid (X.heap[w3.heap.size + 1]? = some (.cells #[.slice (some ⟨bb, off, none⟩) n.nodes.length c1, .slice A2 n.ins.length c2, .slice A3 n.cells.length c3, .slice A4 n.props.length c4, .slice A5 n.names.length c5] 27 (0, 0))) ∧ Hid (X.heap.size = w3.heap.size + 2) := by
    refine ⟨_, rfl, Lib.hid (Gr.trans (bel_alloc _ _) (bel_alloc _ _)), Lib.hid ?_, Lib.hid ?_, Lib.hid (by simp)⟩
    · rw [Below.heap_alloc _ _ _ (by simp)]
      exact heap_new' _ _
    · have := heap_new' (w3.alloc (.cells #[.int .i64 y.op, .int .i64 y.w, .int .i64 y.a, .int .i64 y.b, .int .i64 y.c, .int .i64 y.n, .int .i64 y.lo] 41)) (.cells #[.slice (some ⟨bb, off, none⟩) n.nodes.length c1, .slice A2 n.ins.length c2, .slice A3 n.cells.length c3, .slice A4 n.props.length c4, .slice A5 n.names.length c5] 27)
      simpa using this
  rw [eX]
  clear eX e0 e1 e2 e3 e4 x0 x1 x2 x3 x4
  have hw0 : w.heap.size < w3.heap.size := cell_lt (KEEP.out _ G3.out).1
  have SX := Lib.hid (fun (u : World) (hu : Gr X u) => (show (fun u : World => u.cell? ⟨w3.heap.size, 0, none⟩ = some (.int .i64 y.op) ∧ u.cell? ⟨w3.heap.size, 1, none⟩ = some (.int .i64 y.w) ∧ u.cell? ⟨w3.heap.size, 2, none⟩ = some (.int .i64 y.a) ∧ u.cell? ⟨w3.heap.size, 3, none⟩ = some (.int .i64 y.b) ∧ u.cell? ⟨w3.heap.size, 4, none⟩ = some (.int .i64 y.c) ∧ u.cell? ⟨w3.heap.size, 5, none⟩ = some (.int .i64 y.n) ∧ u.cell? ⟨w3.heap.size, 6, none⟩ = some (.int .i64 y.lo) ∧ u.cell? ⟨w.heap.size, 0, none⟩ = some (.slice (some ⟨bb, off, none⟩) n.nodes.length c1)) u from by
    obtain ⟨z0, z1, z2, z3, z4, z5, z6⟩ := node_cells (heap_gr XN.out hu)
    exact ⟨z0, z1, z2, z3, z4, z5, z6, (KEEP.out u (Gr.trans G3.out (Gr.trans GX.out hu))).1⟩))
  have SY := Lib.hid (fun (u : World) (val : Value) (hu : Gr X u) => (show (fun u : World => u.cell? ⟨w3.heap.size, 0, none⟩ = some (.int .i64 y.op) ∧ u.cell? ⟨w3.heap.size, 1, none⟩ = some (.int .i64 y.w) ∧ u.cell? ⟨w3.heap.size, 2, none⟩ = some (.int .i64 y.a) ∧ u.cell? ⟨w3.heap.size, 3, none⟩ = some (.int .i64 y.b) ∧ u.cell? ⟨w3.heap.size, 4, none⟩ = some (.int .i64 y.c) ∧ u.cell? ⟨w3.heap.size, 5, none⟩ = some (.int .i64 y.n) ∧ u.cell? ⟨w3.heap.size, 6, none⟩ = some (.int .i64 y.lo) ∧ u.cell? ⟨w.heap.size, 0, none⟩ = some (.slice (some ⟨bb, off, none⟩) n.nodes.length c1)) (u.setCell ⟨w3.heap.size + 1, 0, none⟩ val) from by
    obtain ⟨z0, z1, z2, z3, z4, z5, z6, z7⟩ := SX.out u hu
    have ne1 : w3.heap.size ≠ w3.heap.size + 1 := by omega
    have ne2 : w.heap.size ≠ w3.heap.size + 1 := by omega
    refine ⟨?_, ?_, ?_, ?_, ?_, ?_, ?_, ?_⟩
    all_goals first
      | (rw [set_ne ne1]; assumption)
      | (rw [set_ne ne2]; assumption)))
  have FIN := Lib.hid (fun (u : World) (g cap : Nat) (hu : Gr X u) (ho : u.ownsRow X.heap.size 41 7 (.slice (some ⟨g, 0, none⟩) (n.nodes.length + 1) cap) (n.nodes.length + 1) (n.nodes.flatMap ndL ++ ndL y)) => (show TwN n y w3 (u.setCell ⟨w3.heap.size + 1, 0, none⟩ (.slice (some ⟨g, 0, none⟩) (n.nodes.length + 1) cap)) (w3.heap.size + 1) X.heap.size c2 c3 c4 c5 A2 A3 A4 A5 g cap from by
    have ho' : u.ownsRow X.heap.size 41 7 (.slice (some ⟨g, 0, none⟩) (n.nodes.length + 1) cap) (n.nodes.length + 1) ((n.nodes ++ [y]).flatMap ndL) := by simpa using ho
    have hge := (ho.lt g rfl).1
    have hxs := XS.out
    obtain ⟨A, c, e1, hc, -, hN⟩ := nd_own ho' (by simp)
    simp only [Value.slice.injEq, true_and] at e1
    obtain ⟨rfl, rfl⟩ := e1
    refine ⟨Below.setCell (Gr.trans GX.out hu) (p := ⟨w3.heap.size + 1, 0, none⟩) (by show w3.heap.size ≤ w3.heap.size + 1; omega) _, ?_, nds_set hN (by simp) (fun b' off' e => ?_), hge, hc, by have := hu.size; simp; omega⟩
    · have h7 := heap_setCell_same u (w3.heap.size + 1) 0 _ 27 (.slice (some ⟨g, 0, none⟩) (n.nodes.length + 1) cap) (heap_gr XB.out hu)
      simpa using h7
    · simp only [Option.some.injEq, Addr.mk.injEq] at e
      omega))
  go_cut [] from 53 to 60 (fun wx => ∃ g cap, Hid (TwN n y w3 wx (w3.heap.size + 1) X.heap.size c2 c3 c4 c5 A2 A3 A4 A5 g cap))
  case first =>
    refine wp_region_held_drew (S := (fun u : World => u.cell? ⟨w3.heap.size, 0, none⟩ = some (.int .i64 y.op) ∧ u.cell? ⟨w3.heap.size, 1, none⟩ = some (.int .i64 y.w) ∧ u.cell? ⟨w3.heap.size, 2, none⟩ = some (.int .i64 y.a) ∧ u.cell? ⟨w3.heap.size, 3, none⟩ = some (.int .i64 y.b) ∧ u.cell? ⟨w3.heap.size, 4, none⟩ = some (.int .i64 y.c) ∧ u.cell? ⟨w3.heap.size, 5, none⟩ = some (.int .i64 y.n) ∧ u.cell? ⟨w3.heap.size, 6, none⟩ = some (.int .i64 y.lo) ∧ u.cell? ⟨w.heap.size, 0, none⟩ = some (.slice (some ⟨bb, off, none⟩) n.nodes.length c1))) (by kernel_rfl) (SX.out _ (Gr.drew _)) (fun hHeld => ?_)
    refine wpAnyH_take (i := 1) (oi := { dst := some 54, op := Op.fieldAddr 27 (Operand.tmp 4) 0, type := 0, pos := "law.go:242", after := #[], guard := none }) (v := ?_) rfl (by kernel_rfl) (by kernel_rfl) (by kernel_rfl) (fun _ _ _ h => h) (Or.inl ⟨by rfl, ?_⟩) hHeld ?_
    case refine_2 => (intro w hSw; (try dsimp only at hSw); go_simp; try (with_reducible rfl))
    try simp only [Act.put, List.setIfInBounds_toArray, List.set_cons_zero, List.set_cons_succ]
    refine wpAnyH_take (i := 2) (oi := { dst := some 55, op := Op.load 22 (Operand.tmp 54), type := 22, pos := "law.go:242", after := #[{ on := 1, ground := Ground.data }], guard := none }) (v := ?_) rfl (by kernel_rfl) (by kernel_rfl) (by kernel_rfl) (fun _ _ _ h => h) (Or.inl ⟨by rfl, ?_⟩) hHeld ?_
    case refine_2 => (intro w hSw; (try dsimp only at hSw); go_simp; try (with_reducible rfl))
    try simp only [Act.put, List.setIfInBounds_toArray, List.set_cons_zero, List.set_cons_succ]
    refine wpAnyH_take (i := 4) (oi := { dst := some 57, op := Op.load 41 (Operand.tmp 11), type := 41, pos := "law.go:242", after := #[], guard := none }) (v := ?_) rfl (by kernel_rfl) (by kernel_rfl) (by kernel_rfl) (fun _ _ _ h => h) (Or.inl ⟨by rfl, ?_⟩) hHeld ?_
    case refine_2 => (intro w hSw; (try dsimp only at hSw); go_simp; try (with_reducible rfl))
    try simp only [Act.put, List.setIfInBounds_toArray, List.set_cons_zero, List.set_cons_succ]
    refine wpAnyH_ready (rs := [0, 5]) (by kernel_rfl) (by simp) ?_
    refine (AllReadyH.cons (o := { dst := some 53, op := Op.buildSlice 22 0 #[], type := 22, pos := "law.go:242", after := #[], guard := none }) rfl (fun K hK => ?_) (AllReadyH.cons (o := { dst := some 58, op := Op.buildSlice 22 1 #[(0, Operand.tmp 57)], type := 22, pos := "law.go:242", after := #[{ on := 4, ground := Ground.data }], guard := none }) rfl (fun K hK => ?_) AllReadyH.nil))
    · skip
      have GG3 := Lib.hid (show Gr X (X.drew.alloc (.cells #[] 41)) from Gr.trans (Gr.drew X) (bel_alloc X.drew (.cells #[] 41)))
      go_simp
      refine hK.out _ _ (SX.out _ GG3.out) (fun hHeld => ?_)
      clear hK K
      have O1 := Lib.hid (show (X.drew.alloc (.cells #[] 41)).ownsRow X.heap.size 41 7 (.slice (some ⟨X.drew.heap.size, 0, none⟩) 0 0) 0 [] from own_empty X.drew 41 7 X.heap.size (by have h1 := ((Gr.drew X) : Gr X X.drew).size; have h2 := XS.out; first | exact h1 | omega))
      try simp only [Act.put, List.setIfInBounds_toArray, List.set_cons_zero, List.set_cons_succ]
      refine wpAnyH_ready (rs := [3, 5]) (by kernel_rfl) (by simp) ?_
      refine (AllReadyH.cons (o := { dst := some 56, op := Op.call { callee := Callee.builtin Builtin.append, args := #[Operand.tmp 53, Operand.tmp 55], argTypes := #[22, 22] }, type := 22, pos := "law.go:242", after := #[{ on := 0, ground := Ground.data }, { on := 2, ground := Ground.data }], guard := none }) rfl (fun K hK => ?_) (AllReadyH.cons (o := { dst := some 58, op := Op.buildSlice 22 1 #[(0, Operand.tmp 57)], type := 22, pos := "law.go:242", after := #[{ on := 4, ground := Ground.data }], guard := none }) rfl (fun K hK => ?_) AllReadyH.nil))
      · skip
        refine step_append_lies _ rfl _ _ 22 rfl X.heap.size 41 i0 (.agg #[.int .i64 0, .int .i64 0, .int .i64 0, .int .i64 0, .int .i64 0, .int .i64 0, .int .i64 0]) 7 56 Try.underlying22 HI.out.1 HI.out.2.1 HI.out.2.2.1 HI.out.2.2.2 rfl (by decide) (.slice (some ⟨X.drew.heap.size, 0, none⟩) 0 0) 0 [] rfl O1.out ⟨bb, off, none⟩ n.nodes.length c1 (n.nodes.flatMap ndL) rfl (flat_len ndL ndL_len _) (nd_news (H1.out.gr (Gr.trans BW.out (Gr.trans G3.out (Gr.trans GX.out GG3.out)))) _ rfl) (nd_one _) (by omega) (by unfold maxLen; omega) (by omega) (by have h1 := (GG3.out : Gr X (X.drew.alloc (.cells #[] 41))).size; have h2 := XS.out; first | exact h1 | omega) _ rfl ?_
        intro gz8 cz9 wz4 hown hgrow hor hlt3
        have GG7 := Lib.hid (show Gr X wz4 from Below.grown GG3.out hgrow (by have h1 := (GG3.out : Gr X (X.drew.alloc (.cells #[] 41))).size; have h2 := XS.out; first | exact h1 | omega) (fun q hq => (O1.out.lt q hq).1))
        simp only [Nat.zero_add, List.nil_append] at hown ⊢
        have O5 := Lib.hid hown
        refine hK.out _ _ (SX.out _ GG7.out) (fun hHeld => ?_)
        clear hK K hown hgrow hor hlt3
        try simp only [Act.put, List.setIfInBounds_toArray, List.set_cons_zero, List.set_cons_succ]
        refine wpAnyH_ready (rs := [5]) (by kernel_rfl) (by simp) ?_
        refine (AllReadyH.cons (o := { dst := some 58, op := Op.buildSlice 22 1 #[(0, Operand.tmp 57)], type := 22, pos := "law.go:242", after := #[{ on := 4, ground := Ground.data }], guard := none }) rfl (fun K hK => ?_) AllReadyH.nil)
        · skip
          have GG12 := Lib.hid (show Gr X (wz4.alloc (.cells #[.int .i64 y.op, .int .i64 y.w, .int .i64 y.a, .int .i64 y.b, .int .i64 y.c, .int .i64 y.n, .int .i64 y.lo] 41)) from Gr.trans GG7.out (bel_alloc wz4 (.cells #[.int .i64 y.op, .int .i64 y.w, .int .i64 y.a, .int .i64 y.b, .int .i64 y.c, .int .i64 y.n, .int .i64 y.lo] 41)))
          go_simp
          refine hK.out _ _ (SX.out _ GG12.out) (fun hHeld => ?_)
          clear hK K
          have R11 := Lib.hid (show (wz4.alloc (.cells #[.int .i64 y.op, .int .i64 y.w, .int .i64 y.a, .int .i64 y.b, .int .i64 y.c, .int .i64 y.n, .int .i64 y.lo] 41)).heap[wz4.heap.size]? = some (.cells #[.int .i64 y.op, .int .i64 y.w, .int .i64 y.a, .int .i64 y.b, .int .i64 y.c, .int .i64 y.n, .int .i64 y.lo] 41 (0, 0)) from heap_new' wz4 (.cells #[.int .i64 y.op, .int .i64 y.w, .int .i64 y.a, .int .i64 y.b, .int .i64 y.c, .int .i64 y.n, .int .i64 y.lo] 41))
          have O10 := Lib.hid (O5.out.alloc (.cells #[.int .i64 y.op, .int .i64 y.w, .int .i64 y.a, .int .i64 y.b, .int .i64 y.c, .int .i64 y.n, .int .i64 y.lo] 41))
          try simp only [Act.put, List.setIfInBounds_toArray, List.set_cons_zero, List.set_cons_succ]
          refine wpAnyH_ready (rs := [6]) (by kernel_rfl) (by simp) ?_
          refine (AllReadyH.cons (o := { dst := some 59, op := Op.call { callee := Callee.builtin Builtin.append, args := #[Operand.tmp 56, Operand.tmp 58], argTypes := #[22, 22] }, type := 22, pos := "law.go:242", after := #[{ on := 3, ground := Ground.data }, { on := 5, ground := Ground.data }, { on := 3, ground := Ground.chain }], guard := none }) rfl (fun K hK => ?_) AllReadyH.nil)
          · skip
            refine step_append_lies _ rfl _ _ 22 rfl X.heap.size 41 i0 (.agg #[.int .i64 0, .int .i64 0, .int .i64 0, .int .i64 0, .int .i64 0, .int .i64 0, .int .i64 0]) 7 56 Try.underlying22 HI.out.1 HI.out.2.1 HI.out.2.2.1 HI.out.2.2.2 rfl (by decide) (.slice (some ⟨gz8, 0, none⟩) n.nodes.length cz9) _ _ rfl O10.out ⟨wz4.heap.size, 0, none⟩ 1 1 (ndL y) rfl rfl (World.news_of_block R11.out) (fun u hu => nd_one [y] u (by simpa using hu)) (by decide) (by unfold maxLen; omega) (by omega) (by have h1 := (GG12.out : Gr X (wz4.alloc (.cells #[.int .i64 y.op, .int .i64 y.w, .int .i64 y.a, .int .i64 y.b, .int .i64 y.c, .int .i64 y.n, .int .i64 y.lo] 41))).size; have h2 := XS.out; first | exact h1 | omega) _ rfl ?_
            intro gz17 cz18 wz13 hown hgrow hor hlt3
            have GG16 := Lib.hid (show Gr X wz13 from Below.grown GG12.out hgrow (by have h1 := (GG12.out : Gr X (wz4.alloc (.cells #[.int .i64 y.op, .int .i64 y.w, .int .i64 y.a, .int .i64 y.b, .int .i64 y.c, .int .i64 y.n, .int .i64 y.lo] 41))).size; have h2 := XS.out; first | exact h1 | omega) (fun q hq => (O10.out.lt q hq).1))
            simp only [Nat.zero_add, List.nil_append] at hown ⊢
            have O14 := Lib.hid hown
            refine hK.out _ _ (SX.out _ GG16.out) (fun hHeld => ?_)
            clear hK K hown hgrow hor hlt3
            try simp only [Act.put, List.setIfInBounds_toArray, List.set_cons_zero, List.set_cons_succ]
            obtain ⟨y0, y1, y2, y3, y4, yf⟩ := box_heap (heap_gr XB.out GG16.out)
            refine wpAnyH_take (i := 7) (oi := { dst := some 60, op := Op.fieldAddr 27 (Operand.tmp 12) 0, type := 0, pos := "law.go:242", after := #[{ on := 0, ground := Ground.phase }, { on := 1, ground := Ground.phase }, { on := 2, ground := Ground.phase }, { on := 3, ground := Ground.phase }, { on := 4, ground := Ground.phase }, { on := 5, ground := Ground.phase }, { on := 6, ground := Ground.phase }], guard := none }) (v := ?_) rfl (by kernel_rfl) (by kernel_rfl) (by kernel_rfl) (fun _ _ _ h => h) (Or.inl ⟨by rfl, ?_⟩) hHeld ?_
            case refine_2 => (intro w hSw; (try dsimp only at hSw); go_simp; try (with_reducible rfl))
            try simp only [Act.put, List.setIfInBounds_toArray, List.set_cons_zero, List.set_cons_succ]
            refine wpAnyH_ready (rs := [8]) (by kernel_rfl) (by simp) ?_
            refine AllReadyH.cons (o := { dst := none, op := Op.store 22 (Operand.tmp 60) (Operand.tmp 59), type := 0, pos := "law.go:242", after := #[{ on := 7, ground := Ground.data }, { on := 6, ground := Ground.data }, { on := 6, ground := Ground.chain }, { on := 0, ground := Ground.phase }, { on := 1, ground := Ground.phase }, { on := 2, ground := Ground.phase }, { on := 3, ground := Ground.phase }, { on := 4, ground := Ground.phase }, { on := 5, ground := Ground.phase }, { on := 6, ground := Ground.phase }], guard := none }) rfl (fun K hK => ?_) AllReadyH.nil
            go_simp
            refine hK.out _ _ (SY.out _ _ GG16.out) (fun hHeld => ?_)
            clear hK K
            try simp only [Act.put, List.setIfInBounds_toArray, List.set_cons_zero, List.set_cons_succ]
            refine wpAnyH_done (by kernel_rfl) ?_ _
            go_wp2_with fail
            go_meet
            exact ⟨_, _, Lib.hid (FIN.out _ _ _ GG16.out O14.out)⟩
      · skip
        have GG21 := Lib.hid (show Gr X ((X.alloc (.cells #[] 41)).alloc (.cells #[.int .i64 y.op, .int .i64 y.w, .int .i64 y.a, .int .i64 y.b, .int .i64 y.c, .int .i64 y.n, .int .i64 y.lo] 41)).drew from Gr.trans (Gr.trans (bel_alloc X (.cells #[] 41)) (bel_alloc (X.alloc (.cells #[] 41)) (.cells #[.int .i64 y.op, .int .i64 y.w, .int .i64 y.a, .int .i64 y.b, .int .i64 y.c, .int .i64 y.n, .int .i64 y.lo] 41))) (Gr.drew _))
        go_simp
        refine hK.out _ _ (SX.out _ GG21.out) (fun hHeld => ?_)
        clear hK K
        have R20 := Lib.hid (show ((X.alloc (.cells #[] 41)).alloc (.cells #[.int .i64 y.op, .int .i64 y.w, .int .i64 y.a, .int .i64 y.b, .int .i64 y.c, .int .i64 y.n, .int .i64 y.lo] 41)).drew.heap[X.heap.size + 1]? = some (.cells #[.int .i64 y.op, .int .i64 y.w, .int .i64 y.a, .int .i64 y.b, .int .i64 y.c, .int .i64 y.n, .int .i64 y.lo] 41 (0, 0)) from (show ((X.alloc (.cells #[] 41)).alloc (.cells #[.int .i64 y.op, .int .i64 y.w, .int .i64 y.a, .int .i64 y.b, .int .i64 y.c, .int .i64 y.n, .int .i64 y.lo] 41)).heap[X.heap.size + 1]? = some (.cells #[.int .i64 y.op, .int .i64 y.w, .int .i64 y.a, .int .i64 y.b, .int .i64 y.c, .int .i64 y.n, .int .i64 y.lo] 41 (0, 0)) from by have h3 := heap_new' (X.alloc (.cells #[] 41)) (.cells #[.int .i64 y.op, .int .i64 y.w, .int .i64 y.a, .int .i64 y.b, .int .i64 y.c, .int .i64 y.n, .int .i64 y.lo] 41); simpa using h3))
        have O19 := Lib.hid (show ((X.alloc (.cells #[] 41)).alloc (.cells #[.int .i64 y.op, .int .i64 y.w, .int .i64 y.a, .int .i64 y.b, .int .i64 y.c, .int .i64 y.n, .int .i64 y.lo] 41)).drew.ownsRow X.heap.size 41 7 (.slice (some ⟨X.drew.heap.size, 0, none⟩) 0 0) 0 [] from (own_empty X 41 7 X.heap.size (Nat.le_refl _)).alloc (.cells #[.int .i64 y.op, .int .i64 y.w, .int .i64 y.a, .int .i64 y.b, .int .i64 y.c, .int .i64 y.n, .int .i64 y.lo] 41))
        try simp only [Act.put, List.setIfInBounds_toArray, List.set_cons_zero, List.set_cons_succ]
        refine wpAnyH_ready (rs := [3]) (by kernel_rfl) (by simp) ?_
        refine (AllReadyH.cons (o := { dst := some 56, op := Op.call { callee := Callee.builtin Builtin.append, args := #[Operand.tmp 53, Operand.tmp 55], argTypes := #[22, 22] }, type := 22, pos := "law.go:242", after := #[{ on := 0, ground := Ground.data }, { on := 2, ground := Ground.data }], guard := none }) rfl (fun K hK => ?_) AllReadyH.nil)
        · skip
          refine step_append_lies _ rfl _ _ 22 rfl X.heap.size 41 i0 (.agg #[.int .i64 0, .int .i64 0, .int .i64 0, .int .i64 0, .int .i64 0, .int .i64 0, .int .i64 0]) 7 56 Try.underlying22 HI.out.1 HI.out.2.1 HI.out.2.2.1 HI.out.2.2.2 rfl (by decide) (.slice (some ⟨X.drew.heap.size, 0, none⟩) 0 0) 0 [] rfl O19.out ⟨bb, off, none⟩ n.nodes.length c1 (n.nodes.flatMap ndL) rfl (flat_len ndL ndL_len _) (nd_news (H1.out.gr (Gr.trans BW.out (Gr.trans G3.out (Gr.trans GX.out GG21.out)))) _ rfl) (nd_one _) (by omega) (by unfold maxLen; omega) (by omega) (by have h1 := (GG21.out : Gr X ((X.alloc (.cells #[] 41)).alloc (.cells #[.int .i64 y.op, .int .i64 y.w, .int .i64 y.a, .int .i64 y.b, .int .i64 y.c, .int .i64 y.n, .int .i64 y.lo] 41)).drew).size; have h2 := XS.out; first | exact h1 | omega) _ rfl ?_
          intro gz26 cz27 wz22 hown hgrow hor hlt3
          have GG25 := Lib.hid (show Gr X wz22 from Below.grown GG21.out hgrow (by have h1 := (GG21.out : Gr X ((X.alloc (.cells #[] 41)).alloc (.cells #[.int .i64 y.op, .int .i64 y.w, .int .i64 y.a, .int .i64 y.b, .int .i64 y.c, .int .i64 y.n, .int .i64 y.lo] 41)).drew).size; have h2 := XS.out; first | exact h1 | omega) (fun q hq => (O19.out.lt q hq).1))
          have R24 := Lib.hid ((hgrow.block (X.heap.size + 1) (by first | (simp; done) | (simp; omega)) (fun hq => by simp [Value.ownBlock] at hq)).trans R20.out)
          simp only [Nat.zero_add, List.nil_append] at hown ⊢
          have O23 := Lib.hid hown
          refine hK.out _ _ (SX.out _ GG25.out) (fun hHeld => ?_)
          clear hK K hown hgrow hor hlt3
          try simp only [Act.put, List.setIfInBounds_toArray, List.set_cons_zero, List.set_cons_succ]
          refine wpAnyH_ready (rs := [6]) (by kernel_rfl) (by simp) ?_
          refine (AllReadyH.cons (o := { dst := some 59, op := Op.call { callee := Callee.builtin Builtin.append, args := #[Operand.tmp 56, Operand.tmp 58], argTypes := #[22, 22] }, type := 22, pos := "law.go:242", after := #[{ on := 3, ground := Ground.data }, { on := 5, ground := Ground.data }, { on := 3, ground := Ground.chain }], guard := none }) rfl (fun K hK => ?_) AllReadyH.nil)
          · skip
            refine step_append_lies _ rfl _ _ 22 rfl X.heap.size 41 i0 (.agg #[.int .i64 0, .int .i64 0, .int .i64 0, .int .i64 0, .int .i64 0, .int .i64 0, .int .i64 0]) 7 56 Try.underlying22 HI.out.1 HI.out.2.1 HI.out.2.2.1 HI.out.2.2.2 rfl (by decide) (.slice (some ⟨gz26, 0, none⟩) n.nodes.length cz27) _ _ rfl O23.out ⟨X.heap.size + 1, 0, none⟩ 1 1 (ndL y) rfl rfl (World.news_of_block R24.out) (fun u hu => nd_one [y] u (by simpa using hu)) (by decide) (by unfold maxLen; omega) (by omega) (by have h1 := (GG25.out : Gr X wz22).size; have h2 := XS.out; first | exact h1 | omega) _ rfl ?_
            intro gz32 cz33 wz28 hown hgrow hor hlt3
            have GG31 := Lib.hid (show Gr X wz28 from Below.grown GG25.out hgrow (by have h1 := (GG25.out : Gr X wz22).size; have h2 := XS.out; first | exact h1 | omega) (fun q hq => (O23.out.lt q hq).1))
            simp only [Nat.zero_add, List.nil_append] at hown ⊢
            have O29 := Lib.hid hown
            refine hK.out _ _ (SX.out _ GG31.out) (fun hHeld => ?_)
            clear hK K hown hgrow hor hlt3
            try simp only [Act.put, List.setIfInBounds_toArray, List.set_cons_zero, List.set_cons_succ]
            obtain ⟨y0, y1, y2, y3, y4, yf⟩ := box_heap (heap_gr XB.out GG31.out)
            refine wpAnyH_take (i := 7) (oi := { dst := some 60, op := Op.fieldAddr 27 (Operand.tmp 12) 0, type := 0, pos := "law.go:242", after := #[{ on := 0, ground := Ground.phase }, { on := 1, ground := Ground.phase }, { on := 2, ground := Ground.phase }, { on := 3, ground := Ground.phase }, { on := 4, ground := Ground.phase }, { on := 5, ground := Ground.phase }, { on := 6, ground := Ground.phase }], guard := none }) (v := ?_) rfl (by kernel_rfl) (by kernel_rfl) (by kernel_rfl) (fun _ _ _ h => h) (Or.inl ⟨by rfl, ?_⟩) hHeld ?_
            case refine_2 => (intro w hSw; (try dsimp only at hSw); go_simp; try (with_reducible rfl))
            try simp only [Act.put, List.setIfInBounds_toArray, List.set_cons_zero, List.set_cons_succ]
            refine wpAnyH_ready (rs := [8]) (by kernel_rfl) (by simp) ?_
            refine AllReadyH.cons (o := { dst := none, op := Op.store 22 (Operand.tmp 60) (Operand.tmp 59), type := 0, pos := "law.go:242", after := #[{ on := 7, ground := Ground.data }, { on := 6, ground := Ground.data }, { on := 6, ground := Ground.chain }, { on := 0, ground := Ground.phase }, { on := 1, ground := Ground.phase }, { on := 2, ground := Ground.phase }, { on := 3, ground := Ground.phase }, { on := 4, ground := Ground.phase }, { on := 5, ground := Ground.phase }, { on := 6, ground := Ground.phase }], guard := none }) rfl (fun K hK => ?_) AllReadyH.nil
            go_simp
            refine hK.out _ _ (SY.out _ _ GG31.out) (fun hHeld => ?_)
            clear hK K
            try simp only [Act.put, List.setIfInBounds_toArray, List.set_cons_zero, List.set_cons_succ]
            refine wpAnyH_done (by kernel_rfl) ?_ _
            go_wp2_with fail
            go_meet
            exact ⟨_, _, Lib.hid (FIN.out _ _ _ GG31.out O29.out)⟩
    · skip
      have GG36 := Lib.hid (show Gr X (X.drew.alloc (.cells #[.int .i64 y.op, .int .i64 y.w, .int .i64 y.a, .int .i64 y.b, .int .i64 y.c, .int .i64 y.n, .int .i64 y.lo] 41)) from Gr.trans (Gr.drew X) (bel_alloc X.drew (.cells #[.int .i64 y.op, .int .i64 y.w, .int .i64 y.a, .int .i64 y.b, .int .i64 y.c, .int .i64 y.n, .int .i64 y.lo] 41)))
      go_simp
      refine hK.out _ _ (SX.out _ GG36.out) (fun hHeld => ?_)
      clear hK K
      have R35 := Lib.hid (show (X.drew.alloc (.cells #[.int .i64 y.op, .int .i64 y.w, .int .i64 y.a, .int .i64 y.b, .int .i64 y.c, .int .i64 y.n, .int .i64 y.lo] 41)).heap[X.drew.heap.size]? = some (.cells #[.int .i64 y.op, .int .i64 y.w, .int .i64 y.a, .int .i64 y.b, .int .i64 y.c, .int .i64 y.n, .int .i64 y.lo] 41 (0, 0)) from heap_new' X.drew (.cells #[.int .i64 y.op, .int .i64 y.w, .int .i64 y.a, .int .i64 y.b, .int .i64 y.c, .int .i64 y.n, .int .i64 y.lo] 41))
      try simp only [Act.put, List.setIfInBounds_toArray, List.set_cons_zero, List.set_cons_succ]
      refine wpAnyH_ready (rs := [0]) (by kernel_rfl) (by simp) ?_
      refine (AllReadyH.cons (o := { dst := some 53, op := Op.buildSlice 22 0 #[], type := 22, pos := "law.go:242", after := #[], guard := none }) rfl (fun K hK => ?_) AllReadyH.nil)
      · skip
        have GG39 := Lib.hid (show Gr X ((X.alloc (.cells #[.int .i64 y.op, .int .i64 y.w, .int .i64 y.a, .int .i64 y.b, .int .i64 y.c, .int .i64 y.n, .int .i64 y.lo] 41)).alloc (.cells #[] 41)).drew from Gr.trans (Gr.trans (bel_alloc X (.cells #[.int .i64 y.op, .int .i64 y.w, .int .i64 y.a, .int .i64 y.b, .int .i64 y.c, .int .i64 y.n, .int .i64 y.lo] 41)) (bel_alloc (X.alloc (.cells #[.int .i64 y.op, .int .i64 y.w, .int .i64 y.a, .int .i64 y.b, .int .i64 y.c, .int .i64 y.n, .int .i64 y.lo] 41)) (.cells #[] 41))) (Gr.drew _))
        go_simp
        refine hK.out _ _ (SX.out _ GG39.out) (fun hHeld => ?_)
        clear hK K
        have O37 := Lib.hid (show ((X.alloc (.cells #[.int .i64 y.op, .int .i64 y.w, .int .i64 y.a, .int .i64 y.b, .int .i64 y.c, .int .i64 y.n, .int .i64 y.lo] 41)).alloc (.cells #[] 41)).drew.ownsRow X.heap.size 41 7 (.slice (some ⟨X.heap.size + 1, 0, none⟩) 0 0) 0 [] from (show ((X.alloc (.cells #[.int .i64 y.op, .int .i64 y.w, .int .i64 y.a, .int .i64 y.b, .int .i64 y.c, .int .i64 y.n, .int .i64 y.lo] 41)).alloc (.cells #[] 41)).ownsRow X.heap.size 41 7 (.slice (some ⟨X.heap.size + 1, 0, none⟩) 0 0) 0 [] from by have h3 := own_empty (X.alloc (.cells #[.int .i64 y.op, .int .i64 y.w, .int .i64 y.a, .int .i64 y.b, .int .i64 y.c, .int .i64 y.n, .int .i64 y.lo] 41)) 41 7 X.heap.size (by simp); simpa using h3))
        have R38 := Lib.hid (show ((X.alloc (.cells #[.int .i64 y.op, .int .i64 y.w, .int .i64 y.a, .int .i64 y.b, .int .i64 y.c, .int .i64 y.n, .int .i64 y.lo] 41)).alloc (.cells #[] 41)).drew.heap[X.drew.heap.size]? = some (.cells #[.int .i64 y.op, .int .i64 y.w, .int .i64 y.a, .int .i64 y.b, .int .i64 y.c, .int .i64 y.n, .int .i64 y.lo] 41 (0, 0)) from (show ((X.alloc (.cells #[.int .i64 y.op, .int .i64 y.w, .int .i64 y.a, .int .i64 y.b, .int .i64 y.c, .int .i64 y.n, .int .i64 y.lo] 41)).alloc (.cells #[] 41)).heap[X.heap.size]? = some (.cells #[.int .i64 y.op, .int .i64 y.w, .int .i64 y.a, .int .i64 y.b, .int .i64 y.c, .int .i64 y.n, .int .i64 y.lo] 41 (0, 0)) from heap_gr (heap_new' X (.cells #[.int .i64 y.op, .int .i64 y.w, .int .i64 y.a, .int .i64 y.b, .int .i64 y.c, .int .i64 y.n, .int .i64 y.lo] 41)) (bel_alloc (X.alloc (.cells #[.int .i64 y.op, .int .i64 y.w, .int .i64 y.a, .int .i64 y.b, .int .i64 y.c, .int .i64 y.n, .int .i64 y.lo] 41)) (.cells #[] 41))))
        try simp only [Act.put, List.setIfInBounds_toArray, List.set_cons_zero, List.set_cons_succ]
        refine wpAnyH_ready (rs := [3]) (by kernel_rfl) (by simp) ?_
        refine (AllReadyH.cons (o := { dst := some 56, op := Op.call { callee := Callee.builtin Builtin.append, args := #[Operand.tmp 53, Operand.tmp 55], argTypes := #[22, 22] }, type := 22, pos := "law.go:242", after := #[{ on := 0, ground := Ground.data }, { on := 2, ground := Ground.data }], guard := none }) rfl (fun K hK => ?_) AllReadyH.nil)
        · skip
          refine step_append_lies _ rfl _ _ 22 rfl X.heap.size 41 i0 (.agg #[.int .i64 0, .int .i64 0, .int .i64 0, .int .i64 0, .int .i64 0, .int .i64 0, .int .i64 0]) 7 56 Try.underlying22 HI.out.1 HI.out.2.1 HI.out.2.2.1 HI.out.2.2.2 rfl (by decide) (.slice (some ⟨X.heap.size + 1, 0, none⟩) 0 0) 0 [] rfl O37.out ⟨bb, off, none⟩ n.nodes.length c1 (n.nodes.flatMap ndL) rfl (flat_len ndL ndL_len _) (nd_news (H1.out.gr (Gr.trans BW.out (Gr.trans G3.out (Gr.trans GX.out GG39.out)))) _ rfl) (nd_one _) (by omega) (by unfold maxLen; omega) (by omega) (by have h1 := (GG39.out : Gr X ((X.alloc (.cells #[.int .i64 y.op, .int .i64 y.w, .int .i64 y.a, .int .i64 y.b, .int .i64 y.c, .int .i64 y.n, .int .i64 y.lo] 41)).alloc (.cells #[] 41)).drew).size; have h2 := XS.out; first | exact h1 | omega) _ rfl ?_
          intro gz44 cz45 wz40 hown hgrow hor hlt3
          have GG43 := Lib.hid (show Gr X wz40 from Below.grown GG39.out hgrow (by have h1 := (GG39.out : Gr X ((X.alloc (.cells #[.int .i64 y.op, .int .i64 y.w, .int .i64 y.a, .int .i64 y.b, .int .i64 y.c, .int .i64 y.n, .int .i64 y.lo] 41)).alloc (.cells #[] 41)).drew).size; have h2 := XS.out; first | exact h1 | omega) (fun q hq => (O37.out.lt q hq).1))
          have R42 := Lib.hid ((hgrow.block (X.drew.heap.size) (by first | (simp; done) | (simp; omega)) (fun hq => by simp [Value.ownBlock] at hq)).trans R38.out)
          simp only [Nat.zero_add, List.nil_append] at hown ⊢
          have O41 := Lib.hid hown
          refine hK.out _ _ (SX.out _ GG43.out) (fun hHeld => ?_)
          clear hK K hown hgrow hor hlt3
          try simp only [Act.put, List.setIfInBounds_toArray, List.set_cons_zero, List.set_cons_succ]
          refine wpAnyH_ready (rs := [6]) (by kernel_rfl) (by simp) ?_
          refine (AllReadyH.cons (o := { dst := some 59, op := Op.call { callee := Callee.builtin Builtin.append, args := #[Operand.tmp 56, Operand.tmp 58], argTypes := #[22, 22] }, type := 22, pos := "law.go:242", after := #[{ on := 3, ground := Ground.data }, { on := 5, ground := Ground.data }, { on := 3, ground := Ground.chain }], guard := none }) rfl (fun K hK => ?_) AllReadyH.nil)
          · skip
            refine step_append_lies _ rfl _ _ 22 rfl X.heap.size 41 i0 (.agg #[.int .i64 0, .int .i64 0, .int .i64 0, .int .i64 0, .int .i64 0, .int .i64 0, .int .i64 0]) 7 56 Try.underlying22 HI.out.1 HI.out.2.1 HI.out.2.2.1 HI.out.2.2.2 rfl (by decide) (.slice (some ⟨gz44, 0, none⟩) n.nodes.length cz45) _ _ rfl O41.out ⟨X.drew.heap.size, 0, none⟩ 1 1 (ndL y) rfl rfl (World.news_of_block R42.out) (fun u hu => nd_one [y] u (by simpa using hu)) (by decide) (by unfold maxLen; omega) (by omega) (by have h1 := (GG43.out : Gr X wz40).size; have h2 := XS.out; first | exact h1 | omega) _ rfl ?_
            intro gz50 cz51 wz46 hown hgrow hor hlt3
            have GG49 := Lib.hid (show Gr X wz46 from Below.grown GG43.out hgrow (by have h1 := (GG43.out : Gr X wz40).size; have h2 := XS.out; first | exact h1 | omega) (fun q hq => (O41.out.lt q hq).1))
            simp only [Nat.zero_add, List.nil_append] at hown ⊢
            have O47 := Lib.hid hown
            refine hK.out _ _ (SX.out _ GG49.out) (fun hHeld => ?_)
            clear hK K hown hgrow hor hlt3
            try simp only [Act.put, List.setIfInBounds_toArray, List.set_cons_zero, List.set_cons_succ]
            obtain ⟨y0, y1, y2, y3, y4, yf⟩ := box_heap (heap_gr XB.out GG49.out)
            refine wpAnyH_take (i := 7) (oi := { dst := some 60, op := Op.fieldAddr 27 (Operand.tmp 12) 0, type := 0, pos := "law.go:242", after := #[{ on := 0, ground := Ground.phase }, { on := 1, ground := Ground.phase }, { on := 2, ground := Ground.phase }, { on := 3, ground := Ground.phase }, { on := 4, ground := Ground.phase }, { on := 5, ground := Ground.phase }, { on := 6, ground := Ground.phase }], guard := none }) (v := ?_) rfl (by kernel_rfl) (by kernel_rfl) (by kernel_rfl) (fun _ _ _ h => h) (Or.inl ⟨by rfl, ?_⟩) hHeld ?_
            case refine_2 => (intro w hSw; (try dsimp only at hSw); go_simp; try (with_reducible rfl))
            try simp only [Act.put, List.setIfInBounds_toArray, List.set_cons_zero, List.set_cons_succ]
            refine wpAnyH_ready (rs := [8]) (by kernel_rfl) (by simp) ?_
            refine AllReadyH.cons (o := { dst := none, op := Op.store 22 (Operand.tmp 60) (Operand.tmp 59), type := 0, pos := "law.go:242", after := #[{ on := 7, ground := Ground.data }, { on := 6, ground := Ground.data }, { on := 6, ground := Ground.chain }, { on := 0, ground := Ground.phase }, { on := 1, ground := Ground.phase }, { on := 2, ground := Ground.phase }, { on := 3, ground := Ground.phase }, { on := 4, ground := Ground.phase }, { on := 5, ground := Ground.phase }, { on := 6, ground := Ground.phase }], guard := none }) rfl (fun K hK => ?_) AllReadyH.nil
            go_simp
            refine hK.out _ _ (SY.out _ _ GG49.out) (fun hHeld => ?_)
            clear hK K
            try simp only [Act.put, List.setIfInBounds_toArray, List.set_cons_zero, List.set_cons_succ]
            refine wpAnyH_done (by kernel_rfl) ?_ _
            go_wp2_with fail
            go_meet
            exact ⟨_, _, Lib.hid (FIN.out _ _ _ GG49.out O47.out)⟩
  case rest =>
  obtain ⟨g6, d6, HT⟩ := hcut
  have GT := Lib.hid (show Gr W0 wc from Gr.trans G3.out HT.out.1)
  have hwc : X.heap.size ≤ wc.heap.size := HT.out.2.2.2.2.2
  have hxs := XS.out
  have HXS := Lib.hid hxs
  have hg2 : w3.heap.size + 1 < wc.heap.size := by omega
  clear hxs
  obtain ⟨e0, e1, e2, e3, e4⟩ := KEEP.out _ GT.out
  obtain ⟨x0, x1, x2, x3, x4⟩ := KEEP.out (wc.alloc (.cells #[] 43)) (Gr.trans GT.out (bel_alloc _ _))
  go_upto_region 11 with (at_builtin; refine append_src _ rfl _ _ 24 rfl wc.heap.size 43 i3 (.agg #[.string ByteArray.empty, .int .i64 0, .int .i64 0, .int .i64 0]) 4 40 Try.underlying24 HJ.out.1 HJ.out.2.1 HJ.out.2.2.1 HJ.out.2.2.2 rfl (by decide) (.slice (some ⟨wc.heap.size, 0, none⟩) 0 0) 0 [] rfl (own_empty wc 43 4 wc.heap.size (Nat.le_refl _)) A3 n.cells.length c3 (n.cells.flatMap ceL) rfl HNL.out.2 (flat_len ceL ceL_len _) (ce_news (H3.out.gr (Gr.trans BW.out (Gr.trans GT.out (bel_alloc wc (.cells #[] 43)))))) (ce_one _) (by unfold maxLen; omega) (by omega) (by simp) ?_; intro v8 w8 hown hb8; have B8 := Lib.hid (show Gr wc w8 from Below.trans (bel_alloc wc (.cells #[] 43)) hb8); have hown8 : w8.ownsRow wc.heap.size 43 4 v8 n.cells.length (n.cells.flatMap ceL) := (by simpa using hown); obtain ⟨A8, d8, rfl, -, -, -⟩ := ce_own hown8 rfl; have O8 := Lib.hid hown8; obtain ⟨y0, y1, y2, y3, y4, yf⟩ := box_heap (heap_below HT.out.2.1 hg2 B8.out); obtain ⟨e0, e1, e2, e3, e4⟩ := KEEP.out _ (Gr.trans GT.out B8.out); clear hown hown8 hb8)
  obtain ⟨W9, eW9, OK9⟩ : ∃ W9, w8.setCell ⟨w3.heap.size + 1, 2, none⟩ (.slice A8 n.cells.length d8) = W9 ∧ Hid (W9.ownsRow wc.heap.size 43 4 (.slice A8 n.cells.length d8) n.cells.length (n.cells.flatMap ceL) ∧
      W9.heap[w3.heap.size + 1]? = some (.cells #[.slice (some ⟨g6, 0, none⟩) (n.nodes.length + 1) d6, .slice A2 n.ins.length c2, .slice A8 n.cells.length d8, .slice A4 n.props.length c4, .slice A5 n.names.length c5] 27 (0, 0)) ∧
      Nds W9 wc.heap.size (some ⟨g6, 0, none⟩) (n.nodes ++ [y]) ∧ Gr W0 W9 ∧ wc.heap.size ≤ W9.heap.size ∧ W0.heap.size ≤ w3.heap.size) := by
    have hgx := HT.out.2.2.2.1
    refine ⟨_, rfl, Lib.hid ⟨own_set O8.out hg2, ?_, ?_, ?_, by have := B8.out.size; simp; omega, G3.out.size⟩⟩
    · have h7 := heap_setCell_same w8 (w3.heap.size + 1) 2 _ 27 (.slice A8 n.cells.length d8) (heap_below HT.out.2.1 hg2 B8.out)
      simpa using h7
    · refine nds_set (HT.out.2.2.1.below B8.out) (Nat.le_refl _) (fun b' off' e => ?_)
      simp only [Option.some.injEq, Addr.mk.injEq] at e
      have := HXS.out
      omega
    · exact Below.setCell (Gr.trans GT.out B8.out) (p := ⟨w3.heap.size + 1, 2, none⟩) (by have := G3.out.size; show W0.heap.size ≤ w3.heap.size + 1; omega) _
  rw [eW9]
  clear eW9 e0 e1 e2 e3 e4 x0 x1 x2 x3 x4 y0 y1 y2 y3 y4 yf O8 B8
  have KPL := Lib.hid (fun (u : World) (hu : Below wc.heap.size W9 u) => (show Gr W0 u ∧ BxAt u w.heap.size n (some ⟨bb, off, none⟩) A2 A3 A4 A5 c1 c2 c3 c4 c5 ∧ Bx5 u (w3.heap.size + 1) (.slice (some ⟨g6, 0, none⟩) (n.nodes.length + 1) d6) (.slice A2 n.ins.length c2) (.slice A8 n.cells.length d8) (.slice A4 n.props.length c4) (.slice A5 n.names.length c5) from by
    obtain ⟨-, h9, -, h10, h11, h12⟩ := OK9.out
    have h13 : Gr W0 u := Below.trans h10 (hu.mono (by omega))
    obtain ⟨k0, k1, k2, k3, k4, -⟩ := box_heap (heap_below h9 hg2 hu)
    exact ⟨h13, KEEP.out _ h13, k0, k1, k2, k3, k4⟩))
  obtain ⟨-, ⟨e0, e1, e2, e3, e4⟩, f0, f1, f2, f3, f4⟩ := KPL.out _ (Below.refl _ _)
  have HCI := Lib.hid (cell_in hR)
  go_wp2_with fail
  go_loopg [13] n.cells.length (fun g i wr => ∃ j : Nat, j + g = n.cells.length ∧ i = .int .i64 j ∧ Hid (wr.ownsRow wc.heap.size 43 4 (.slice A8 n.cells.length d8) n.cells.length ((mixC (nxC k n.nodes.length) n.cells j).flatMap ceL)) ∧ Hid (Below wc.heap.size W9 wr))
  case atStart => exact ⟨0, by omega, rfl, Lib.hid OK9.out.1, Lib.hid (Below.refl _ _)⟩
  case round =>
    obtain ⟨j, hjg, rfl, HO, HW⟩ := hrel
    have HJ := Lib.hid hjg
    have hjl : j ≤ n.cells.length := by omega
    clear hjg e0 e1 e2 e3 e4 f0 f1 f2 f3 f4
    obtain ⟨-, ⟨e0, e1, e2, e3, e4⟩, f0, f1, f2, f3, f4⟩ := KPL.out _ HW.out
    by_cases hlt2 : j < n.cells.length
    · have hsx : n.cells[j]? = some n.cells[j] := List.getElem?_eq_getElem hlt2
      generalize n.cells[j] = c at hsx
      obtain ⟨q, cq, e8, hbq, hlq⟩ := HO.out.form (by omega)
      simp only [Value.slice.injEq, true_and] at e8
      obtain ⟨hA8, rfl⟩ := e8
      have hoq := HO.out
      rw [hA8] at hoq f2
      have hfz := hoq.frozenAt (j * 4 + 2)
      have hdc : wr.cell? ⟨q, j * 4 + 2, none⟩ = some (.int .i64 c.next) := by
        rw [hoq.cellAt (j * 4 + 2) (by omega), flat_at ceL ceL_len _ j 2 c (mix_at hsx) (by decide)]
        rfl
      have HOQ := Lib.hid hoq
      have HSX := Lib.hid hsx
      have HA8 := Lib.hid hA8
      have i1 : (j : Int) < (n.cells.length : Int) := by omega
      have i2 : (0 : Int) ≤ (j : Int) := by omega
      clear hoq hsx hA8
      by_cases hnx : c.next = (k : Int)
      · have r1 : (c.next == (k : Int)) = true := by simp [hnx]
        have HNX := Lib.hid hnx
        clear hnx
        go_wp2_with fail
        go_roundg (gk - 1)
        case measure => have := HJ.out; omega
        case rel =>
          refine ⟨j + 1, by have := HJ.out; omega, by go_num, Lib.hid ?_, Lib.hid (Below.setCell HW.out (p := ⟨q, j * 4 + 2, none⟩) hbq _)⟩
          have h1 := (HOQ.out.stored (j * 4 + 2) (.int .i64 (n.nodes.length : Nat))).1
          rw [flat_set ceL ceL_len (y := nxC k n.nodes.length c) (mix_at HSX.out) (by decide) (by unfold nxC; rw [if_pos HNX.out]; rfl), mix_step HSX.out] at h1
          rw [HA8.out]
          exact h1
      · have r1 : (c.next == (k : Int)) = false := by simp [hnx]
        have HNX := Lib.hid hnx
        clear hnx
        go_wp2_with fail
        go_roundg (gk - 1)
        case measure => have := HJ.out; omega
        case rel =>
          refine ⟨j + 1, by have := HJ.out; omega, by go_num, Lib.hid ?_, HW⟩
          rw [← mix_same HSX.out (by unfold nxC; rw [if_neg HNX.out])]
          exact HO.out
    · have hjn : j = n.cells.length := by omega
      subst hjn
      have i1 : ¬ (n.cells.length : Int) < (n.cells.length : Int) := by omega
      have ho := HO.out
      rw [mix_all] at ho
      obtain ⟨A8', d8', e8, -, -, hCes⟩ := ce_own ho (by simp)
      simp only [Value.slice.injEq, true_and] at e8
      obtain ⟨rfl, rfl⟩ := e8
      have HCE := Lib.hid hCes
      clear ho hCes HO HJ hlt2 hjl
      obtain ⟨mN, hmN⟩ : ∃ mN : Nt, mN = ⟨n.nodes ++ [y], n.ins, n.cells.map (nxC k n.nodes.length), n.props, n.names⟩ := ⟨_, rfl⟩
      have HMN := Lib.hid hmN
      have GR := Lib.hid (KPL.out _ HW.out).1
      have KPR := Lib.hid (fun (u : World) (hu : Gr wr u) => (show BxAt u w.heap.size n (some ⟨bb, off, none⟩) A2 A3 A4 A5 c1 c2 c3 c4 c5 ∧ Bx5 u (w3.heap.size + 1) (.slice (some ⟨g6, 0, none⟩) (n.nodes.length + 1) d6) (.slice A2 n.ins.length c2) (.slice A8 n.cells.length d8) (.slice A4 n.props.length c4) (.slice A5 n.names.length c5) from ⟨KEEP.out _ (Gr.trans GR.out hu), bx5_gr (KPL.out _ HW.out).2.2 (by have h1 := HW.out.size; have h2 := OK9.out.2.2.2.2.1; omega) hu⟩))
      have NM := Lib.hid (show NtAt wr mN (ntV (some ⟨g6, 0, none⟩) A2 A8 A4 A5 (n.nodes.length + 1) n.ins.length n.cells.length n.props.length n.names.length d6 c2 d8 c4 c5) from by
        rw [hmN]
        exact ⟨some ⟨g6, 0, none⟩, A2, A8, A4, A5, d6, c2, d8, c4, c5, by simp, by simpa using HT.out.2.2.2.2.1, (OK9.out.2.2.1.below HW.out).more (by have h1 := HW.out.size; have h2 := OK9.out.2.2.2.2.1; omega), H2.out.gr (Gr.trans BW.out GR.out), HCE.out, H4.out.gr (Gr.trans BW.out GR.out), H5.out.gr (Gr.trans BW.out GR.out)⟩)
      have hRm : NRight mN := by
        rw [hmN]
        exact right_app hR (copy_ok hR.1 HY.out) H21.out H22.out _ n.props n.names (nxC_nodes _ _ _) (nxC_ok hR HY.out) (fun p hp => hp) hR.2.2.2.1.2 (fun p hp => hp)
      have hsm : Sz mN := by rw [hmN]; unfold Sz; simp only [List.length_append, List.length_singleton, List.length_map]; omega
      obtain ⟨ev, hev⟩ : ∃ ev, evAll n (stOf n a) (inOf n b) = ev := ⟨_, rfl⟩
      obtain ⟨z, hz⟩ : ∃ z, ev1 (n.nodes ++ [y]) (stOf n a) (inOf n b) n.nodes.length (evAll n (stOf n a) (inOf n b)) y = z := ⟨_, rfl⟩
      have hzk : ev[k]? = some z := by rw [← hev, ← hz]; exact ev_copy hR.1 _ _ HY.out H21.out H22.out
      have hevm : evAll mN (stOf n a) (inOf n b) = ev ++ [z] := by rw [hmN, evAll_app hR.1, hz, hev]
      have hvl : ev.length = n.nodes.length := by rw [← hev]; exact evL_len _ _ _ _ (Nat.le_refl _)
      have HLM := Lib.hid (evL_lim hRm (st := stOf n a) (ins := inOf n b) (by rw [hmN]; exact stOk_app hR HSO.out _ _ _ (nxC_nodes _ _ _)) (by rw [hmN]; exact inOk_app hR HIO.out _ _ _))
      have HLN := Lib.hid (evL_lim hR HSO.out HIO.out)
      have hmap : (mN.cells.map fun c => getA (ofN (ev ++ [z])) c.next) = n.cells.map fun c => getA (ofN ev) c.next := by
        rw [hmN]
        exact nxC_vals hR hvl hzk
      have hres : mN.cells.map Ce.reset = n.cells.map Ce.reset := by
        rw [hmN]
        exact nxC_resets _ _ _
      have HMAP := Lib.hid hmap
      have HRES := Lib.hid hres
      have HEV := Lib.hid (And.intro hev (And.intro hevm (And.intro hvl hzk)))
      clear hev hevm hvl hzk hz hmap hres hmN i1
      clear e0 e1 e2 e3 e4 f0 f1 f2 f3 f4
      obtain ⟨⟨e0, e1, e2, e3, e4⟩, f0, f1, f2, f3, f4⟩ := KPR.out _ (Gr.refl _)
      have i1 : ¬ (n.cells.length : Int) < (n.cells.length : Int) := by omega
      go_wp2_with fail
      refine (RW.out _ (Gr.trans BW.out GR.out)).mono ?_
      rintro e wA ⟨sv, iv, rfl, hsv, hiv, hg⟩
      have HSV := Lib.hid hsv
      have HIV := Lib.hid hiv
      have GA := Lib.hid hg
      obtain ⟨As, cs, rfl, hcs, -⟩ := hsv
      obtain ⟨Ai, ci, rfl, hci, -⟩ := hiv
      rw [ofN_len, stOf_len] at hcs HSV ⊢
      rw [ofN_len, inOf_len] at hci HIV ⊢
      clear hg e0 e1 e2 e3 e4 f0 f1 f2 f3 f4 RW i1
      obtain ⟨⟨e0, e1, e2, e3, e4⟩, f0, f1, f2, f3, f4⟩ := KPR.out _ GA.out
      have EVm := Lib.hid (fun (u : World) (hu : Gr wA u) => Eval_any mN _ _ _ (stOf n a) (inOf n b) u hsm (Lib.hid (NM.out.gr (Gr.trans GA.out hu))) hRm.1 (by rw [stOf_len]; omega) (by rw [inOf_len]; omega) (Lib.hid (HSV.out.gr hu)) (Lib.hid (HIV.out.gr hu)) HLM)
      simp only [HEV.out.2.1] at EVm
      have EVn := Lib.hid (fun (u : World) (hu : Gr wA u) => Eval_any n _ _ _ (stOf n a) (inOf n b) u hs (Lib.hid (HV.out u (Gr.trans BW.out (Gr.trans GR.out (Gr.trans GA.out hu))))) hR.1 (by rw [stOf_len]; omega) (by rw [inOf_len]; omega) (Lib.hid (HSV.out.gr hu)) (Lib.hid (HIV.out.gr hu)) HLN)
      simp only [HEV.out.1] at EVn
      have hme : (ofN (ev ++ [z])).length ≤ 4000 := by rw [ofN_len, List.length_append, HEV.out.2.2.1, List.length_singleton]; omega
      have hne : (ofN ev).length ≤ 4000 := by rw [ofN_len, HEV.out.2.2.1]; omega
      have AFm := Lib.hid (fun (u : World) (hu : Gr wA u) => After_any mN _ _ _ (ofN (ev ++ [z])) u hsm (Lib.hid (NM.out.gr (Gr.trans GA.out hu))) hme (Lib.hid fun u2 hu2 => EVm.out u2 (Gr.trans hu hu2)))
      have AFn := Lib.hid (fun (u : World) (hu : Gr wA u) => After_any n _ _ _ (ofN ev) u hs (Lib.hid (HV.out u (Gr.trans BW.out (Gr.trans GR.out (Gr.trans GA.out hu))))) hne (Lib.hid fun u2 hu2 => EVn.out u2 (Gr.trans hu hu2)))
      rw [HMAP.out] at AFm
      have FIm := Lib.hid (fun (u : World) (hu : Gr wA u) => First_any mN _ u hsm (Lib.hid (NM.out.gr (Gr.trans GA.out hu))))
      rw [HRES.out] at FIm
      have FIn := Lib.hid (fun (u : World) (hu : Gr wA u) => First_any n _ u hs (Lib.hid (HV.out u (Gr.trans BW.out (Gr.trans GR.out (Gr.trans GA.out hu))))))
      have RM := Lib.hid (fun (u : World) (hu : Gr wA u) => Right_any mN _ u hsm (Lib.hid (NM.out.gr (Gr.trans GA.out hu))) true (Lib.hid ⟨fun _ => hRm, fun _ => rfl⟩))
      have SB := Lib.hid (fun (v v' : Value) (u : World) (h1 : IntR u v (n.cells.map fun c => getA (ofN ev) c.next)) (h2 : IntR u v' (n.cells.map fun c => getA (ofN ev) c.next)) => same_of _ v v' u (by rw [List.length_map]; omega) h1 h2)
      have SC := Lib.hid (fun (v v' : Value) (u : World) (h1 : IntR u v (n.cells.map Ce.reset)) (h2 : IntR u v' (n.cells.map Ce.reset)) => same_of _ v v' u (by rw [List.length_map]; omega) h1 h2)
      clear HLM HLN HSO HIO HMAP HRES
      go_wp2_with fail
      refine (EVm.out _ (Gr.refl _)).mono ?_
      rintro e wB ⟨vB, rfl, hiB, hg⟩
      have GB := Lib.hid hg
      obtain ⟨Av, cv, rfl, hcv, hivB⟩ := hiB
      have IB := Lib.hid hivB
      have hel : (ofN (ev ++ [z])).length = n.nodes.length + 1 := by rw [ofN_len, List.length_append, HEV.out.2.2.1, List.length_singleton]
      rw [hel] at hcv ⊢
      clear hg hivB e0 e1 e2 e3 e4 f0 f1 f2 f3 f4 hel
      have hofk : (ofN (ev ++ [z]))[k]? = some (z : Int) := by rw [ofN_snoc, List.getElem?_append_left (by rw [ofN_len, HEV.out.2.2.1]; omega)]; exact ofN_at HEV.out.2.2.2
      have hofl : (ofN (ev ++ [z]))[n.nodes.length]? = some (z : Int) := by rw [ofN_snoc, List.getElem?_append_right (by rw [ofN_len, HEV.out.2.2.1]; omega), ofN_len, HEV.out.2.2.1]; simp
      obtain ⟨bv, ov, rfl, -, iv1⟩ := IB.out n.nodes.length (z : Int) hofl
      have HOK := Lib.hid hofk
      have HOL := Lib.hid hofl
      have SV := Lib.hid (fun (u : World) (hu : Gr wB u) => (show (BxAt u w.heap.size n (some ⟨bb, off, none⟩) A2 A3 A4 A5 c1 c2 c3 c4 c5 ∧ Bx5 u (w3.heap.size + 1) (.slice (some ⟨g6, 0, none⟩) (n.nodes.length + 1) d6) (.slice A2 n.ins.length c2) (.slice A8 n.cells.length d8) (.slice A4 n.props.length c4) (.slice A5 n.names.length c5)) ∧ u.cell? ⟨bv, ov + n.nodes.length, none⟩ = some (.int .i64 (z : Nat)) ∧ u.cell? ⟨bv, ov + k, none⟩ = some (.int .i64 (z : Nat)) from by
        have h1 := IB.out.gr hu
        obtain ⟨b1, o1, e1, -, j1⟩ := h1 n.nodes.length (z : Int) HOL.out
        obtain ⟨b2, o2, e2, -, j2⟩ := h1 k (z : Int) HOK.out
        simp only [Option.some.injEq, Addr.mk.injEq, and_true] at e1 e2
        obtain ⟨rfl, rfl⟩ := e1
        obtain ⟨rfl, rfl⟩ := e2
        exact ⟨KPR.out u (Gr.trans GA.out (Gr.trans GB.out hu)), j1, j2⟩))
      clear hofk hofl iv1
      have r1 : ((n.nodes.length : Int) + 1 != (n.nodes.length : Int) + 1) = false := by simp
      have r2 : ((z : Int) != (z : Int)) = false := by simp
      have r3 : (n.nodes.length : Int) < (n.nodes.length : Int) + 1 := by omega
      have r4 : (0 : Int) ≤ (n.nodes.length : Int) := by omega
      have r6 : (k : Int) < (n.nodes.length : Int) + 1 := by omega
      have r7 := wrap_int (y := (n.nodes.length : Int) + 1) (by omega) (by omega)
      go_upto_region 18 with fail
      refine wp_region_held_drew (S := (fun u => (BxAt u w.heap.size n (some ⟨bb, off, none⟩) A2 A3 A4 A5 c1 c2 c3 c4 c5 ∧ Bx5 u (w3.heap.size + 1) (.slice (some ⟨g6, 0, none⟩) (n.nodes.length + 1) d6) (.slice A2 n.ins.length c2) (.slice A8 n.cells.length d8) (.slice A4 n.props.length c4) (.slice A5 n.names.length c5)) ∧ u.cell? ⟨bv, ov + n.nodes.length, none⟩ = some (.int .i64 (z : Nat)) ∧ u.cell? ⟨bv, ov + k, none⟩ = some (.int .i64 (z : Nat)))) (by kernel_rfl) (SV.out _ (Gr.drew _)) (fun hHeld => ?_)
      refine wpAnyH_take (i := 0) (oi := { dst := some 100, op := Op.load 27 (Operand.tmp 12), type := 27, pos := "law.go:251", after := #[], guard := none }) (v := ?_) rfl (by kernel_rfl) (by kernel_rfl) (by kernel_rfl) (fun _ _ _ h => h) (Or.inl ⟨by rfl, ?_⟩) hHeld ?_
      case refine_2 => (intro w hSw; (try dsimp only at hSw); go_simp; try (with_reducible rfl))
      try simp only [Act.put, List.setIfInBounds_toArray, List.set_cons_zero, List.set_cons_succ]
      refine wpAnyH_ready (rs := [1]) (by kernel_rfl) (by simp) ?_
      refine AllReadyH.cons (o := { dst := some 101, op := Op.call { callee := Callee.value (Operand.func 12), args := #[Operand.tmp 100], argTypes := #[27] }, type := 4, pos := "law.go:251", after := #[{ on := 0, ground := Ground.data }], guard := none }) rfl (fun K hK => ?_) AllReadyH.nil
      go_simp
      refine (RM.out _ (Gr.trans GB.out (Gr.drew _))).mono ?_
      rintro e u1 ⟨rfl, hu1'⟩
      have hu1 : Gr wB u1 := Gr.trans (Gr.drew _) hu1'
      refine hK.out _ _ (SV.out _ hu1) (fun hHeld => ?_)
      clear hK K hu1'
      try simp only [Act.put, List.setIfInBounds_toArray, List.set_cons_zero, List.set_cons_succ]
      refine wpAnyH_take (i := 2) (oi := { dst := some 102, op := Op.unOp UnOp.not 4 (Operand.tmp 101), type := 4, pos := "law.go:251", after := #[{ on := 1, ground := Ground.data }], guard := none }) (v := ?_) rfl (by kernel_rfl) (by kernel_rfl) (by kernel_rfl) (fun _ _ _ h => h) (Or.inl ⟨by rfl, ?_⟩) hHeld ?_
      case refine_2 => (intro w hSw; (try dsimp only at hSw); go_simp; try (with_reducible rfl))
      try simp only [Act.put, List.setIfInBounds_toArray, List.set_cons_zero, List.set_cons_succ]
      refine wpAnyH_take (i := 3) (oi := { dst := some 103, op := Op.move (Operand.tmp 102), type := 4, pos := "law.go:251", after := #[{ on := 2, ground := Ground.data }, { on := 1, ground := Ground.chain }], guard := none }) (v := ?_) rfl (by kernel_rfl) (by kernel_rfl) (by kernel_rfl) (fun _ _ _ h => h) (Or.inl ⟨by rfl, ?_⟩) hHeld ?_
      case refine_2 => (intro w hSw; (try dsimp only at hSw); go_simp; try (with_reducible rfl))
      try simp only [Act.put, List.setIfInBounds_toArray, List.set_cons_zero, List.set_cons_succ]
      refine wpAnyH_take (i := 4) (oi := { dst := some 104, op := Op.move (Operand.tmp 16), type := 32, pos := "law.go:251", after := #[{ on := 3, ground := Ground.guard }], guard := some (3, false) }) (v := ?_) rfl (by kernel_rfl) (by kernel_rfl) (by kernel_rfl) (fun _ _ _ h => h) (Or.inl ⟨by rfl, ?_⟩) hHeld ?_
      case refine_2 => (intro w hSw; (try dsimp only at hSw); go_simp; try (with_reducible rfl))
      try simp only [Act.put, List.setIfInBounds_toArray, List.set_cons_zero, List.set_cons_succ]
      refine wpAnyH_take (i := 5) (oi := { dst := some 105, op := Op.call { callee := Callee.builtin Builtin.len, args := #[Operand.tmp 104], argTypes := #[32] }, type := 3, pos := "law.go:251", after := #[{ on := 4, ground := Ground.data }, { on := 3, ground := Ground.guard }], guard := some (3, false) }) (v := ?_) rfl (by kernel_rfl) (by kernel_rfl) (by kernel_rfl) (fun _ _ _ h => h) (Or.inl ⟨by rfl, ?_⟩) hHeld ?_
      case refine_2 => (intro w hSw; (try dsimp only at hSw); go_simp; try (with_reducible rfl))
      try simp only [Act.put, List.setIfInBounds_toArray, List.set_cons_zero, List.set_cons_succ]
      refine wpAnyH_take (i := 6) (oi := { dst := some 106, op := Op.fieldAddr 27 (Operand.tmp 4) 0, type := 0, pos := "law.go:251", after := #[{ on := 3, ground := Ground.guard }], guard := some (3, false) }) (v := ?_) rfl (by kernel_rfl) (by kernel_rfl) (by kernel_rfl) (fun _ _ _ h => h) (Or.inl ⟨by rfl, ?_⟩) hHeld ?_
      case refine_2 => (intro w hSw; (try dsimp only at hSw); go_simp; try (with_reducible rfl))
      try simp only [Act.put, List.setIfInBounds_toArray, List.set_cons_zero, List.set_cons_succ]
      refine wpAnyH_take (i := 7) (oi := { dst := some 107, op := Op.load 22 (Operand.tmp 106), type := 22, pos := "law.go:251", after := #[{ on := 6, ground := Ground.data }, { on := 3, ground := Ground.guard }], guard := some (3, false) }) (v := ?_) rfl (by kernel_rfl) (by kernel_rfl) (by kernel_rfl) (fun _ _ _ h => h) (Or.inl ⟨by rfl, ?_⟩) hHeld ?_
      case refine_2 => (intro w hSw; (try dsimp only at hSw); go_simp; try (with_reducible rfl))
      try simp only [Act.put, List.setIfInBounds_toArray, List.set_cons_zero, List.set_cons_succ]
      refine wpAnyH_take (i := 8) (oi := { dst := some 108, op := Op.call { callee := Callee.builtin Builtin.len, args := #[Operand.tmp 107], argTypes := #[22] }, type := 3, pos := "law.go:251", after := #[{ on := 7, ground := Ground.data }, { on := 3, ground := Ground.guard }], guard := some (3, false) }) (v := ?_) rfl (by kernel_rfl) (by kernel_rfl) (by kernel_rfl) (fun _ _ _ h => h) (Or.inl ⟨by rfl, ?_⟩) hHeld ?_
      case refine_2 => (intro w hSw; (try dsimp only at hSw); go_simp; try (with_reducible rfl))
      try simp only [Act.put, List.setIfInBounds_toArray, List.set_cons_zero, List.set_cons_succ]
      refine wpAnyH_take (i := 9) (oi := { dst := some 109, op := Op.binOp BinOp.add 3 (Operand.tmp 108) (Operand.const (Value.int IntKind.i64 1)) 3, type := 3, pos := "law.go:251", after := #[{ on := 8, ground := Ground.data }, { on := 3, ground := Ground.guard }], guard := some (3, false) }) (v := ?_) rfl (by kernel_rfl) (by kernel_rfl) (by kernel_rfl) (fun _ _ _ h => h) (Or.inl ⟨by rfl, ?_⟩) hHeld ?_
      case refine_2 => (intro w hSw; (try dsimp only at hSw); go_simp; try (with_reducible rfl))
      try simp only [Act.put, List.setIfInBounds_toArray, List.set_cons_zero, List.set_cons_succ]
      refine wpAnyH_take (i := 10) (oi := { dst := some 110, op := Op.binOp BinOp.neq 3 (Operand.tmp 105) (Operand.tmp 109) 3, type := 4, pos := "law.go:251", after := #[{ on := 5, ground := Ground.data }, { on := 9, ground := Ground.data }, { on := 3, ground := Ground.guard }], guard := some (3, false) }) (v := ?_) rfl (by kernel_rfl) (by kernel_rfl) (by kernel_rfl) (fun _ _ _ h => h) (Or.inl ⟨by rfl, ?_⟩) hHeld ?_
      case refine_2 => (intro w hSw; (try dsimp only at hSw); go_simp; try (with_reducible rfl))
      try simp only [Act.put, List.setIfInBounds_toArray, List.set_cons_zero, List.set_cons_succ]
      refine wpAnyH_take (i := 11) (oi := { dst := some 111, op := Op.pick (Operand.tmp 103) (Operand.const (Value.bool true)) (Operand.tmp 110), type := 4, pos := "law.go:251", after := #[{ on := 3, ground := Ground.data }, { on := 10, ground := Ground.data }], guard := none }) (v := ?_) rfl (by kernel_rfl) (by kernel_rfl) (by kernel_rfl) (fun _ _ _ h => h) (Or.inl ⟨by rfl, ?_⟩) hHeld ?_
      case refine_2 => (intro w hSw; (try dsimp only at hSw); go_simp; try (with_reducible rfl))
      try simp only [Act.put, List.setIfInBounds_toArray, List.set_cons_zero, List.set_cons_succ]
      refine wpAnyH_take (i := 12) (oi := { dst := some 112, op := Op.move (Operand.tmp 111), type := 4, pos := "law.go:251", after := #[{ on := 11, ground := Ground.data }, { on := 3, ground := Ground.chain }], guard := none }) (v := ?_) rfl (by kernel_rfl) (by kernel_rfl) (by kernel_rfl) (fun _ _ _ h => h) (Or.inl ⟨by rfl, ?_⟩) hHeld ?_
      case refine_2 => (intro w hSw; (try dsimp only at hSw); go_simp; try (with_reducible rfl))
      try simp only [Act.put, List.setIfInBounds_toArray, List.set_cons_zero, List.set_cons_succ]
      refine wpAnyH_take (i := 13) (oi := { dst := some 113, op := Op.move (Operand.tmp 16), type := 32, pos := "law.go:251", after := #[{ on := 12, ground := Ground.guard }], guard := some (12, false) }) (v := ?_) rfl (by kernel_rfl) (by kernel_rfl) (by kernel_rfl) (fun _ _ _ h => h) (Or.inl ⟨by rfl, ?_⟩) hHeld ?_
      case refine_2 => (intro w hSw; (try dsimp only at hSw); go_simp; try (with_reducible rfl))
      try simp only [Act.put, List.setIfInBounds_toArray, List.set_cons_zero, List.set_cons_succ]
      refine wpAnyH_take (i := 14) (oi := { dst := some 114, op := Op.fieldAddr 27 (Operand.tmp 4) 0, type := 0, pos := "law.go:251", after := #[{ on := 12, ground := Ground.guard }], guard := some (12, false) }) (v := ?_) rfl (by kernel_rfl) (by kernel_rfl) (by kernel_rfl) (fun _ _ _ h => h) (Or.inl ⟨by rfl, ?_⟩) hHeld ?_
      case refine_2 => (intro w hSw; (try dsimp only at hSw); go_simp; try (with_reducible rfl))
      try simp only [Act.put, List.setIfInBounds_toArray, List.set_cons_zero, List.set_cons_succ]
      refine wpAnyH_take (i := 15) (oi := { dst := some 115, op := Op.load 22 (Operand.tmp 114), type := 22, pos := "law.go:251", after := #[{ on := 14, ground := Ground.data }, { on := 12, ground := Ground.guard }], guard := some (12, false) }) (v := ?_) rfl (by kernel_rfl) (by kernel_rfl) (by kernel_rfl) (fun _ _ _ h => h) (Or.inl ⟨by rfl, ?_⟩) hHeld ?_
      case refine_2 => (intro w hSw; (try dsimp only at hSw); go_simp; try (with_reducible rfl))
      try simp only [Act.put, List.setIfInBounds_toArray, List.set_cons_zero, List.set_cons_succ]
      refine wpAnyH_take (i := 16) (oi := { dst := some 116, op := Op.call { callee := Callee.builtin Builtin.len, args := #[Operand.tmp 115], argTypes := #[22] }, type := 3, pos := "law.go:251", after := #[{ on := 15, ground := Ground.data }, { on := 12, ground := Ground.guard }], guard := some (12, false) }) (v := ?_) rfl (by kernel_rfl) (by kernel_rfl) (by kernel_rfl) (fun _ _ _ h => h) (Or.inl ⟨by rfl, ?_⟩) hHeld ?_
      case refine_2 => (intro w hSw; (try dsimp only at hSw); go_simp; try (with_reducible rfl))
      try simp only [Act.put, List.setIfInBounds_toArray, List.set_cons_zero, List.set_cons_succ]
      refine wpAnyH_take (i := 17) (oi := { dst := some 117, op := Op.indexAddr 32 (Operand.tmp 113) (Operand.tmp 116), type := 0, pos := "law.go:251", after := #[{ on := 13, ground := Ground.data }, { on := 16, ground := Ground.data }, { on := 12, ground := Ground.guard }], guard := some (12, false) }) (v := ?_) rfl (by kernel_rfl) (by kernel_rfl) (by kernel_rfl) (fun _ _ _ h => h) (Or.inl ⟨by rfl, ?_⟩) hHeld ?_
      case refine_2 => (intro w hSw; (try dsimp only at hSw); go_simp; try (with_reducible rfl))
      try simp only [Act.put, List.setIfInBounds_toArray, List.set_cons_zero, List.set_cons_succ]
      refine wpAnyH_take (i := 18) (oi := { dst := some 118, op := Op.load 3 (Operand.tmp 117), type := 3, pos := "law.go:251", after := #[{ on := 17, ground := Ground.data }, { on := 12, ground := Ground.guard }], guard := some (12, false) }) (v := ?_) rfl (by kernel_rfl) (by kernel_rfl) (by kernel_rfl) (fun _ _ _ h => h) (Or.inl ⟨by rfl, ?_⟩) hHeld ?_
      case refine_2 => (intro w hSw; (try dsimp only at hSw); go_simp; try (with_reducible rfl))
      try simp only [Act.put, List.setIfInBounds_toArray, List.set_cons_zero, List.set_cons_succ]
      refine wpAnyH_take (i := 19) (oi := { dst := some 119, op := Op.move (Operand.tmp 16), type := 32, pos := "law.go:251", after := #[{ on := 12, ground := Ground.guard }], guard := some (12, false) }) (v := ?_) rfl (by kernel_rfl) (by kernel_rfl) (by kernel_rfl) (fun _ _ _ h => h) (Or.inl ⟨by rfl, ?_⟩) hHeld ?_
      case refine_2 => (intro w hSw; (try dsimp only at hSw); go_simp; try (with_reducible rfl))
      try simp only [Act.put, List.setIfInBounds_toArray, List.set_cons_zero, List.set_cons_succ]
      refine wpAnyH_take (i := 20) (oi := { dst := some 120, op := Op.move (Operand.tmp 10), type := 3, pos := "law.go:251", after := #[{ on := 12, ground := Ground.guard }], guard := some (12, false) }) (v := ?_) rfl (by kernel_rfl) (by kernel_rfl) (by kernel_rfl) (fun _ _ _ h => h) (Or.inl ⟨by rfl, ?_⟩) hHeld ?_
      case refine_2 => (intro w hSw; (try dsimp only at hSw); go_simp; try (with_reducible rfl))
      try simp only [Act.put, List.setIfInBounds_toArray, List.set_cons_zero, List.set_cons_succ]
      refine wpAnyH_take (i := 21) (oi := { dst := some 121, op := Op.indexAddr 32 (Operand.tmp 119) (Operand.tmp 120), type := 0, pos := "law.go:251", after := #[{ on := 19, ground := Ground.data }, { on := 20, ground := Ground.data }, { on := 12, ground := Ground.guard }], guard := some (12, false) }) (v := ?_) rfl (by kernel_rfl) (by kernel_rfl) (by kernel_rfl) (fun _ _ _ h => h) (Or.inl ⟨by rfl, ?_⟩) hHeld ?_
      case refine_2 => (intro w hSw; (try dsimp only at hSw); go_simp; try (with_reducible rfl))
      try simp only [Act.put, List.setIfInBounds_toArray, List.set_cons_zero, List.set_cons_succ]
      refine wpAnyH_take (i := 22) (oi := { dst := some 122, op := Op.load 3 (Operand.tmp 121), type := 3, pos := "law.go:251", after := #[{ on := 21, ground := Ground.data }, { on := 12, ground := Ground.guard }], guard := some (12, false) }) (v := ?_) rfl (by kernel_rfl) (by kernel_rfl) (by kernel_rfl) (fun _ _ _ h => h) (Or.inl ⟨by rfl, ?_⟩) hHeld ?_
      case refine_2 => (intro w hSw; (try dsimp only at hSw); go_simp; try (with_reducible rfl))
      try simp only [Act.put, List.setIfInBounds_toArray, List.set_cons_zero, List.set_cons_succ]
      refine wpAnyH_take (i := 23) (oi := { dst := some 123, op := Op.binOp BinOp.neq 3 (Operand.tmp 118) (Operand.tmp 122) 3, type := 4, pos := "law.go:251", after := #[{ on := 18, ground := Ground.data }, { on := 22, ground := Ground.data }, { on := 12, ground := Ground.guard }], guard := some (12, false) }) (v := ?_) rfl (by kernel_rfl) (by kernel_rfl) (by kernel_rfl) (fun _ _ _ h => h) (Or.inl ⟨by rfl, ?_⟩) hHeld ?_
      case refine_2 => (intro w hSw; (try dsimp only at hSw); go_simp; try (with_reducible rfl))
      try simp only [Act.put, List.setIfInBounds_toArray, List.set_cons_zero, List.set_cons_succ]
      refine wpAnyH_take (i := 24) (oi := { dst := some 124, op := Op.pick (Operand.tmp 112) (Operand.const (Value.bool true)) (Operand.tmp 123), type := 4, pos := "law.go:251", after := #[{ on := 12, ground := Ground.data }, { on := 23, ground := Ground.data }], guard := none }) (v := ?_) rfl (by kernel_rfl) (by kernel_rfl) (by kernel_rfl) (fun _ _ _ h => h) (Or.inl ⟨by rfl, ?_⟩) hHeld ?_
      case refine_2 => (intro w hSw; (try dsimp only at hSw); go_simp; try (with_reducible rfl))
      try simp only [Act.put, List.setIfInBounds_toArray, List.set_cons_zero, List.set_cons_succ]
      refine wpAnyH_done (by kernel_rfl) ?_ _
      have KPX := Lib.hid (fun (u : World) (hu : Gr u1 u) => KPR.out u (Gr.trans GA.out (Gr.trans GB.out (Gr.trans hu1 hu))))
      have G1X := Lib.hid (Gr.trans GB.out hu1)
      go_upto_region 20 with fail
      go_region_held3 (fun u => BxAt u w.heap.size n (some ⟨bb, off, none⟩) A2 A3 A4 A5 c1 c2 c3 c4 c5 ∧ Bx5 u (w3.heap.size + 1) (.slice (some ⟨g6, 0, none⟩) (n.nodes.length + 1) d6) (.slice A2 n.ins.length c2) (.slice A8 n.cells.length d8) (.slice A4 n.props.length c4) (.slice A5 n.names.length c5))
        (first | exact KPX.out _ (Gr.drew _) | exact KPX.out _ (by assumption))
        (first
          | (go_at_call 22; (with_reducible refine (AFm.out _ (Gr.trans G1X.out (Gr.drew _))).mono ?_); rintro e t3 ⟨v3, rfl, i3, ht3'⟩; have ht3 : Gr u1 t3 := Gr.trans (Gr.drew _) ht3')
          | (go_at_call 22; (with_reducible refine (AFn.out t3 (Gr.trans G1X.out ht3)).mono ?_); rintro e t4 ⟨v4, rfl, i4, ht4'⟩; have ht4 : Gr u1 t4 := Gr.trans ht3 ht4'; have j3 := i3.gr ht4')
          | (go_at_call 17; (with_reducible refine (SB.out v3 v4 t4 j3 i4).mono ?_); rintro e t5 ⟨rfl, ht5'⟩; have ht5 : Gr u1 t5 := Gr.trans ht4 ht5')
          | (go_at_call 18; (with_reducible refine (FIm.out t5 (Gr.trans G1X.out ht5)).mono ?_); rintro e t6 ⟨v6, rfl, i6, ht6'⟩; have ht6 : Gr u1 t6 := Gr.trans ht5 ht6')
          | (go_at_call 18; (with_reducible refine (FIn.out t6 (Gr.trans G1X.out ht6)).mono ?_); rintro e t7 ⟨v7, rfl, i7, ht7'⟩; have ht7 : Gr u1 t7 := Gr.trans ht6 ht7'; have j6 := i6.gr ht7')
          | (go_at_call 17; (with_reducible refine (SC.out v6 v7 t7 j6 i7).mono ?_); rintro e t8 ⟨rfl, ht8'⟩; have ht8 : Gr u1 t8 := Gr.trans ht7 ht8'))
      go_wp2_with fail
      go_ret
      exact ⟨rfl, Gr.trans BW.out (Gr.trans GR.out (Gr.trans GA.out (Gr.trans G1X.out ht8)))⟩
end Go.Proofs.Ytnkifhgkhgialaa
