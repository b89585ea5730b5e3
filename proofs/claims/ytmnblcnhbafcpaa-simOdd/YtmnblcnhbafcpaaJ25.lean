/-
  THE DOCUMENT'S Right, WALKED.
-/
import Derived.Test.YtmnblcnhbafcpaaJ23
import Derived.Test.YtmnblcnhbafcpaaJ24
namespace Go.Proofs.Ytmnblcnhbafcpaa
open Go.RowKit
open NetM

abbrev CAt (u : World) (g : Nat) (x : Ce) : Prop := u.cell? ⟨g, 0, none⟩ = some (.string x.s) ∧ u.cell? ⟨g, 1, none⟩ = some (.int .i64 x.node) ∧ u.cell? ⟨g, 2, none⟩ = some (.int .i64 x.next) ∧ u.cell? ⟨g, 3, none⟩ = some (.int .i64 x.reset)
theorem c_new (w : World) (x : Ce) : CAt (w.alloc (.cells #[.string x.s, .int .i64 x.node, .int .i64 x.next, .int .i64 x.reset] 60)) w.heap.size x := by
  refine ⟨?_, ?_, ?_, ?_⟩
  all_goals exact new_cells _ _ _ _ _ rfl
theorem c_gr {w u : World} {g : Nat} {x : Ce} (h : CAt w g x) (hg : g < w.heap.size) (hb : Gr w u) : CAt u g x := by
  obtain ⟨h0, h1, h2, h3⟩ := h
  refine ⟨?_, ?_, ?_, ?_⟩
  all_goals
    rw [hb.cell (by simpa using hg)]
    assumption
theorem there_pos {l : List Nd} (hw : WOk l) (i : Int) : widA l i ≠ 0 ↔ 0 ≤ i ∧ i < (l.length : Int) := by
  constructor
  · intro h
    obtain ⟨k, y, rfl, _, hk⟩ := opd_pos h
    omega
  · rintro ⟨h0, h1⟩ h
    obtain ⟨k, rfl⟩ : ∃ k : Nat, i = k := ⟨i.toNat, by omega⟩
    have hs : l[k]? = some l[k] := List.getElem?_eq_getElem (by omega)
    rw [widA_some hs] at h
    have := hw _ (List.getElem_mem (show k < l.length by omega))
    omega
theorem bits_ge {l : List Nd} (hw : WOk l) : ∀ cs : List Ce, (∀ c ∈ cs, widA l c.node ≠ 0) → (cs.length : Int) ≤ bitsOf l cs
  | [], _ => by simp [bitsOf]
  | c :: r, h => by
    have h1 := bits_ge hw r (fun c hc => h c (List.mem_cons_of_mem _ hc))
    have h2 := widA_ok hw c.node
    have h3 := h c List.mem_cons_self
    unfold bitsOf at h1 ⊢
    simp only [List.map_cons, List.sum_cons, List.length_cons]
    omega
theorem cell_there {n : Nt} (hw : WOk n.nodes) (h : n.cells.map Ce.node = places n.nodes 22) : ∀ c ∈ n.cells, widA n.nodes c.node ≠ 0 := fun c hc => by
  obtain ⟨k, y, hk, hy, -⟩ := places_mem (op := 22) (l := n.nodes) (p := c.node) (by rw [← h]; exact List.mem_map.2 ⟨c, hc, rfl⟩)
  rw [there_pos hw, hk]
  have := (List.getElem?_eq_some_iff.1 hy).1
  omega
theorem x_prop (w : World) (x : Pr) : (w.alloc (.cells #[.int .i64 x.kind, .string x.s, .int .i64 x.node] 47)).cell? ⟨w.heap.size, 0, none⟩ = some (.int .i64 x.kind) ∧ (w.alloc (.cells #[.int .i64 x.kind, .string x.s, .int .i64 x.node] 47)).cell? ⟨w.heap.size, 1, none⟩ = some (.string x.s) ∧ (w.alloc (.cells #[.int .i64 x.kind, .string x.s, .int .i64 x.node] 47)).cell? ⟨w.heap.size, 2, none⟩ = some (.int .i64 x.node) := by
  refine ⟨?_, ?_, ?_⟩
  all_goals exact new_cells _ _ _ _ _ rfl
set_option maxRecDepth 100000 in
set_option maxHeartbeats 40000000 in
theorem RRight_any (n : Nt) (v : Value) (w : World) (hs : Sz n) (hn : Hid (NtAt w n v)) (b : Bool) (hb : Hid (b = true ↔ NRight n)) :
    Calls Try.prog 12 #[v] w fun e w' => e = .returned (.bool b) ∧ Gr w w' := by
  have HV := Lib.hid (fun (u : World) (hu : Gr w u) => hn.out.gr hu)
  obtain ⟨A1, A2, A3, A4, A5, c1, c2, c3, c4, c5, rfl, hc1, h1, h2, h3, h4, h5⟩ := hn.out
  have H1 := Lib.hid h1
  have H2 := Lib.hid h2
  have H3 := Lib.hid h3
  have H4 := Lib.hid h4
  have H5 := Lib.hid h5
  clear h1 h2 h3 h4 h5
  obtain ⟨W0, eW, BW, KEEP⟩ : ∃ W0, w.alloc (.cells (bxC n A1 A2 A3 A4 A5 c1 c2 c3 c4 c5) 27) = W0 ∧ Hid (Gr w W0) ∧ Hid (∀ u, Gr W0 u → BxAt u w.heap.size n A1 A2 A3 A4 A5 c1 c2 c3 c4 c5) :=
    ⟨_, rfl, Lib.hid (bel_alloc _ _), Lib.hid fun u hu => bx_gr (bx_new w n A1 A2 A3 A4 A5 c1 c2 c3 c4 c5) (by simp) hu⟩
  obtain ⟨e0, e1, e2, e3, e4⟩ := KEEP.out W0 (Gr.refl _)
  have ND := Lib.hid (fun (i : Nat) (x : Nd) (hx : n.nodes[i]? = some x) (hwok : WOk (n.nodes.take i)) (b' : Bool) (hb' : b' = true ↔ NdOk (n.nodes.take i) x) (u : World) (hu : Gr w u) => node_doc n _ i x u hs hx hwok (Lib.hid (HV.out u hu)) b' hb')
  have PN := Lib.hid (fun (b' : Bool) (hb' : b' = true ↔ PinsOk n) (u : World) (hu : Gr w u) => pins_any n _ u hs (Lib.hid (HV.out u hu)) b' (Lib.hid hb'))
  have TA := Lib.hid (fun (i : Int) (u : World) (hu : Gr w u) => there_any n _ i u hs (Lib.hid (HV.out u hu)))
  obtain ⟨z1, z2, z3, z4, z5⟩ := hs
  by_cases q1 : 64 < n.ins.length
  · have q : (64 : Int) < (n.ins.length : Int) := by omega
    have HR := Lib.hid (bool_no hb.out fun h => by have := h.2.1.1; omega)
    go_enter Try.func12, Try.ntmps12
    go_wp2_with fail
    go_ret
    exact ⟨by rw [HR.out]; rfl, by first | exact BW.out | (rw [eW]; exact BW.out)⟩
  have p1 : ¬ (64 : Int) < (n.ins.length : Int) := by omega
  by_cases q2 : 256 < n.cells.length
  · have q : (256 : Int) < (n.cells.length : Int) := by omega
    have HR := Lib.hid (bool_no hb.out fun h => by
      have hw := wok_of h.1
      have h1 := bits_ge hw n.cells (cell_there hw h.2.2.1.1)
      have h2 := h.2.2.1.2.2
      omega)
    go_enter Try.func12, Try.ntmps12
    go_wp2_with fail
    go_ret
    exact ⟨by rw [HR.out]; rfl, by first | exact BW.out | (rw [eW]; exact BW.out)⟩
  have p2 : ¬ (256 : Int) < (n.cells.length : Int) := by omega
  by_cases q3 : 16 < n.props.length
  · have q : (16 : Int) < (n.props.length : Int) := by omega
    have HR := Lib.hid (bool_no hb.out fun h => by have := h.2.2.2.1.2; omega)
    go_enter Try.func12, Try.ntmps12
    go_wp2_with fail
    go_ret
    exact ⟨by rw [HR.out]; rfl, by first | exact BW.out | (rw [eW]; exact BW.out)⟩
  have p3 : ¬ (16 : Int) < (n.props.length : Int) := by omega
  go_enter Try.func12, Try.ntmps12
  go_wp2_with fail
  try rw [eW]
  clear eW
  go_loopg [3] n.nodes.length (fun g i wr => ∃ j : Nat, j + g = n.nodes.length ∧ i = .int .i64 j ∧ Hid (∀ i x, i < j → n.nodes[i]? = some x → NdOk (n.nodes.take i) x) ∧ Hid (Gr W0 wr))
  case atStart => exact ⟨0, by omega, rfl, Lib.hid (fun i x hi => by omega), Lib.hid (Gr.refl _)⟩
  case round =>
    obtain ⟨j, hjg, rfl, HA, HW⟩ := hrel
    have HJ := Lib.hid hjg
    have hjl : j ≤ n.nodes.length := by omega
    clear hjg
    obtain ⟨e0, e1, e2, e3, e4⟩ := KEEP.out _ HW.out
    by_cases hlt : j < n.nodes.length
    case pos =>
      have hs : n.nodes[j]? = some n.nodes[j] := List.getElem?_eq_getElem hlt
      generalize n.nodes[j] = x at hs
      have HS := Lib.hid hs
      have hi1 : (j : Int) < (n.nodes.length : Int) := by omega
      have hi0 : (0 : Int) ≤ (j : Int) := by omega
      have HST : Hid (NdOk (n.nodes.take j) x → ∀ i y, i < j + 1 → n.nodes[i]? = some y → NdOk (n.nodes.take i) y) := Lib.hid fun hr i y hi hy => by
        by_cases h2 : i < j
        · exact HA.out i y h2 hy
        · have e2 : i = j := by omega
          subst e2
          rw [HS.out] at hy
          rw [← Option.some.inj hy]
          exact hr
      have HBD : Hid (¬ (NdOk (n.nodes.take j) x) → b = false) := Lib.hid fun hn => bool_no hb.out fun hr => hn (hr.1 j x HS.out)
      have hwok : WOk (n.nodes.take j) := wok_of (ndsOk_take HA.out)
      obtain ⟨nb, hnb⟩ : ∃ nb : Bool, nb = true ↔ NdOk (n.nodes.take j) x := by
        classical
        exact ⟨decide (NdOk (n.nodes.take j) x), decide_eq_true_iff⟩
      have NC := Lib.hid (ND.out j x hs hwok nb hnb wr (Gr.trans BW.out HW.out))
      clear hs hwok
      cases nb with
      | true =>
        have HR := Lib.hid (HST.out (hnb.1 rfl))
        clear hnb
        go_wp2_with fail
        refine NC.out.mono ?_
        rintro e w1 ⟨rfl, hg⟩
        have HG := Lib.hid (Gr.trans HW.out hg)
        clear hg e0 e1 e2 e3 e4
        go_wp2_with fail
        go_roundg (gk - 1)
        case measure => have := HJ.out; omega
        case rel => exact ⟨j + 1, by have := HJ.out; omega, by go_num, Lib.hid HR.out, Lib.hid (HG.out)⟩
      | false =>
        have HR := Lib.hid (HBD.out (fun hn => by have := hnb.2 hn; simp at this))
        clear hnb
        go_wp2_with fail
        refine NC.out.mono ?_
        rintro e w1 ⟨rfl, hg⟩
        have HG := Lib.hid (Gr.trans HW.out hg)
        clear hg e0 e1 e2 e3 e4
        go_wp2_with fail
        go_ret
        exact ⟨by rw [HR.out]; rfl, Gr.trans BW.out HG.out⟩
    have HNO : Hid (NdsOk n.nodes) := Lib.hid fun i x hx => HA.out i x (by have := (List.getElem?_eq_some_iff.1 hx).1; omega) hx
    have hw := wok_of HNO.out
    clear HA HJ ND
    obtain ⟨pb, hpb⟩ : ∃ pb : Bool, pb = true ↔ PinsOk n := by
      classical
      exact ⟨decide (PinsOk n), decide_eq_true_iff⟩
    have PC := Lib.hid (PN.out pb hpb wr (Gr.trans BW.out HW.out))
    clear PN
    cases pb with
    | false =>
      have HR := Lib.hid (bool_no hb.out fun h => by have := hpb.2 ⟨h.2.1.2, h.2.2.1.1⟩; simp at this)
      clear hpb
      go_wp2_with fail
      refine PC.out.mono ?_
      rintro e w1 ⟨rfl, hg⟩
      have HG := Lib.hid (Gr.trans HW.out hg)
      clear hg e0 e1 e2 e3 e4
      go_wp2_with fail
      go_ret
      exact ⟨by rw [HR.out]; rfl, Gr.trans BW.out HG.out⟩
    | true =>
      have HP := Lib.hid (hpb.1 rfl)
      clear hpb
      go_wp2_with fail
      refine PC.out.mono ?_
      rintro e w1 ⟨rfl, hg⟩
      have HG := Lib.hid (Gr.trans HW.out hg)
      clear hg e0 e1 e2 e3 e4
      obtain ⟨e0, e1, e2, e3, e4⟩ := KEEP.out _ HG.out
      go_wp2_with fail
      go_loopg [4, 5] n.cells.length (fun g bt i wr => ∃ j : Nat, j + g = n.cells.length ∧ i = .int .i64 j ∧ Hid (bt = .int .i64 (bitsOf n.nodes (n.cells.take j))) ∧ Hid (∀ i x, i < j → n.cells[i]? = some x → CellOk n.nodes x) ∧ Hid (Gr W0 wr))
      case atStart => exact ⟨0, by omega, rfl, Lib.hid rfl, Lib.hid (fun i x hi => by omega), Lib.hid HG.out⟩
      case round =>
        obtain ⟨j, hjg, rfl, HT, HA, HW⟩ := hrel
        have HJ := Lib.hid hjg
        have hjl : j ≤ n.cells.length := by omega
        clear hjg
        obtain rfl := HT.out
        clear HT
        obtain ⟨e0, e1, e2, e3, e4⟩ := KEEP.out _ HW.out
        by_cases hlt : j < n.cells.length
        case pos =>
          have hs : n.cells[j]? = some n.cells[j] := List.getElem?_eq_getElem hlt
          generalize n.cells[j] = x at hs
          have HS := Lib.hid hs
          have hi1 : (j : Int) < (n.cells.length : Int) := by omega
          have hi0 : (0 : Int) ≤ (j : Int) := by omega
          have HST : Hid (CellOk n.nodes x → ∀ i y, i < j + 1 → n.cells[i]? = some y → CellOk n.nodes y) := Lib.hid fun hr i y hi hy => by
            by_cases h2 : i < j
            · exact HA.out i y h2 hy
            · have e2 : i = j := by omega
              subst e2
              rw [HS.out] at hy
              rw [← Option.some.inj hy]
              exact hr
          have HBD : Hid (¬ (CellOk n.nodes x) → b = false) := Lib.hid fun hn => bool_no hb.out fun hr => hn (hr.2.2.1.2.1 x (List.mem_of_getElem? HS.out))
          obtain ⟨bi, hbi⟩ : ∃ bi, bitsOf n.nodes (n.cells.take j) = bi := ⟨_, rfl⟩
          have hble := bits_le hw (n.cells.take j)
          have htl : (n.cells.take j).length ≤ 400 := by rw [List.length_take]; omega
          rw [hbi] at hble ⊢
          have HBS := Lib.hid (bits_step (l := n.nodes) hs)
          rw [hbi] at HBS
          clear hbi
          obtain ⟨bb, off, rfl, -, d0, d1, d2, d3⟩ := (H3.out.gr (Gr.trans BW.out HW.out)) j x hs
          obtain ⟨k, y, hk, hy, -⟩ := places_mem (op := 22) (l := n.nodes) (p := x.node) (by rw [← HP.out.2]; exact List.mem_map.2 ⟨x, List.mem_of_getElem? hs, rfl⟩)
          obtain ⟨by1, offy, rfl, -, y0, y1, y2, y3, y4, y5, y6⟩ := (H1.out.gr (Gr.trans BW.out (Gr.trans HW.out (bel_alloc wr (.cells #[.string x.s, .int .i64 x.node, .int .i64 x.next, .int .i64 x.reset] 60))))) k y hy
          have hkl : k < n.nodes.length := (List.getElem?_eq_some_iff.1 hy).1
          obtain ⟨hyw1, hyw2⟩ := hw y (List.mem_of_getElem? hy)
          have HWY := Lib.hid (show widA n.nodes x.node = y.w by rw [hk]; exact widA_some hy)
          obtain ⟨mm, hm⟩ : ∃ m : Nat, y.w = m := ⟨y.w.toNat, by omega⟩
          obtain ⟨q, hq⟩ : ∃ q, 2 ^ mm - 1 = q := ⟨_, rfl⟩
          have MK := Lib.hid (show ∀ u, Calls Try.prog 27 #[.int .i64 y.w] u fun e w' => e = .returned (.int .i64 (q : Nat)) ∧ u = w' from fun u => by rw [hm]; exact rmask_is (k := mm) (by omega) hq u)
          obtain ⟨o, ho⟩ : ∃ o, widA n.nodes x.next = o := ⟨_, rfl⟩
          have TH := Lib.hid (fun (u : World) (hu : Gr wr u) => TA.out x.next u (Gr.trans BW.out (Gr.trans HW.out hu)))
          rw [ho] at TH
          have COK : Hid (CellOk n.nodes x ↔ o = y.w ∧ 0 ≤ x.reset ∧ x.reset ≤ (q : Int)) := Lib.hid (by
            unfold CellOk
            rw [HWY.out, ho, hm, Int.toNat_natCast, hq])
          clear hs hy ho hq hm
          have HWB : Hid (IntKind.i64.wrap (bi + y.w) = bi + y.w) := Lib.hid (wrap_int (by omega) (by omega))
          obtain ⟨W1, eW1, BW1, KEEP1⟩ : ∃ W1, wr.alloc (.cells #[.string x.s, .int .i64 x.node, .int .i64 x.next, .int .i64 x.reset] 60) = W1 ∧ Hid (Gr wr W1) ∧ Hid (∀ u, Gr W1 u → BxAt u w.heap.size n (some ⟨by1, offy, none⟩) A2 (some ⟨bb, off, none⟩) A4 A5 c1 c2 c3 c4 c5 ∧ CAt u wr.heap.size x) :=
            ⟨_, rfl, Lib.hid (bel_alloc _ _), Lib.hid fun u hu => ⟨KEEP.out u (Gr.trans HW.out (Gr.trans (bel_alloc _ _) hu)), c_gr (c_new wr x) (by simp) hu⟩⟩
          obtain ⟨⟨g0, g1, g2, g3, g4⟩, x0, x1, x2, x3⟩ := KEEP1.out W1 (Gr.refl _)
          rw [eW1] at y0 y1 y2 y3 y4 y5 y6
          rw [hk] at x1
          have HK := Lib.hid hk
          have hk1 : (k : Int) < (n.nodes.length : Int) := by omega
          have hk0 : (0 : Int) ≤ (k : Int) := by omega
          rw [hk] at d1
          have HCC := Lib.hid (show (#[.string x.s, .int .i64 x.node, .int .i64 x.next, .int .i64 x.reset] : Array Value) = #[.string x.s, .int .i64 (k : Int), .int .i64 x.next, .int .i64 x.reset] by rw [hk])
          rw [HCC.out] at eW1
          clear hk
          by_cases q0 : o = y.w
          case neg =>
            have r0 : (o != y.w) = true := by simp [q0]
            have HR := Lib.hid (HBD.out fun h => q0 (COK.out.1 h).1)
            clear q0
            go_wp2_with fail
            try rw [eW1]
            clear eW1 g0 g1 g2 g3 g4 x0 x1 x2 x3 y0 y1 y2 y3 y4 y5 y6 e0 e1 e2 e3 e4 d0 d1 d2 d3
            try rw [HWB.out]
            refine wp_region_held_drew (S := (fun u => BxAt u w.heap.size n (some ⟨by1, offy, none⟩) A2 (some ⟨bb, off, none⟩) A4 A5 c1 c2 c3 c4 c5 ∧ CAt u wr.heap.size x)) (by kernel_rfl) (KEEP1.out _ (Gr.drew _)) (fun hHeld => ?_)
            refine wpAnyH_take (i := 0) (oi := { dst := some 69, op := Op.load 27 (Operand.tmp 1), type := 27, pos := "ref.go:112", after := #[], guard := none }) (v := ?_) rfl (by kernel_rfl) (by kernel_rfl) (by kernel_rfl) (fun _ _ _ h => h) (Or.inl ⟨by rfl, ?_⟩) hHeld ?_
            case refine_2 => (intro w hSw; (try dsimp only at hSw); go_simp; try (with_reducible rfl))
            try simp only [Act.put, List.setIfInBounds_toArray, List.set_cons_zero, List.set_cons_succ]
            refine wpAnyH_take (i := 1) (oi := { dst := some 70, op := Op.fieldAddr 60 (Operand.tmp 6) 2, type := 0, pos := "ref.go:112", after := #[], guard := none }) (v := ?_) rfl (by kernel_rfl) (by kernel_rfl) (by kernel_rfl) (fun _ _ _ h => h) (Or.inl ⟨by rfl, ?_⟩) hHeld ?_
            case refine_2 => (intro w hSw; (try dsimp only at hSw); go_simp; try (with_reducible rfl))
            try simp only [Act.put, List.setIfInBounds_toArray, List.set_cons_zero, List.set_cons_succ]
            refine wpAnyH_take (i := 2) (oi := { dst := some 71, op := Op.load 3 (Operand.tmp 70), type := 3, pos := "ref.go:112", after := #[{ on := 1, ground := Ground.data }], guard := none }) (v := ?_) rfl (by kernel_rfl) (by kernel_rfl) (by kernel_rfl) (fun _ _ _ h => h) (Or.inl ⟨by rfl, ?_⟩) hHeld ?_
            case refine_2 => (intro w hSw; (try dsimp only at hSw); go_simp; try (with_reducible rfl))
            try simp only [Act.put, List.setIfInBounds_toArray, List.set_cons_zero, List.set_cons_succ]
            refine wpAnyH_take (i := 4) (oi := { dst := some 73, op := Op.move (Operand.tmp 7), type := 3, pos := "ref.go:112", after := #[], guard := none }) (v := ?_) rfl (by kernel_rfl) (by kernel_rfl) (by kernel_rfl) (fun _ _ _ h => h) (Or.inl ⟨by rfl, ?_⟩) hHeld ?_
            case refine_2 => (intro w hSw; (try dsimp only at hSw); go_simp; try (with_reducible rfl))
            try simp only [Act.put, List.setIfInBounds_toArray, List.set_cons_zero, List.set_cons_succ]
            refine wpAnyH_ready (rs := [3]) (by kernel_rfl) (by simp) ?_
            refine AllReadyH.cons (o := { dst := some 72, op := Op.call { callee := Callee.value (Operand.func 31), args := #[Operand.tmp 69, Operand.tmp 71], argTypes := #[27, 3] }, type := 3, pos := "ref.go:112", after := #[{ on := 0, ground := Ground.data }, { on := 2, ground := Ground.data }], guard := none }) rfl (fun K hK => ?_) AllReadyH.nil
            go_simp
            refine (TH.out _ (Gr.trans BW1.out (Gr.drew _))).mono ?_
            rintro e u1 ⟨rfl, hu1'⟩
            have hu1 : Gr W1 u1 := Gr.trans (Gr.drew _) hu1'
            refine hK.out _ _ (KEEP1.out _ hu1) (fun hHeld => ?_)
            clear hK K hu1'
            try simp only [Act.put, List.setIfInBounds_toArray, List.set_cons_zero, List.set_cons_succ]
            refine wpAnyH_take (i := 5) (oi := { dst := some 74, op := Op.binOp BinOp.neq 3 (Operand.tmp 72) (Operand.tmp 73) 3, type := 4, pos := "ref.go:112", after := #[{ on := 3, ground := Ground.data }, { on := 4, ground := Ground.data }], guard := none }) (v := ?_) rfl (by kernel_rfl) (by kernel_rfl) (by kernel_rfl) (fun _ _ _ h => h) (Or.inl ⟨by rfl, ?_⟩) hHeld ?_
            case refine_2 => (intro w hSw; (try dsimp only at hSw); go_simp; try (with_reducible rfl))
            try simp only [Act.put, List.setIfInBounds_toArray, List.set_cons_zero, List.set_cons_succ]
            refine wpAnyH_take (i := 6) (oi := { dst := some 75, op := Op.move (Operand.tmp 74), type := 4, pos := "ref.go:112", after := #[{ on := 5, ground := Ground.data }, { on := 3, ground := Ground.chain }], guard := none }) (v := ?_) rfl (by kernel_rfl) (by kernel_rfl) (by kernel_rfl) (fun _ _ _ h => h) (Or.inl ⟨by rfl, ?_⟩) hHeld ?_
            case refine_2 => (intro w hSw; (try dsimp only at hSw); go_simp; try (with_reducible rfl))
            try simp only [Act.put, List.setIfInBounds_toArray, List.set_cons_zero, List.set_cons_succ]
            refine wpAnyH_take (i := 7) (oi := { dst := some 76, op := Op.fieldAddr 60 (Operand.tmp 6) 3, type := 0, pos := "ref.go:112", after := #[{ on := 6, ground := Ground.guard }], guard := some (6, false) }) (v := undef) rfl (by kernel_rfl) (by kernel_rfl) (by kernel_rfl) (fun _ _ _ h => h) (Or.inr ⟨by rfl, rfl⟩) hHeld ?_
            try simp only [Act.put, List.setIfInBounds_toArray, List.set_cons_zero, List.set_cons_succ]
            refine wpAnyH_take (i := 8) (oi := { dst := some 77, op := Op.load 3 (Operand.tmp 76), type := 3, pos := "ref.go:112", after := #[{ on := 7, ground := Ground.data }, { on := 6, ground := Ground.guard }], guard := some (6, false) }) (v := undef) rfl (by kernel_rfl) (by kernel_rfl) (by kernel_rfl) (fun _ _ _ h => h) (Or.inr ⟨by rfl, rfl⟩) hHeld ?_
            try simp only [Act.put, List.setIfInBounds_toArray, List.set_cons_zero, List.set_cons_succ]
            refine wpAnyH_take (i := 9) (oi := { dst := some 78, op := Op.binOp BinOp.lss 3 (Operand.tmp 77) (Operand.const (Value.int IntKind.i64 0)) 3, type := 4, pos := "ref.go:112", after := #[{ on := 8, ground := Ground.data }, { on := 6, ground := Ground.guard }], guard := some (6, false) }) (v := undef) rfl (by kernel_rfl) (by kernel_rfl) (by kernel_rfl) (fun _ _ _ h => h) (Or.inr ⟨by rfl, rfl⟩) hHeld ?_
            try simp only [Act.put, List.setIfInBounds_toArray, List.set_cons_zero, List.set_cons_succ]
            refine wpAnyH_take (i := 10) (oi := { dst := some 79, op := Op.pick (Operand.tmp 75) (Operand.const (Value.bool true)) (Operand.tmp 78), type := 4, pos := "ref.go:112", after := #[{ on := 6, ground := Ground.data }, { on := 9, ground := Ground.data }], guard := none }) (v := ?_) rfl (by kernel_rfl) (by kernel_rfl) (by kernel_rfl) (fun _ _ _ h => h) (Or.inl ⟨by rfl, ?_⟩) hHeld ?_
            case refine_2 => (intro w hSw; (try dsimp only at hSw); go_simp; try (with_reducible rfl))
            try simp only [Act.put, List.setIfInBounds_toArray, List.set_cons_zero, List.set_cons_succ]
            refine wpAnyH_take (i := 11) (oi := { dst := some 80, op := Op.move (Operand.tmp 79), type := 4, pos := "ref.go:112", after := #[{ on := 10, ground := Ground.data }, { on := 6, ground := Ground.chain }], guard := none }) (v := ?_) rfl (by kernel_rfl) (by kernel_rfl) (by kernel_rfl) (fun _ _ _ h => h) (Or.inl ⟨by rfl, ?_⟩) hHeld ?_
            case refine_2 => (intro w hSw; (try dsimp only at hSw); go_simp; try (with_reducible rfl))
            try simp only [Act.put, List.setIfInBounds_toArray, List.set_cons_zero, List.set_cons_succ]
            refine wpAnyH_take (i := 12) (oi := { dst := some 81, op := Op.fieldAddr 60 (Operand.tmp 6) 3, type := 0, pos := "ref.go:112", after := #[{ on := 11, ground := Ground.guard }], guard := some (11, false) }) (v := undef) rfl (by kernel_rfl) (by kernel_rfl) (by kernel_rfl) (fun _ _ _ h => h) (Or.inr ⟨by rfl, rfl⟩) hHeld ?_
            try simp only [Act.put, List.setIfInBounds_toArray, List.set_cons_zero, List.set_cons_succ]
            refine wpAnyH_take (i := 13) (oi := { dst := some 82, op := Op.load 3 (Operand.tmp 81), type := 3, pos := "ref.go:112", after := #[{ on := 12, ground := Ground.data }, { on := 11, ground := Ground.guard }], guard := some (11, false) }) (v := undef) rfl (by kernel_rfl) (by kernel_rfl) (by kernel_rfl) (fun _ _ _ h => h) (Or.inr ⟨by rfl, rfl⟩) hHeld ?_
            try simp only [Act.put, List.setIfInBounds_toArray, List.set_cons_zero, List.set_cons_succ]
            refine wpAnyH_take (i := 14) (oi := { dst := some 83, op := Op.move (Operand.tmp 7), type := 3, pos := "ref.go:112", after := #[{ on := 11, ground := Ground.guard }], guard := some (11, false) }) (v := undef) rfl (by kernel_rfl) (by kernel_rfl) (by kernel_rfl) (fun _ _ _ h => h) (Or.inr ⟨by rfl, rfl⟩) hHeld ?_
            try simp only [Act.put, List.setIfInBounds_toArray, List.set_cons_zero, List.set_cons_succ]
            refine wpAnyH_take (i := 15) (oi := { dst := some 84, op := Op.call { callee := Callee.value (Operand.func 27), args := #[Operand.tmp 83], argTypes := #[3] }, type := 3, pos := "ref.go:112", after := #[{ on := 14, ground := Ground.data }, { on := 11, ground := Ground.chain }, { on := 11, ground := Ground.guard }], guard := some (11, false) }) (v := undef) rfl (by kernel_rfl) (by kernel_rfl) (by kernel_rfl) (fun _ _ _ h => h) (Or.inr ⟨by rfl, rfl⟩) hHeld ?_
            try simp only [Act.put, List.setIfInBounds_toArray, List.set_cons_zero, List.set_cons_succ]
            refine wpAnyH_take (i := 16) (oi := { dst := some 85, op := Op.binOp BinOp.gtr 3 (Operand.tmp 82) (Operand.tmp 84) 3, type := 4, pos := "ref.go:112", after := #[{ on := 13, ground := Ground.data }, { on := 15, ground := Ground.data }, { on := 11, ground := Ground.guard }], guard := some (11, false) }) (v := undef) rfl (by kernel_rfl) (by kernel_rfl) (by kernel_rfl) (fun _ _ _ h => h) (Or.inr ⟨by rfl, rfl⟩) hHeld ?_
            try simp only [Act.put, List.setIfInBounds_toArray, List.set_cons_zero, List.set_cons_succ]
            refine wpAnyH_take (i := 17) (oi := { dst := some 86, op := Op.pick (Operand.tmp 80) (Operand.const (Value.bool true)) (Operand.tmp 85), type := 4, pos := "ref.go:112", after := #[{ on := 11, ground := Ground.data }, { on := 16, ground := Ground.data }], guard := none }) (v := ?_) rfl (by kernel_rfl) (by kernel_rfl) (by kernel_rfl) (fun _ _ _ h => h) (Or.inl ⟨by rfl, ?_⟩) hHeld ?_
            case refine_2 => (intro w hSw; (try dsimp only at hSw); go_simp; try (with_reducible rfl))
            try simp only [Act.put, List.setIfInBounds_toArray, List.set_cons_zero, List.set_cons_succ]
            refine wpAnyH_done (by kernel_rfl) ?_ _
            go_wp2_with fail
            go_ret
            exact ⟨by rw [HR.out]; rfl, Gr.trans BW.out (Gr.trans HW.out (Gr.trans BW1.out hu1))⟩
          have r0 : (o != y.w) = false := by simp [q0]
          by_cases q4 : x.reset < 0
          case pos =>
            have r1 : decide (x.reset < 0) = true := by simpa using q4
            have HR := Lib.hid (HBD.out fun h => by have := (COK.out.1 h).2.1; omega)
            clear q0
            go_wp2_with fail
            try rw [eW1]
            clear eW1 g0 g1 g2 g3 g4 x0 x1 x2 x3 y0 y1 y2 y3 y4 y5 y6 e0 e1 e2 e3 e4 d0 d1 d2 d3
            try rw [HWB.out]
            refine wp_region_held_drew (S := (fun u => BxAt u w.heap.size n (some ⟨by1, offy, none⟩) A2 (some ⟨bb, off, none⟩) A4 A5 c1 c2 c3 c4 c5 ∧ CAt u wr.heap.size x)) (by kernel_rfl) (KEEP1.out _ (Gr.drew _)) (fun hHeld => ?_)
            refine wpAnyH_take (i := 0) (oi := { dst := some 69, op := Op.load 27 (Operand.tmp 1), type := 27, pos := "ref.go:112", after := #[], guard := none }) (v := ?_) rfl (by kernel_rfl) (by kernel_rfl) (by kernel_rfl) (fun _ _ _ h => h) (Or.inl ⟨by rfl, ?_⟩) hHeld ?_
            case refine_2 => (intro w hSw; (try dsimp only at hSw); go_simp; try (with_reducible rfl))
            try simp only [Act.put, List.setIfInBounds_toArray, List.set_cons_zero, List.set_cons_succ]
            refine wpAnyH_take (i := 1) (oi := { dst := some 70, op := Op.fieldAddr 60 (Operand.tmp 6) 2, type := 0, pos := "ref.go:112", after := #[], guard := none }) (v := ?_) rfl (by kernel_rfl) (by kernel_rfl) (by kernel_rfl) (fun _ _ _ h => h) (Or.inl ⟨by rfl, ?_⟩) hHeld ?_
            case refine_2 => (intro w hSw; (try dsimp only at hSw); go_simp; try (with_reducible rfl))
            try simp only [Act.put, List.setIfInBounds_toArray, List.set_cons_zero, List.set_cons_succ]
            refine wpAnyH_take (i := 2) (oi := { dst := some 71, op := Op.load 3 (Operand.tmp 70), type := 3, pos := "ref.go:112", after := #[{ on := 1, ground := Ground.data }], guard := none }) (v := ?_) rfl (by kernel_rfl) (by kernel_rfl) (by kernel_rfl) (fun _ _ _ h => h) (Or.inl ⟨by rfl, ?_⟩) hHeld ?_
            case refine_2 => (intro w hSw; (try dsimp only at hSw); go_simp; try (with_reducible rfl))
            try simp only [Act.put, List.setIfInBounds_toArray, List.set_cons_zero, List.set_cons_succ]
            refine wpAnyH_take (i := 4) (oi := { dst := some 73, op := Op.move (Operand.tmp 7), type := 3, pos := "ref.go:112", after := #[], guard := none }) (v := ?_) rfl (by kernel_rfl) (by kernel_rfl) (by kernel_rfl) (fun _ _ _ h => h) (Or.inl ⟨by rfl, ?_⟩) hHeld ?_
            case refine_2 => (intro w hSw; (try dsimp only at hSw); go_simp; try (with_reducible rfl))
            try simp only [Act.put, List.setIfInBounds_toArray, List.set_cons_zero, List.set_cons_succ]
            refine wpAnyH_ready (rs := [3]) (by kernel_rfl) (by simp) ?_
            refine AllReadyH.cons (o := { dst := some 72, op := Op.call { callee := Callee.value (Operand.func 31), args := #[Operand.tmp 69, Operand.tmp 71], argTypes := #[27, 3] }, type := 3, pos := "ref.go:112", after := #[{ on := 0, ground := Ground.data }, { on := 2, ground := Ground.data }], guard := none }) rfl (fun K hK => ?_) AllReadyH.nil
            go_simp
            refine (TH.out _ (Gr.trans BW1.out (Gr.drew _))).mono ?_
            rintro e u1 ⟨rfl, hu1'⟩
            have hu1 : Gr W1 u1 := Gr.trans (Gr.drew _) hu1'
            refine hK.out _ _ (KEEP1.out _ hu1) (fun hHeld => ?_)
            clear hK K hu1'
            try simp only [Act.put, List.setIfInBounds_toArray, List.set_cons_zero, List.set_cons_succ]
            refine wpAnyH_take (i := 5) (oi := { dst := some 74, op := Op.binOp BinOp.neq 3 (Operand.tmp 72) (Operand.tmp 73) 3, type := 4, pos := "ref.go:112", after := #[{ on := 3, ground := Ground.data }, { on := 4, ground := Ground.data }], guard := none }) (v := ?_) rfl (by kernel_rfl) (by kernel_rfl) (by kernel_rfl) (fun _ _ _ h => h) (Or.inl ⟨by rfl, ?_⟩) hHeld ?_
            case refine_2 => (intro w hSw; (try dsimp only at hSw); go_simp; try (with_reducible rfl))
            try simp only [Act.put, List.setIfInBounds_toArray, List.set_cons_zero, List.set_cons_succ]
            refine wpAnyH_take (i := 6) (oi := { dst := some 75, op := Op.move (Operand.tmp 74), type := 4, pos := "ref.go:112", after := #[{ on := 5, ground := Ground.data }, { on := 3, ground := Ground.chain }], guard := none }) (v := ?_) rfl (by kernel_rfl) (by kernel_rfl) (by kernel_rfl) (fun _ _ _ h => h) (Or.inl ⟨by rfl, ?_⟩) hHeld ?_
            case refine_2 => (intro w hSw; (try dsimp only at hSw); go_simp; try (with_reducible rfl))
            try simp only [Act.put, List.setIfInBounds_toArray, List.set_cons_zero, List.set_cons_succ]
            refine wpAnyH_take (i := 7) (oi := { dst := some 76, op := Op.fieldAddr 60 (Operand.tmp 6) 3, type := 0, pos := "ref.go:112", after := #[{ on := 6, ground := Ground.guard }], guard := some (6, false) }) (v := ?_) rfl (by kernel_rfl) (by kernel_rfl) (by kernel_rfl) (fun _ _ _ h => h) (Or.inl ⟨by rfl, ?_⟩) hHeld ?_
            case refine_2 => (intro w hSw; (try dsimp only at hSw); go_simp; try (with_reducible rfl))
            try simp only [Act.put, List.setIfInBounds_toArray, List.set_cons_zero, List.set_cons_succ]
            refine wpAnyH_take (i := 8) (oi := { dst := some 77, op := Op.load 3 (Operand.tmp 76), type := 3, pos := "ref.go:112", after := #[{ on := 7, ground := Ground.data }, { on := 6, ground := Ground.guard }], guard := some (6, false) }) (v := ?_) rfl (by kernel_rfl) (by kernel_rfl) (by kernel_rfl) (fun _ _ _ h => h) (Or.inl ⟨by rfl, ?_⟩) hHeld ?_
            case refine_2 => (intro w hSw; (try dsimp only at hSw); go_simp; try (with_reducible rfl))
            try simp only [Act.put, List.setIfInBounds_toArray, List.set_cons_zero, List.set_cons_succ]
            refine wpAnyH_take (i := 9) (oi := { dst := some 78, op := Op.binOp BinOp.lss 3 (Operand.tmp 77) (Operand.const (Value.int IntKind.i64 0)) 3, type := 4, pos := "ref.go:112", after := #[{ on := 8, ground := Ground.data }, { on := 6, ground := Ground.guard }], guard := some (6, false) }) (v := ?_) rfl (by kernel_rfl) (by kernel_rfl) (by kernel_rfl) (fun _ _ _ h => h) (Or.inl ⟨by rfl, ?_⟩) hHeld ?_
            case refine_2 => (intro w hSw; (try dsimp only at hSw); go_simp; try (with_reducible rfl))
            try simp only [Act.put, List.setIfInBounds_toArray, List.set_cons_zero, List.set_cons_succ]
            refine wpAnyH_take (i := 10) (oi := { dst := some 79, op := Op.pick (Operand.tmp 75) (Operand.const (Value.bool true)) (Operand.tmp 78), type := 4, pos := "ref.go:112", after := #[{ on := 6, ground := Ground.data }, { on := 9, ground := Ground.data }], guard := none }) (v := ?_) rfl (by kernel_rfl) (by kernel_rfl) (by kernel_rfl) (fun _ _ _ h => h) (Or.inl ⟨by rfl, ?_⟩) hHeld ?_
            case refine_2 => (intro w hSw; (try dsimp only at hSw); go_simp; try (with_reducible rfl))
            try simp only [Act.put, List.setIfInBounds_toArray, List.set_cons_zero, List.set_cons_succ]
            refine wpAnyH_take (i := 11) (oi := { dst := some 80, op := Op.move (Operand.tmp 79), type := 4, pos := "ref.go:112", after := #[{ on := 10, ground := Ground.data }, { on := 6, ground := Ground.chain }], guard := none }) (v := ?_) rfl (by kernel_rfl) (by kernel_rfl) (by kernel_rfl) (fun _ _ _ h => h) (Or.inl ⟨by rfl, ?_⟩) hHeld ?_
            case refine_2 => (intro w hSw; (try dsimp only at hSw); go_simp; try (with_reducible rfl))
            try simp only [Act.put, List.setIfInBounds_toArray, List.set_cons_zero, List.set_cons_succ]
            refine wpAnyH_take (i := 12) (oi := { dst := some 81, op := Op.fieldAddr 60 (Operand.tmp 6) 3, type := 0, pos := "ref.go:112", after := #[{ on := 11, ground := Ground.guard }], guard := some (11, false) }) (v := undef) rfl (by kernel_rfl) (by kernel_rfl) (by kernel_rfl) (fun _ _ _ h => h) (Or.inr ⟨by rfl, rfl⟩) hHeld ?_
            try simp only [Act.put, List.setIfInBounds_toArray, List.set_cons_zero, List.set_cons_succ]
            refine wpAnyH_take (i := 13) (oi := { dst := some 82, op := Op.load 3 (Operand.tmp 81), type := 3, pos := "ref.go:112", after := #[{ on := 12, ground := Ground.data }, { on := 11, ground := Ground.guard }], guard := some (11, false) }) (v := undef) rfl (by kernel_rfl) (by kernel_rfl) (by kernel_rfl) (fun _ _ _ h => h) (Or.inr ⟨by rfl, rfl⟩) hHeld ?_
            try simp only [Act.put, List.setIfInBounds_toArray, List.set_cons_zero, List.set_cons_succ]
            refine wpAnyH_take (i := 14) (oi := { dst := some 83, op := Op.move (Operand.tmp 7), type := 3, pos := "ref.go:112", after := #[{ on := 11, ground := Ground.guard }], guard := some (11, false) }) (v := undef) rfl (by kernel_rfl) (by kernel_rfl) (by kernel_rfl) (fun _ _ _ h => h) (Or.inr ⟨by rfl, rfl⟩) hHeld ?_
            try simp only [Act.put, List.setIfInBounds_toArray, List.set_cons_zero, List.set_cons_succ]
            refine wpAnyH_take (i := 15) (oi := { dst := some 84, op := Op.call { callee := Callee.value (Operand.func 27), args := #[Operand.tmp 83], argTypes := #[3] }, type := 3, pos := "ref.go:112", after := #[{ on := 14, ground := Ground.data }, { on := 11, ground := Ground.chain }, { on := 11, ground := Ground.guard }], guard := some (11, false) }) (v := undef) rfl (by kernel_rfl) (by kernel_rfl) (by kernel_rfl) (fun _ _ _ h => h) (Or.inr ⟨by rfl, rfl⟩) hHeld ?_
            try simp only [Act.put, List.setIfInBounds_toArray, List.set_cons_zero, List.set_cons_succ]
            refine wpAnyH_take (i := 16) (oi := { dst := some 85, op := Op.binOp BinOp.gtr 3 (Operand.tmp 82) (Operand.tmp 84) 3, type := 4, pos := "ref.go:112", after := #[{ on := 13, ground := Ground.data }, { on := 15, ground := Ground.data }, { on := 11, ground := Ground.guard }], guard := some (11, false) }) (v := undef) rfl (by kernel_rfl) (by kernel_rfl) (by kernel_rfl) (fun _ _ _ h => h) (Or.inr ⟨by rfl, rfl⟩) hHeld ?_
            try simp only [Act.put, List.setIfInBounds_toArray, List.set_cons_zero, List.set_cons_succ]
            refine wpAnyH_take (i := 17) (oi := { dst := some 86, op := Op.pick (Operand.tmp 80) (Operand.const (Value.bool true)) (Operand.tmp 85), type := 4, pos := "ref.go:112", after := #[{ on := 11, ground := Ground.data }, { on := 16, ground := Ground.data }], guard := none }) (v := ?_) rfl (by kernel_rfl) (by kernel_rfl) (by kernel_rfl) (fun _ _ _ h => h) (Or.inl ⟨by rfl, ?_⟩) hHeld ?_
            case refine_2 => (intro w hSw; (try dsimp only at hSw); go_simp; try (with_reducible rfl))
            try simp only [Act.put, List.setIfInBounds_toArray, List.set_cons_zero, List.set_cons_succ]
            refine wpAnyH_done (by kernel_rfl) ?_ _
            go_wp2_with fail
            go_ret
            exact ⟨by rw [HR.out]; rfl, Gr.trans BW.out (Gr.trans HW.out (Gr.trans BW1.out hu1))⟩
          have r1 : decide (x.reset < 0) = false := by simpa using q4
          by_cases q5 : (q : Int) < x.reset
          case pos =>
            have r2 : decide ((q : Int) < x.reset) = true := by simpa using q5
            have HR := Lib.hid (HBD.out fun h => by have := (COK.out.1 h).2.2; omega)
            clear q0
            go_wp2_with fail
            try rw [eW1]
            clear eW1 g0 g1 g2 g3 g4 x0 x1 x2 x3 y0 y1 y2 y3 y4 y5 y6 e0 e1 e2 e3 e4 d0 d1 d2 d3
            try rw [HWB.out]
            go_region_held3 (fun u => BxAt u w.heap.size n (some ⟨by1, offy, none⟩) A2 (some ⟨bb, off, none⟩) A4 A5 c1 c2 c3 c4 c5 ∧ CAt u wr.heap.size x)
              (first | exact KEEP1.out _ (Gr.drew _) | exact KEEP1.out _ (by assumption))
              (first
                | (go_at_call 31; (with_reducible refine (TH.out _ (Gr.trans BW1.out (Gr.drew _))).mono ?_); rintro e u1 ⟨rfl, hu1'⟩; have hu1 : Gr W1 u1 := Gr.trans (Gr.drew _) hu1')
                | (go_at_call 27; (with_reducible refine (MK.out _).mono ?_); rintro e u2 ⟨rfl, rfl⟩))
            go_wp2_with fail
            go_ret
            exact ⟨by rw [HR.out]; rfl, Gr.trans BW.out (Gr.trans HW.out (Gr.trans BW1.out hu1))⟩
          have r2 : decide ((q : Int) < x.reset) = false := by simpa using q5
          have HR := Lib.hid (HST.out (COK.out.2 ⟨q0, by omega, by omega⟩))
          clear q0
          go_wp2_with fail
          try rw [eW1]
          clear eW1 g0 g1 g2 g3 g4 x0 x1 x2 x3 y0 y1 y2 y3 y4 y5 y6 e0 e1 e2 e3 e4 d0 d1 d2 d3
          try rw [HWB.out]
          go_region_held3 (fun u => BxAt u w.heap.size n (some ⟨by1, offy, none⟩) A2 (some ⟨bb, off, none⟩) A4 A5 c1 c2 c3 c4 c5 ∧ CAt u wr.heap.size x)
            (first | exact KEEP1.out _ (Gr.drew _) | exact KEEP1.out _ (by assumption))
            (first
              | (go_at_call 31; (with_reducible refine (TH.out _ (Gr.trans BW1.out (Gr.drew _))).mono ?_); rintro e u1 ⟨rfl, hu1'⟩; have hu1 : Gr W1 u1 := Gr.trans (Gr.drew _) hu1')
              | (go_at_call 27; (with_reducible refine (MK.out _).mono ?_); rintro e u2 ⟨rfl, rfl⟩))

          go_wp2_with fail
          go_roundg (gk - 1)
          case measure => have := HJ.out; omega
          case rel =>
            refine ⟨j + 1, by have := HJ.out; omega, by go_num, Lib.hid ?_, Lib.hid HR.out, Lib.hid (Gr.trans HW.out (Gr.trans BW1.out hu1))⟩
            rw [HBS.out, HWY.out]
        have HCO : Hid (∀ c ∈ n.cells, CellOk n.nodes c) := Lib.hid (all_take fun i x hi hx => HA.out i x (by omega) hx)
        have hjn : j = n.cells.length := by omega
        subst hjn
        rw [List.take_length]
        obtain ⟨bi, hbi⟩ : ∃ bi, bitsOf n.nodes n.cells = bi := ⟨_, rfl⟩
        rw [hbi]
        have HBI := Lib.hid hbi
        clear hbi HA HJ
        go_wp2_with fail
        go_loopg [8] n.props.length (fun g i wr => ∃ j : Nat, j + g = n.props.length ∧ i = .int .i64 j ∧ Hid (∀ i x, i < j → n.props[i]? = some x → PropOk n.nodes x) ∧ Hid (Gr W0 wr))
        case atStart => exact ⟨0, by omega, rfl, Lib.hid (fun i x hi => by omega), Lib.hid HW.out⟩
        case round =>
          obtain ⟨j, hjg, rfl, HA, HW⟩ := hrel
          have HJ := Lib.hid hjg
          have hjl : j ≤ n.props.length := by omega
          clear hjg
          obtain ⟨e0, e1, e2, e3, e4⟩ := KEEP.out _ HW.out
          by_cases hlt : j < n.props.length
          case pos =>
            have hs : n.props[j]? = some n.props[j] := List.getElem?_eq_getElem hlt
            generalize n.props[j] = x at hs
            have HS := Lib.hid hs
            have hi1 : (j : Int) < (n.props.length : Int) := by omega
            have hi0 : (0 : Int) ≤ (j : Int) := by omega
            have HST : Hid (PropOk n.nodes x → ∀ i y, i < j + 1 → n.props[i]? = some y → PropOk n.nodes y) := Lib.hid fun hr i y hi hy => by
              by_cases h2 : i < j
              · exact HA.out i y h2 hy
              · have e2 : i = j := by omega
                subst e2
                rw [HS.out] at hy
                rw [← Option.some.inj hy]
                exact hr
            have HBD : Hid (¬ (PropOk n.nodes x) → b = false) := Lib.hid fun hn => bool_no hb.out fun hr => hn (hr.2.2.2.1.1 x (List.mem_of_getElem? HS.out))
            obtain ⟨bb, off, rfl, -, d0, d1, d2⟩ := (H4.out.gr (Gr.trans BW.out HW.out)) j x hs
            obtain ⟨o, ho⟩ : ∃ o, widA n.nodes x.node = o := ⟨_, rfl⟩
            have TH := Lib.hid (fun (u : World) (hu : Gr wr u) => TA.out x.node u (Gr.trans BW.out (Gr.trans HW.out hu)))
            rw [ho] at TH
            have HO := Lib.hid ho
            clear hs ho
            by_cases q0 : x.kind < 8
            case pos =>
              have HR := Lib.hid (HBD.out fun h => by have := h.1; omega)
              go_wp2_with fail
              go_ret
              exact ⟨by rw [HR.out]; rfl, Gr.trans BW.out (Gr.trans HW.out (bel_alloc _ _))⟩
            by_cases q4 : 10 < x.kind
            case pos =>
              have HR := Lib.hid (HBD.out fun h => by have := h.2.1; omega)
              go_wp2_with fail
              go_ret
              exact ⟨by rw [HR.out]; rfl, Gr.trans BW.out (Gr.trans HW.out (bel_alloc _ _))⟩
            by_cases q5 : o = 1
            case pos =>
              have HR := Lib.hid (HST.out ⟨by omega, by omega, by rw [HO.out, q5]⟩)
              have r0 : (o != 1) = false := by simp [q5]
              clear q5
              obtain ⟨W1, eW1, BW1, KEEP1⟩ : ∃ W1, wr.alloc (.cells #[.int .i64 x.kind, .string x.s, .int .i64 x.node] 47) = W1 ∧ Hid (Gr wr W1) ∧ BxAt W1 w.heap.size n A1 A2 A3 (some ⟨bb, off, none⟩) A5 c1 c2 c3 c4 c5 :=
                ⟨_, rfl, Lib.hid (bel_alloc _ _), KEEP.out _ (Gr.trans HW.out (bel_alloc _ _))⟩
              obtain ⟨g0, g1, g2, g3, g4⟩ := KEEP1
              have PX := x_prop wr x
              rw [eW1] at PX
              obtain ⟨x0, x1, x2⟩ := PX
              go_wp2_with fail
              try rw [eW1]
              refine (TH.out _ BW1.out).mono ?_
              rintro e w2 ⟨rfl, hg⟩
              have HG2 := Lib.hid (Gr.trans HW.out (Gr.trans BW1.out hg))
              clear hg g0 g1 g2 g3 g4 x0 x1 x2 eW1 e0 e1 e2 e3 e4
              go_wp2_with fail
              go_roundg (gk - 1)
              case measure => have := HJ.out; omega
              case rel => exact ⟨j + 1, by have := HJ.out; omega, by go_num, Lib.hid HR.out, Lib.hid (HG2.out)⟩
            case neg =>
              have HR := Lib.hid (HBD.out fun h => q5 (by rw [← HO.out]; exact h.2.2))
              have r0 : (o != 1) = true := by simp [q5]
              clear q5
              obtain ⟨W1, eW1, BW1, KEEP1⟩ : ∃ W1, wr.alloc (.cells #[.int .i64 x.kind, .string x.s, .int .i64 x.node] 47) = W1 ∧ Hid (Gr wr W1) ∧ BxAt W1 w.heap.size n A1 A2 A3 (some ⟨bb, off, none⟩) A5 c1 c2 c3 c4 c5 :=
                ⟨_, rfl, Lib.hid (bel_alloc _ _), KEEP.out _ (Gr.trans HW.out (bel_alloc _ _))⟩
              obtain ⟨g0, g1, g2, g3, g4⟩ := KEEP1
              have PX := x_prop wr x
              rw [eW1] at PX
              obtain ⟨x0, x1, x2⟩ := PX
              go_wp2_with fail
              try rw [eW1]
              refine (TH.out _ BW1.out).mono ?_
              rintro e w2 ⟨rfl, hg⟩
              have HG2 := Lib.hid (Gr.trans HW.out (Gr.trans BW1.out hg))
              clear hg g0 g1 g2 g3 g4 x0 x1 x2 eW1 e0 e1 e2 e3 e4
              go_wp2_with fail
              go_ret
              exact ⟨by rw [HR.out]; rfl, Gr.trans BW.out HG2.out⟩
          have HPO : Hid (∀ c ∈ n.props, PropOk n.nodes c) := Lib.hid (all_take fun i x hi hx => HA.out i x (by omega) hx)
          clear HA HJ
          go_wp2_with fail
          go_loopg [10] n.names.length (fun g i wr => ∃ j : Nat, j + g = n.names.length ∧ i = .int .i64 j ∧ Hid (∀ i x, i < j → n.names[i]? = some x → 0 ≤ x.node ∧ x.node < (n.nodes.length : Int)) ∧ Hid (Gr W0 wr))
          case atStart => exact ⟨0, by omega, rfl, Lib.hid (fun i x hi => by omega), Lib.hid HW.out⟩
          case round =>
            obtain ⟨j, hjg, rfl, HA, HW⟩ := hrel
            have HJ := Lib.hid hjg
            have hjl : j ≤ n.names.length := by omega
            clear hjg
            obtain ⟨e0, e1, e2, e3, e4⟩ := KEEP.out _ HW.out
            by_cases hlt : j < n.names.length
            case pos =>
              have hs : n.names[j]? = some n.names[j] := List.getElem?_eq_getElem hlt
              generalize n.names[j] = x at hs
              have HS := Lib.hid hs
              have hi1 : (j : Int) < (n.names.length : Int) := by omega
              have hi0 : (0 : Int) ≤ (j : Int) := by omega
              have HST : Hid (0 ≤ x.node ∧ x.node < (n.nodes.length : Int) → ∀ i y, i < j + 1 → n.names[i]? = some y → 0 ≤ y.node ∧ y.node < (n.nodes.length : Int)) := Lib.hid fun hr i y hi hy => by
                by_cases h2 : i < j
                · exact HA.out i y h2 hy
                · have e2 : i = j := by omega
                  subst e2
                  rw [HS.out] at hy
                  rw [← Option.some.inj hy]
                  exact hr
              have HBD : Hid (¬ (0 ≤ x.node ∧ x.node < (n.nodes.length : Int)) → b = false) := Lib.hid fun hn => bool_no hb.out fun hr => hn (hr.2.2.2.2 x (List.mem_of_getElem? HS.out))
              obtain ⟨bb, off, rfl, -, d0, d1⟩ := (H5.out.gr (Gr.trans BW.out HW.out)) j x hs
              obtain ⟨o, ho⟩ : ∃ o, widA n.nodes x.node = o := ⟨_, rfl⟩
              have TH := Lib.hid (fun (u : World) (hu : Gr wr u) => TA.out x.node u (Gr.trans BW.out (Gr.trans HW.out hu)))
              rw [ho] at TH
              have TP := there_pos hw x.node
              rw [ho] at TP
              have KEEP1 : Hid (∀ u, Gr wr u → BxAt u w.heap.size n A1 A2 A3 A4 (some ⟨bb, off, none⟩) c1 c2 c3 c4 c5 ∧ u.cell? ⟨bb, off + j * 2 + 1, none⟩ = some (.int .i64 x.node)) := Lib.hid fun u hu => ⟨KEEP.out u (Gr.trans HW.out hu), by
                obtain ⟨bb', off', he, -, d0', d1'⟩ := (H5.out.gr (Gr.trans BW.out (Gr.trans HW.out hu))) j x HS.out
                obtain ⟨rfl, rfl⟩ : bb = bb' ∧ off = off' := by simpa using he
                exact d1'⟩
              clear hs ho
              by_cases q0 : o = 0
              case pos =>
                have HR := Lib.hid (HBD.out fun h => TP.2 h q0)
                have r0 : (o == 0) = true := by simp [q0]
                clear q0 TP
                go_wp2_with fail
                go_region_held3 (fun u => BxAt u w.heap.size n A1 A2 A3 A4 (some ⟨bb, off, none⟩) c1 c2 c3 c4 c5 ∧ u.cell? ⟨bb, off + j * 2 + 1, none⟩ = some (.int .i64 x.node))
                  (first | exact KEEP1.out _ (Gr.drew _) | exact KEEP1.out _ (by assumption))
                  (first
                    | (go_at_call 31; (with_reducible refine (TH.out _ (Gr.drew _)).mono ?_); rintro e u1 ⟨rfl, hu1'⟩; have hu1 : Gr wr u1 := Gr.trans (Gr.drew _) hu1'))
                go_wp2_with fail
                go_ret
                exact ⟨by rw [HR.out]; rfl, Gr.trans BW.out (Gr.trans HW.out hu1)⟩
              case neg =>
                have HR := Lib.hid (HST.out (TP.1 q0))
                have r0 : (o == 0) = false := by simp [q0]
                clear q0 TP
                go_wp2_with fail
                go_region_held3 (fun u => BxAt u w.heap.size n A1 A2 A3 A4 (some ⟨bb, off, none⟩) c1 c2 c3 c4 c5 ∧ u.cell? ⟨bb, off + j * 2 + 1, none⟩ = some (.int .i64 x.node))
                  (first | exact KEEP1.out _ (Gr.drew _) | exact KEEP1.out _ (by assumption))
                  (first
                    | (go_at_call 31; (with_reducible refine (TH.out _ (Gr.drew _)).mono ?_); rintro e u1 ⟨rfl, hu1'⟩; have hu1 : Gr wr u1 := Gr.trans (Gr.drew _) hu1'))
                go_wp2_with fail
                go_roundg (gk - 1)
                case measure => have := HJ.out; omega
                case rel => exact ⟨j + 1, by have := HJ.out; omega, by go_num, Lib.hid HR.out, Lib.hid (Gr.trans HW.out hu1)⟩
            have HNA : Hid (NamesOk n) := Lib.hid (all_take fun i x hi hx => HA.out i x (by omega) hx)
            by_cases q0 : bi ≤ 256
            case pos =>
              have HR := Lib.hid (hb.out.2 ⟨HNO.out, ⟨by omega, HP.out.1⟩, ⟨HP.out.2, HCO.out, by rw [HBI.out]; exact q0⟩, ⟨HPO.out, by omega⟩, HNA.out⟩)
              have r0 : decide (bi ≤ 256) = true := by simpa using q0
              go_wp2_with fail
              go_ret
              exact ⟨by rw [HR.out]; first | rfl | (show Ending.returned (.bool (decide _)) = _; rw [r0]), Gr.trans BW.out HW.out⟩
            case neg =>
              have HR := Lib.hid (bool_no hb.out fun h => q0 (by rw [← HBI.out]; exact h.2.2.1.2.2))
              have r0 : decide (bi ≤ 256) = false := by simpa using q0
              go_wp2_with fail
              go_ret
              exact ⟨by rw [HR.out]; first | rfl | (show Ending.returned (.bool (decide _)) = _; rw [r0]), Gr.trans BW.out HW.out⟩
end Go.Proofs.Ytmnblcnhbafcpaa
