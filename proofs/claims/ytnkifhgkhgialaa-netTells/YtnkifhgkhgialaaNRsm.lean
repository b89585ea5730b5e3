/-
  THE DOCUMENT'S Same, WALKED.
-/
import Derived.Test.YtnkifhgkhgialaaNRfa
namespace Go.Proofs.Ytnkifhgkhgialaa
open Go.RowKit
open NetM

set_option maxRecDepth 100000 in
set_option maxHeartbeats 8000000 in
theorem RSame_any (n m : Nt) (v u0 : Value) (w : World) (hs : Sz n) (hs' : Sz m) (hn : Hid (NtAt w n v)) (hm : Hid (NtAt w m u0)) (b : Bool) (hb : Hid (b = true ↔ NSame n m)) :
    Calls Try.prog 15 #[v, u0] w fun e w' => e = .returned (.bool b) ∧ Gr w w' := by
  obtain ⟨z1, z2, z3, z4, z5⟩ := hs
  obtain ⟨y1, y2, y3, y4, y5⟩ := hs'
  obtain ⟨A1, A2, A3, A4, A5, c1, c2, c3, c4, c5, rfl, hc1, h1, h2, h3, h4, h5⟩ := hn.out
  obtain ⟨B1, B2, B3, B4, B5, g1, g2, g3, g4, g5, rfl, hg1, k1, k2, k3, k4, k5⟩ := hm.out
  have X0 := bx_new w n A1 A2 A3 A4 A5 c1 c2 c3 c4 c5
  have Y0 := bx_new (w.alloc (.cells (bxC n A1 A2 A3 A4 A5 c1 c2 c3 c4 c5) 27)) m B1 B2 B3 B4 B5 g1 g2 g3 g4 g5
  rw [World.size_alloc] at Y0
  obtain ⟨W0, eW, BW, KEEP⟩ : ∃ W0, (w.alloc (.cells (bxC n A1 A2 A3 A4 A5 c1 c2 c3 c4 c5) 27)).alloc (.cells (bxC m B1 B2 B3 B4 B5 g1 g2 g3 g4 g5) 27) = W0 ∧ Hid (Gr w W0) ∧ Hid (∀ u, Gr W0 u → BxAt u w.heap.size n A1 A2 A3 A4 A5 c1 c2 c3 c4 c5 ∧ BxAt u (w.heap.size + 1) m B1 B2 B3 B4 B5 g1 g2 g3 g4 g5) :=
    ⟨_, rfl, Lib.hid (Gr.trans (bel_alloc _ _) (bel_alloc _ _)), Lib.hid fun u hu => ⟨bx_gr X0 (by simp) (Gr.trans (bel_alloc _ _) hu), bx_gr Y0 (by simp) hu⟩⟩
  clear X0 Y0
  have P1 := Lib.hid h1
  have P2 := Lib.hid h2
  have P3 := Lib.hid h3
  have P4 := Lib.hid h4
  have P5 := Lib.hid h5
  have Q1 := Lib.hid k1
  have Q2 := Lib.hid k2
  have Q3 := Lib.hid k3
  have Q4 := Lib.hid k4
  have Q5 := Lib.hid k5
  clear h1 h2 h3 h4 h5 k1 k2 k3 k4 k5
  obtain ⟨⟨e0, e1, e2, e3, e4⟩, f0, f1, f2, f3, f4⟩ := KEEP.out W0 (Gr.refl _)
  by_cases l0 : n.nodes.length = m.nodes.length
  case neg =>
    have HR := Lib.hid (bool_no hb.out fun h => l0 (by rw [h.1]))
    have q0 : ((n.nodes.length : Int) != (m.nodes.length : Int)) = true := by simp; omega
    clear l0
    go_enter Try.func15, Try.ntmps15
    go_wp2_with fail
    go_ret
    exact ⟨by rw [HR.out]; rfl, by first | exact BW.out | (rw [eW]; exact BW.out)⟩
  have q0 : ((n.nodes.length : Int) != (m.nodes.length : Int)) = false := by simp; omega
  have L0 := Lib.hid l0
  clear l0
  by_cases l1 : n.ins.length = m.ins.length
  case neg =>
    have HR := Lib.hid (bool_no hb.out fun h => l1 (by rw [h.2.1]))
    have q1 : ((n.ins.length : Int) != (m.ins.length : Int)) = true := by simp; omega
    clear l1
    go_enter Try.func15, Try.ntmps15
    go_wp2_with fail
    go_ret
    exact ⟨by rw [HR.out]; rfl, by first | exact BW.out | (rw [eW]; exact BW.out)⟩
  have q1 : ((n.ins.length : Int) != (m.ins.length : Int)) = false := by simp; omega
  have L1 := Lib.hid l1
  clear l1
  by_cases l2 : n.cells.length = m.cells.length
  case neg =>
    have HR := Lib.hid (bool_no hb.out fun h => l2 (by rw [h.2.2.1]))
    have q2 : ((n.cells.length : Int) != (m.cells.length : Int)) = true := by simp; omega
    clear l2
    go_enter Try.func15, Try.ntmps15
    go_wp2_with fail
    go_ret
    exact ⟨by rw [HR.out]; rfl, by first | exact BW.out | (rw [eW]; exact BW.out)⟩
  have q2 : ((n.cells.length : Int) != (m.cells.length : Int)) = false := by simp; omega
  have L2 := Lib.hid l2
  clear l2
  by_cases l3 : n.props.length = m.props.length
  case neg =>
    have HR := Lib.hid (bool_no hb.out fun h => l3 (by rw [h.2.2.2.1]))
    have q3 : ((n.props.length : Int) != (m.props.length : Int)) = true := by simp; omega
    clear l3
    go_enter Try.func15, Try.ntmps15
    go_wp2_with fail
    go_ret
    exact ⟨by rw [HR.out]; rfl, by first | exact BW.out | (rw [eW]; exact BW.out)⟩
  have q3 : ((n.props.length : Int) != (m.props.length : Int)) = false := by simp; omega
  have L3 := Lib.hid l3
  clear l3
  by_cases l4 : n.names.length = m.names.length
  case neg =>
    have HR := Lib.hid (bool_no hb.out fun h => l4 (by rw [h.2.2.2.2]))
    have q4 : ((n.names.length : Int) != (m.names.length : Int)) = true := by simp; omega
    clear l4
    go_enter Try.func15, Try.ntmps15
    go_wp2_with fail
    go_ret
    exact ⟨by rw [HR.out]; rfl, by first | exact BW.out | (rw [eW]; exact BW.out)⟩
  have q4 : ((n.names.length : Int) != (m.names.length : Int)) = false := by simp; omega
  have L4 := Lib.hid l4
  clear l4
  go_enter Try.func15, Try.ntmps15
  go_wp2_with fail
  try rw [eW]
  clear eW
  go_loopg [5] n.nodes.length (fun g i wr => ∃ j : Nat, j + g = n.nodes.length ∧ i = .int .i64 j ∧ Hid (∀ (i : Nat) x y, i < j → n.nodes[i]? = some x → m.nodes[i]? = some y → x = y) ∧ Hid (Gr W0 wr))
  case atStart => exact ⟨0, by omega, rfl, Lib.hid (fun i x y hi => by omega), Lib.hid (Gr.refl _)⟩
  case round =>
    obtain ⟨j, hjg, rfl, HA, HW⟩ := hrel
    have HJ := Lib.hid hjg
    have hjl : j ≤ n.nodes.length := by omega
    clear hjg
    obtain ⟨⟨e0, e1, e2, e3, e4⟩, f0, f1, f2, f3, f4⟩ := KEEP.out _ HW.out
    by_cases hlt : j < n.nodes.length
    case pos =>
      have hsx : n.nodes[j]? = some n.nodes[j] := List.getElem?_eq_getElem hlt
      have hlt' : j < m.nodes.length := by have := L0.out; omega
      have hsy : m.nodes[j]? = some m.nodes[j] := List.getElem?_eq_getElem hlt'
      generalize n.nodes[j] = x at hsx
      generalize m.nodes[j] = y at hsy
      have HSX := Lib.hid hsx
      have HSY := Lib.hid hsy
      obtain ⟨bb, off, rfl, -, d0, d1, d2, d3, d4, d5, d6⟩ := (P1.out.gr (Gr.trans BW.out HW.out)) j x hsx
      obtain ⟨bb', off', rfl, -, x0, x1, x2, x3, x4, x5, x6⟩ := (Q1.out.gr (Gr.trans BW.out HW.out)) j y hsy
      clear hsx hsy
      have hi1 : (j : Int) < (n.nodes.length : Int) := by omega
      have hi2 : (j : Int) < (m.nodes.length : Int) := by omega
      have hi0 : (0 : Int) ≤ (j : Int) := by omega
      by_cases hxy : x = y
      case pos =>
        have HX := Lib.hid hxy
        have q := fun u : World => neqNd u true x y (by simp [hxy])
        simp only [Bool.not_true] at q
        clear hxy
        go_wp2_with fail
        go_quiet (fail)
        go_wp2_with fail
        go_roundg (gk - 1)
        case measure => have := HJ.out; omega
        case rel =>
          refine ⟨j + 1, by have := HJ.out; omega, by go_num, Lib.hid (fun i x' y' hi hx' hy' => ?_), Lib.hid (Below.drewN HW.out _)⟩
          by_cases h2 : i < j
          · exact HA.out i x' y' h2 hx' hy'
          · have e2 : i = j := by omega
            subst e2
            rw [HSX.out] at hx'
            rw [HSY.out] at hy'
            rw [← Option.some.inj hx', ← Option.some.inj hy']
            exact HX.out
      case neg =>
        have HR := Lib.hid (bool_no hb.out fun h => hxy (by have h1 := HSX.out; rw [h.1, HSY.out] at h1; exact (Option.some.inj h1).symm))
        have q := fun u : World => neqNd u false x y (by simp [hxy])
        simp only [Bool.not_false] at q
        clear hxy
        go_wp2_with fail
        go_quiet (fail)
        go_wp2_with fail
        go_ret
        exact ⟨by rw [HR.out]; rfl, Gr.trans BW.out (Below.drewN HW.out _)⟩
    have R0 := Lib.hid (list_ext_len L0.out fun i x y hx hy => HA.out i x y (by have := (List.getElem?_eq_some_iff.1 hx).1; omega) hx hy)
    clear HA HJ
    go_wp2_with fail
    go_loopg [6] n.ins.length (fun g i wr => ∃ j : Nat, j + g = n.ins.length ∧ i = .int .i64 j ∧ Hid (∀ (i : Nat) x y, i < j → n.ins[i]? = some x → m.ins[i]? = some y → x = y) ∧ Hid (Gr W0 wr))
    case atStart => exact ⟨0, by omega, rfl, Lib.hid (fun i x y hi => by omega), HW⟩
    case round =>
      obtain ⟨j, hjg, rfl, HA, HW⟩ := hrel
      have HJ := Lib.hid hjg
      have hjl : j ≤ n.ins.length := by omega
      clear hjg
      obtain ⟨⟨e0, e1, e2, e3, e4⟩, f0, f1, f2, f3, f4⟩ := KEEP.out _ HW.out
      by_cases hlt : j < n.ins.length
      case pos =>
        have hsx : n.ins[j]? = some n.ins[j] := List.getElem?_eq_getElem hlt
        have hlt' : j < m.ins.length := by have := L1.out; omega
        have hsy : m.ins[j]? = some m.ins[j] := List.getElem?_eq_getElem hlt'
        generalize n.ins[j] = x at hsx
        generalize m.ins[j] = y at hsy
        have HSX := Lib.hid hsx
        have HSY := Lib.hid hsy
        obtain ⟨bb, off, rfl, -, d0, d1⟩ := (P2.out.gr (Gr.trans BW.out HW.out)) j x hsx
        obtain ⟨bb', off', rfl, -, x0, x1⟩ := (Q2.out.gr (Gr.trans BW.out HW.out)) j y hsy
        clear hsx hsy
        have hi1 : (j : Int) < (n.ins.length : Int) := by omega
        have hi2 : (j : Int) < (m.ins.length : Int) := by omega
        have hi0 : (0 : Int) ≤ (j : Int) := by omega
        by_cases hxy : x = y
        case pos =>
          have HX := Lib.hid hxy
          have q := fun u : World => neqPn u true x y (by simp [hxy])
          simp only [Bool.not_true] at q
          clear hxy
          go_wp2_with fail
          go_quiet (fail)
          go_wp2_with fail
          go_roundg (gk - 1)
          case measure => have := HJ.out; omega
          case rel =>
            refine ⟨j + 1, by have := HJ.out; omega, by go_num, Lib.hid (fun i x' y' hi hx' hy' => ?_), Lib.hid (Below.drewN HW.out _)⟩
            by_cases h2 : i < j
            · exact HA.out i x' y' h2 hx' hy'
            · have e2 : i = j := by omega
              subst e2
              rw [HSX.out] at hx'
              rw [HSY.out] at hy'
              rw [← Option.some.inj hx', ← Option.some.inj hy']
              exact HX.out
        case neg =>
          have HR := Lib.hid (bool_no hb.out fun h => hxy (by have h1 := HSX.out; rw [h.2.1, HSY.out] at h1; exact (Option.some.inj h1).symm))
          have q := fun u : World => neqPn u false x y (by simp [hxy])
          simp only [Bool.not_false] at q
          clear hxy
          go_wp2_with fail
          go_quiet (fail)
          go_wp2_with fail
          go_ret
          exact ⟨by rw [HR.out]; rfl, Gr.trans BW.out (Below.drewN HW.out _)⟩
      have R1 := Lib.hid (list_ext_len L1.out fun i x y hx hy => HA.out i x y (by have := (List.getElem?_eq_some_iff.1 hx).1; omega) hx hy)
      clear HA HJ
      go_wp2_with fail
      go_loopg [7] n.cells.length (fun g i wr => ∃ j : Nat, j + g = n.cells.length ∧ i = .int .i64 j ∧ Hid (∀ (i : Nat) x y, i < j → n.cells[i]? = some x → m.cells[i]? = some y → x = y) ∧ Hid (Gr W0 wr))
      case atStart => exact ⟨0, by omega, rfl, Lib.hid (fun i x y hi => by omega), HW⟩
      case round =>
        obtain ⟨j, hjg, rfl, HA, HW⟩ := hrel
        have HJ := Lib.hid hjg
        have hjl : j ≤ n.cells.length := by omega
        clear hjg
        obtain ⟨⟨e0, e1, e2, e3, e4⟩, f0, f1, f2, f3, f4⟩ := KEEP.out _ HW.out
        by_cases hlt : j < n.cells.length
        case pos =>
          have hsx : n.cells[j]? = some n.cells[j] := List.getElem?_eq_getElem hlt
          have hlt' : j < m.cells.length := by have := L2.out; omega
          have hsy : m.cells[j]? = some m.cells[j] := List.getElem?_eq_getElem hlt'
          generalize n.cells[j] = x at hsx
          generalize m.cells[j] = y at hsy
          have HSX := Lib.hid hsx
          have HSY := Lib.hid hsy
          obtain ⟨bb, off, rfl, -, d0, d1, d2, d3⟩ := (P3.out.gr (Gr.trans BW.out HW.out)) j x hsx
          obtain ⟨bb', off', rfl, -, x0, x1, x2, x3⟩ := (Q3.out.gr (Gr.trans BW.out HW.out)) j y hsy
          clear hsx hsy
          have hi1 : (j : Int) < (n.cells.length : Int) := by omega
          have hi2 : (j : Int) < (m.cells.length : Int) := by omega
          have hi0 : (0 : Int) ≤ (j : Int) := by omega
          by_cases hxy : x = y
          case pos =>
            have HX := Lib.hid hxy
            have q := fun u : World => neqCe u true x y (by simp [hxy])
            simp only [Bool.not_true] at q
            clear hxy
            go_wp2_with fail
            go_quiet (fail)
            go_wp2_with fail
            go_roundg (gk - 1)
            case measure => have := HJ.out; omega
            case rel =>
              refine ⟨j + 1, by have := HJ.out; omega, by go_num, Lib.hid (fun i x' y' hi hx' hy' => ?_), Lib.hid (Below.drewN HW.out _)⟩
              by_cases h2 : i < j
              · exact HA.out i x' y' h2 hx' hy'
              · have e2 : i = j := by omega
                subst e2
                rw [HSX.out] at hx'
                rw [HSY.out] at hy'
                rw [← Option.some.inj hx', ← Option.some.inj hy']
                exact HX.out
          case neg =>
            have HR := Lib.hid (bool_no hb.out fun h => hxy (by have h1 := HSX.out; rw [h.2.2.1, HSY.out] at h1; exact (Option.some.inj h1).symm))
            have q := fun u : World => neqCe u false x y (by simp [hxy])
            simp only [Bool.not_false] at q
            clear hxy
            go_wp2_with fail
            go_quiet (fail)
            go_wp2_with fail
            go_ret
            exact ⟨by rw [HR.out]; rfl, Gr.trans BW.out (Below.drewN HW.out _)⟩
        have R2 := Lib.hid (list_ext_len L2.out fun i x y hx hy => HA.out i x y (by have := (List.getElem?_eq_some_iff.1 hx).1; omega) hx hy)
        clear HA HJ
        go_wp2_with fail
        go_loopg [8] n.props.length (fun g i wr => ∃ j : Nat, j + g = n.props.length ∧ i = .int .i64 j ∧ Hid (∀ (i : Nat) x y, i < j → n.props[i]? = some x → m.props[i]? = some y → x = y) ∧ Hid (Gr W0 wr))
        case atStart => exact ⟨0, by omega, rfl, Lib.hid (fun i x y hi => by omega), HW⟩
        case round =>
          obtain ⟨j, hjg, rfl, HA, HW⟩ := hrel
          have HJ := Lib.hid hjg
          have hjl : j ≤ n.props.length := by omega
          clear hjg
          obtain ⟨⟨e0, e1, e2, e3, e4⟩, f0, f1, f2, f3, f4⟩ := KEEP.out _ HW.out
          by_cases hlt : j < n.props.length
          case pos =>
            have hsx : n.props[j]? = some n.props[j] := List.getElem?_eq_getElem hlt
            have hlt' : j < m.props.length := by have := L3.out; omega
            have hsy : m.props[j]? = some m.props[j] := List.getElem?_eq_getElem hlt'
            generalize n.props[j] = x at hsx
            generalize m.props[j] = y at hsy
            have HSX := Lib.hid hsx
            have HSY := Lib.hid hsy
            obtain ⟨bb, off, rfl, -, d0, d1, d2⟩ := (P4.out.gr (Gr.trans BW.out HW.out)) j x hsx
            obtain ⟨bb', off', rfl, -, x0, x1, x2⟩ := (Q4.out.gr (Gr.trans BW.out HW.out)) j y hsy
            clear hsx hsy
            have hi1 : (j : Int) < (n.props.length : Int) := by omega
            have hi2 : (j : Int) < (m.props.length : Int) := by omega
            have hi0 : (0 : Int) ≤ (j : Int) := by omega
            by_cases hxy : x = y
            case pos =>
              have HX := Lib.hid hxy
              have q := fun u : World => neqPr u true x y (by simp [hxy])
              simp only [Bool.not_true] at q
              clear hxy
              go_wp2_with fail
              go_quiet (fail)
              go_wp2_with fail
              go_roundg (gk - 1)
              case measure => have := HJ.out; omega
              case rel =>
                refine ⟨j + 1, by have := HJ.out; omega, by go_num, Lib.hid (fun i x' y' hi hx' hy' => ?_), Lib.hid (Below.drewN HW.out _)⟩
                by_cases h2 : i < j
                · exact HA.out i x' y' h2 hx' hy'
                · have e2 : i = j := by omega
                  subst e2
                  rw [HSX.out] at hx'
                  rw [HSY.out] at hy'
                  rw [← Option.some.inj hx', ← Option.some.inj hy']
                  exact HX.out
            case neg =>
              have HR := Lib.hid (bool_no hb.out fun h => hxy (by have h1 := HSX.out; rw [h.2.2.2.1, HSY.out] at h1; exact (Option.some.inj h1).symm))
              have q := fun u : World => neqPr u false x y (by simp [hxy])
              simp only [Bool.not_false] at q
              clear hxy
              go_wp2_with fail
              go_quiet (fail)
              go_wp2_with fail
              go_ret
              exact ⟨by rw [HR.out]; rfl, Gr.trans BW.out (Below.drewN HW.out _)⟩
          have R3 := Lib.hid (list_ext_len L3.out fun i x y hx hy => HA.out i x y (by have := (List.getElem?_eq_some_iff.1 hx).1; omega) hx hy)
          clear HA HJ
          go_wp2_with fail
          go_loopg [9] n.names.length (fun g i wr => ∃ j : Nat, j + g = n.names.length ∧ i = .int .i64 j ∧ Hid (∀ (i : Nat) x y, i < j → n.names[i]? = some x → m.names[i]? = some y → x = y) ∧ Hid (Gr W0 wr))
          case atStart => exact ⟨0, by omega, rfl, Lib.hid (fun i x y hi => by omega), HW⟩
          case round =>
            obtain ⟨j, hjg, rfl, HA, HW⟩ := hrel
            have HJ := Lib.hid hjg
            have hjl : j ≤ n.names.length := by omega
            clear hjg
            obtain ⟨⟨e0, e1, e2, e3, e4⟩, f0, f1, f2, f3, f4⟩ := KEEP.out _ HW.out
            by_cases hlt : j < n.names.length
            case pos =>
              have hsx : n.names[j]? = some n.names[j] := List.getElem?_eq_getElem hlt
              have hlt' : j < m.names.length := by have := L4.out; omega
              have hsy : m.names[j]? = some m.names[j] := List.getElem?_eq_getElem hlt'
              generalize n.names[j] = x at hsx
              generalize m.names[j] = y at hsy
              have HSX := Lib.hid hsx
              have HSY := Lib.hid hsy
              obtain ⟨bb, off, rfl, -, d0, d1⟩ := (P5.out.gr (Gr.trans BW.out HW.out)) j x hsx
              obtain ⟨bb', off', rfl, -, x0, x1⟩ := (Q5.out.gr (Gr.trans BW.out HW.out)) j y hsy
              clear hsx hsy
              have hi1 : (j : Int) < (n.names.length : Int) := by omega
              have hi2 : (j : Int) < (m.names.length : Int) := by omega
              have hi0 : (0 : Int) ≤ (j : Int) := by omega
              by_cases hxy : x = y
              case pos =>
                have HX := Lib.hid hxy
                have q := fun u : World => neqPn u true x y (by simp [hxy])
                simp only [Bool.not_true] at q
                clear hxy
                go_wp2_with fail
                go_quiet (fail)
                go_wp2_with fail
                go_roundg (gk - 1)
                case measure => have := HJ.out; omega
                case rel =>
                  refine ⟨j + 1, by have := HJ.out; omega, by go_num, Lib.hid (fun i x' y' hi hx' hy' => ?_), Lib.hid (Below.drewN HW.out _)⟩
                  by_cases h2 : i < j
                  · exact HA.out i x' y' h2 hx' hy'
                  · have e2 : i = j := by omega
                    subst e2
                    rw [HSX.out] at hx'
                    rw [HSY.out] at hy'
                    rw [← Option.some.inj hx', ← Option.some.inj hy']
                    exact HX.out
              case neg =>
                have HR := Lib.hid (bool_no hb.out fun h => hxy (by have h1 := HSX.out; rw [h.2.2.2.2, HSY.out] at h1; exact (Option.some.inj h1).symm))
                have q := fun u : World => neqPn u false x y (by simp [hxy])
                simp only [Bool.not_false] at q
                clear hxy
                go_wp2_with fail
                go_quiet (fail)
                go_wp2_with fail
                go_ret
                exact ⟨by rw [HR.out]; rfl, Gr.trans BW.out (Below.drewN HW.out _)⟩
            have R4 := Lib.hid (list_ext_len L4.out fun i x y hx hy => HA.out i x y (by have := (List.getElem?_eq_some_iff.1 hx).1; omega) hx hy)
            clear HA HJ
            go_wp2_with fail
            go_ret
            exact ⟨by rw [hb.out.2 ⟨R0.out, R1.out, R2.out, R3.out, R4.out⟩]; rfl, Gr.trans BW.out HW.out⟩
end Go.Proofs.Ytnkifhgkhgialaa
