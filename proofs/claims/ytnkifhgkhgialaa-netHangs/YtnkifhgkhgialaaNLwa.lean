/-
  SameInts, Great, Rows, WALKED.
-/
import Derived.Test.YtnkifhgkhgialaaNEvx
namespace Go.Proofs.Ytnkifhgkhgialaa
open Go.RowKit
open NetM

set_option maxRecDepth 100000 in
set_option maxHeartbeats 2000000 in
theorem sameInts_any (A A' : Option Addr) (c c' : Nat) (xs ys : List Int) (w : World) (hl : xs.length ≤ 4000) (_hl' : ys.length ≤ 4000) (h : Hid (Ints w w.heap.size A xs)) (h' : Hid (Ints w w.heap.size A' ys)) (b : Bool) (hb : Hid (b = true ↔ xs = ys)) :
    Calls Try.prog 17 #[.slice A xs.length c, .slice A' ys.length c'] w fun e w' => e = .returned (.bool b) ∧ Gr w w' := by
  by_cases hln : xs.length = ys.length
  case neg =>
    have HB := Lib.hid (bool_no hb.out fun e => hln (by rw [e]))
    have q : ((xs.length : Int) != (ys.length : Int)) = true := by simp; omega
    clear hln
    go_enter Try.func17, Try.ntmps17
    go_wp2_with fail
    go_ret
    exact ⟨by rw [HB.out]; rfl, Gr.refl _⟩
  have q : ((xs.length : Int) != (ys.length : Int)) = false := by simp; omega
  have HL := Lib.hid hln
  clear hln
  go_enter Try.func17, Try.ntmps17
  go_wp2_with fail
  go_loopg [5] xs.length (fun g i wr => ∃ j n : Nat, j + g = xs.length ∧ i = .int .i64 j ∧ Hid (∀ i x y, i < j → xs[i]? = some x → ys[i]? = some y → x = y) ∧ Hid (wr = w.drewN n))
  case atStart => exact ⟨0, 0, by omega, rfl, Lib.hid (fun i x y hi => by omega), Lib.hid rfl⟩
  case round =>
    obtain ⟨j, n, hjg, rfl, HA, HW⟩ := hrel
    obtain rfl := HW.out
    have HJ := Lib.hid hjg
    have hjl : j ≤ xs.length := by omega
    clear hjg q
    by_cases hlt : j < xs.length
    · have hs : xs[j]? = some xs[j] := List.getElem?_eq_getElem hlt
      have hlt' : j < ys.length := by have := HL.out; omega
      have hs' : ys[j]? = some ys[j] := List.getElem?_eq_getElem hlt'
      generalize xs[j] = x at hs
      generalize ys[j] = y at hs'
      have HS := Lib.hid hs
      have HS' := Lib.hid hs'
      obtain ⟨bb, off, rfl, -, d0⟩ := h.out j x hs
      obtain ⟨bb', off', rfl, -, e0⟩ := h'.out j y hs'
      clear hs hs'
      have hi1 : (j : Int) < (xs.length : Int) := by omega
      have hi2 : (j : Int) < (ys.length : Int) := by omega
      have hi0 : (0 : Int) ≤ (j : Int) := by omega
      by_cases hxy : x = y
      · have HX := Lib.hid hxy
        have q : (x != y) = false := by simp [hxy]
        clear hxy
        go_wp2_with fail
        go_quiet (fail)
        go_wp2_with fail
        go_roundg (gk - 1)
        case measure => have := HJ.out; omega
        case rel =>
          refine ⟨j + 1, n + nq, by have := HJ.out; omega, by go_num, Lib.hid (fun i x' y' hi hx' hy' => ?_), Lib.hid (by first | rfl | rw [World.drewN_drewN])⟩
          by_cases h2 : i < j
          · exact HA.out i x' y' h2 hx' hy'
          · have e2 : i = j := by omega
            subst e2
            rw [HS.out] at hx'
            rw [HS'.out] at hy'
            rw [← Option.some.inj hx', ← Option.some.inj hy']
            exact HX.out
      · have HX := Lib.hid hxy
        have q : (x != y) = true := by simp [hxy]
        clear hxy
        go_wp2_with fail
        go_quiet (fail)
        go_wp2_with fail
        go_ret
        exact ⟨by rw [bool_no hb.out fun e => HX.out (by have h1 := HS.out; rw [e, HS'.out] at h1; exact (Option.some.inj h1).symm)]; rfl, Below.drewN (Below.drewN (Below.refl _ _) _) _⟩
    · have HB := Lib.hid (hb.out.2 (list_ext_len HL.out fun i x y hx hy => HA.out i x y (by have := (List.getElem?_eq_some_iff.1 hx).1; have := HJ.out; omega) hx hy))
      go_wp2_with fail
      go_ret
      exact ⟨by rw [HB.out]; rfl, Below.drewN (Below.refl _ _) _⟩
def NGreat (n : Nt) : Prop := 300 < n.nodes.length ∨ 100 < n.ins.length ∨ 300 < n.cells.length ∨ 40 < n.props.length ∨ 300 < n.names.length
theorem sz_of {n : Nt} (h : ¬ NGreat n) : n.nodes.length ≤ 300 ∧ n.ins.length ≤ 100 ∧ n.cells.length ≤ 300 ∧ n.props.length ≤ 40 ∧ n.names.length ≤ 300 := by
  unfold NGreat at h
  omega
set_option maxRecDepth 100000 in
set_option maxHeartbeats 4000000 in
theorem Great_any (n : Nt) (v : Value) (w : World) (hn : Hid (NtAt w n v)) (b : Bool) (hb : Hid (b = true ↔ NGreat n)) :
    Calls Try.prog 11 #[v] w fun e w' => e = .returned (.bool b) ∧ Gr w w' := by
  obtain ⟨A1, A2, A3, A4, A5, c1, c2, c3, c4, c5, rfl, hc1, h1, h2, h3, h4, h5⟩ := hn.out
  have H1 := Lib.hid h1
  have H2 := Lib.hid h2
  have H3 := Lib.hid h3
  have H4 := Lib.hid h4
  have H5 := Lib.hid h5
  clear h1 h2 h3 h4 h5
  obtain ⟨W0, eW, BW, KEEP⟩ : ∃ W0, w.alloc (.cells (bxC n A1 A2 A3 A4 A5 c1 c2 c3 c4 c5) 27) = W0 ∧ Hid (Gr w W0) ∧ Hid (∀ u, Gr W0 u → BxAt u w.heap.size n A1 A2 A3 A4 A5 c1 c2 c3 c4 c5) :=
    ⟨_, rfl, Lib.hid (bel_alloc _ _), Lib.hid fun u hu => bx_gr (bx_new w n A1 A2 A3 A4 A5 c1 c2 c3 c4 c5) (by simp) hu⟩
  obtain ⟨e0, e1, e2, e3, e4⟩ := KEEP.out W0 (Gr.refl _)
  by_cases q0 : 300 < n.nodes.length
  case pos =>
    have r0 : (300 : Int) < (n.nodes.length : Int) := by omega
    have HR := Lib.hid (hb.out.2 (by unfold NGreat; omega))
    go_enter Try.func11, Try.ntmps11
    go_wp2_with fail
    go_ret
    exact ⟨by rw [HR.out]; first | rfl | (show Ending.returned (.bool (decide _)) = _; simp; omega), by first | exact BW.out | (rw [eW]; exact BW.out)⟩
  have r0 : ¬ (300 : Int) < (n.nodes.length : Int) := by omega
  by_cases q1 : 100 < n.ins.length
  case pos =>
    have r1 : (100 : Int) < (n.ins.length : Int) := by omega
    have HR := Lib.hid (hb.out.2 (by unfold NGreat; omega))
    go_enter Try.func11, Try.ntmps11
    go_wp2_with fail
    go_ret
    exact ⟨by rw [HR.out]; first | rfl | (show Ending.returned (.bool (decide _)) = _; simp; omega), by first | exact BW.out | (rw [eW]; exact BW.out)⟩
  have r1 : ¬ (100 : Int) < (n.ins.length : Int) := by omega
  by_cases q2 : 300 < n.cells.length
  case pos =>
    have r2 : (300 : Int) < (n.cells.length : Int) := by omega
    have HR := Lib.hid (hb.out.2 (by unfold NGreat; omega))
    go_enter Try.func11, Try.ntmps11
    go_wp2_with fail
    go_ret
    exact ⟨by rw [HR.out]; first | rfl | (show Ending.returned (.bool (decide _)) = _; simp; omega), by first | exact BW.out | (rw [eW]; exact BW.out)⟩
  have r2 : ¬ (300 : Int) < (n.cells.length : Int) := by omega
  by_cases q3 : 40 < n.props.length
  case pos =>
    have r3 : (40 : Int) < (n.props.length : Int) := by omega
    have HR := Lib.hid (hb.out.2 (by unfold NGreat; omega))
    go_enter Try.func11, Try.ntmps11
    go_wp2_with fail
    go_ret
    exact ⟨by rw [HR.out]; first | rfl | (show Ending.returned (.bool (decide _)) = _; simp; omega), by first | exact BW.out | (rw [eW]; exact BW.out)⟩
  have r3 : ¬ (40 : Int) < (n.props.length : Int) := by omega
  by_cases q4 : 300 < n.names.length
  case pos =>
    have r4 : (300 : Int) < (n.names.length : Int) := by omega
    have HR := Lib.hid (hb.out.2 (by unfold NGreat; omega))
    go_enter Try.func11, Try.ntmps11
    go_wp2_with fail
    go_ret
    exact ⟨by rw [HR.out]; first | rfl | (show Ending.returned (.bool (decide _)) = _; simp; omega), by first | exact BW.out | (rw [eW]; exact BW.out)⟩
  have r4 : ¬ (300 : Int) < (n.names.length : Int) := by omega
  have HR := Lib.hid (bool_no hb.out (by unfold NGreat; omega))
  go_enter Try.func11, Try.ntmps11
  go_wp2_with fail
  go_ret
  exact ⟨by rw [HR.out]; first | rfl | (show Ending.returned (.bool (decide _)) = _; simp; omega), by first | exact BW.out | (rw [eW]; exact BW.out)⟩
end Go.Proofs.Ytnkifhgkhgialaa
