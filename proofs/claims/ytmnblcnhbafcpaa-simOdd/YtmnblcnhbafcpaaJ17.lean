/-
  SameInts, Great, Rows, WALKED.
-/
import Derived.Test.YtmnblcnhbafcpaaJ16
namespace Go.Proofs.Ytmnblcnhbafcpaa
open Go.RowKit
open NetM

def NGreat (n : Nt) : Prop := 300 < n.nodes.length ∨ 100 < n.ins.length ∨ 300 < n.cells.length ∨ 40 < n.props.length ∨ 300 < n.names.length
theorem sz_of {n : Nt} (h : ¬ NGreat n) : n.nodes.length ≤ 300 ∧ n.ins.length ≤ 100 ∧ n.cells.length ≤ 300 ∧ n.props.length ≤ 40 ∧ n.names.length ≤ 300 := by
  unfold NGreat at h
  omega
set_option maxRecDepth 100000 in
set_option maxHeartbeats 4000000 in
theorem Great_any (n : Nt) (v : Value) (w : World) (hn : Hid (NtAt w n v)) (b : Bool) (hb : Hid (b = true ↔ NGreat n)) :
    Calls Try.prog 11 #[v] w fun e w' => e = .returned (.bool b) ∧ Gr w w' := by
  obtain ⟨A1, A2, A3, A4, A5, c1, c2, c3, c4, c5, rfl, hc1, h1, h2, h3, h4, h5⟩ := hn.out
  have H1 := Lib.hid h1
  have H2 := Lib.hid h2
  have H3 := Lib.hid h3
  have H4 := Lib.hid h4
  have H5 := Lib.hid h5
  clear h1 h2 h3 h4 h5
  obtain ⟨W0, eW, BW, KEEP⟩ : ∃ W0, w.alloc (.cells (bxC n A1 A2 A3 A4 A5 c1 c2 c3 c4 c5) 27) = W0 ∧ Hid (Gr w W0) ∧ Hid (∀ u, Gr W0 u → BxAt u w.heap.size n A1 A2 A3 A4 A5 c1 c2 c3 c4 c5) :=
    ⟨_, rfl, Lib.hid (bel_alloc _ _), Lib.hid fun u hu => bx_gr (bx_new w n A1 A2 A3 A4 A5 c1 c2 c3 c4 c5) (by simp) hu⟩
  obtain ⟨e0, e1, e2, e3, e4⟩ := KEEP.out W0 (Gr.refl _)
  by_cases q0 : 300 < n.nodes.length
  case pos =>
    have r0 : (300 : Int) < (n.nodes.length : Int) := by omega
    have HR := Lib.hid (hb.out.2 (by unfold NGreat; omega))
    go_enter Try.func11, Try.ntmps11
    go_wp2_with fail
    go_ret
    exact ⟨by rw [HR.out]; first | rfl | (show Ending.returned (.bool (decide _)) = _; simp; omega), by first | exact BW.out | (rw [eW]; exact BW.out)⟩
  have r0 : ¬ (300 : Int) < (n.nodes.length : Int) := by omega
  by_cases q1 : 100 < n.ins.length
  case pos =>
    have r1 : (100 : Int) < (n.ins.length : Int) := by omega
    have HR := Lib.hid (hb.out.2 (by unfold NGreat; omega))
    go_enter Try.func11, Try.ntmps11
    go_wp2_with fail
    go_ret
    exact ⟨by rw [HR.out]; first | rfl | (show Ending.returned (.bool (decide _)) = _; simp; omega), by first | exact BW.out | (rw [eW]; exact BW.out)⟩
  have r1 : ¬ (100 : Int) < (n.ins.length : Int) := by omega
  by_cases q2 : 300 < n.cells.length
  case pos =>
    have r2 : (300 : Int) < (n.cells.length : Int) := by omega
    have HR := Lib.hid (hb.out.2 (by unfold NGreat; omega))
    go_enter Try.func11, Try.ntmps11
    go_wp2_with fail
    go_ret
    exact ⟨by rw [HR.out]; first | rfl | (show Ending.returned (.bool (decide _)) = _; simp; omega), by first | exact BW.out | (rw [eW]; exact BW.out)⟩
  have r2 : ¬ (300 : Int) < (n.cells.length : Int) := by omega
  by_cases q3 : 40 < n.props.length
  case pos =>
    have r3 : (40 : Int) < (n.props.length : Int) := by omega
    have HR := Lib.hid (hb.out.2 (by unfold NGreat; omega))
    go_enter Try.func11, Try.ntmps11
    go_wp2_with fail
    go_ret
    exact ⟨by rw [HR.out]; first | rfl | (show Ending.returned (.bool (decide _)) = _; simp; omega), by first | exact BW.out | (rw [eW]; exact BW.out)⟩
  have r3 : ¬ (40 : Int) < (n.props.length : Int) := by omega
  by_cases q4 : 300 < n.names.length
  case pos =>
    have r4 : (300 : Int) < (n.names.length : Int) := by omega
    have HR := Lib.hid (hb.out.2 (by unfold NGreat; omega))
    go_enter Try.func11, Try.ntmps11
    go_wp2_with fail
    go_ret
    exact ⟨by rw [HR.out]; first | rfl | (show Ending.returned (.bool (decide _)) = _; simp; omega), by first | exact BW.out | (rw [eW]; exact BW.out)⟩
  have r4 : ¬ (300 : Int) < (n.names.length : Int) := by omega
  have HR := Lib.hid (bool_no hb.out (by unfold NGreat; omega))
  go_enter Try.func11, Try.ntmps11
  go_wp2_with fail
  go_ret
  exact ⟨by rw [HR.out]; first | rfl | (show Ending.returned (.bool (decide _)) = _; simp; omega), by first | exact BW.out | (rw [eW]; exact BW.out)⟩
end Go.Proofs.Ytmnblcnhbafcpaa
