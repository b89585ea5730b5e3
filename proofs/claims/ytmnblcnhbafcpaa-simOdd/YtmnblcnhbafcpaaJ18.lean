/-
  THE DOCUMENT'S fits, WALKED: what it asks.
-/
import Derived.Test.YtmnblcnhbafcpaaJ16
/-
  THE DOCUMENT'S ANSWERS: widths, operands, WALKED.
-/
namespace Go.Proofs.Ytmnblcnhbafcpaa
open Go.RowKit
open NetM

set_option maxRecDepth 100000 in
set_option maxHeartbeats 2000000 in
theorem wide_any (n : Nt) (v : Value) (i : Int) (k : Nat) (w : World) (hs : Sz n) (hk : k ≤ n.nodes.length) (hn : Hid (NtAt w n v)) :
    Calls Try.prog 48 #[v, .int .i64 i, .int .i64 (k : Nat)] w fun e w' => e = .returned (.int .i64 (widA (n.nodes.take k) i)) ∧ Gr w w' := by
  obtain ⟨z1, z2, z3, z4, z5⟩ := hs
  obtain ⟨A1, A2, A3, A4, A5, c1, c2, c3, c4, c5, rfl, hc1, h1, h2, h3, h4, h5⟩ := hn.out
  have H1 := Lib.hid h1
  have H2 := Lib.hid h2
  have H3 := Lib.hid h3
  have H4 := Lib.hid h4
  have H5 := Lib.hid h5
  clear h1 h2 h3 h4 h5
  obtain ⟨W0, eW, BW, KEEP⟩ : ∃ W0, w.alloc (.cells (bxC n A1 A2 A3 A4 A5 c1 c2 c3 c4 c5) 27) = W0 ∧ Hid (Gr w W0) ∧ Hid (∀ u, Gr W0 u → BxAt u w.heap.size n A1 A2 A3 A4 A5 c1 c2 c3 c4 c5) :=
    ⟨_, rfl, Lib.hid (bel_alloc _ _), Lib.hid fun u hu => bx_gr (bx_new w n A1 A2 A3 A4 A5 c1 c2 c3 c4 c5) (by simp) hu⟩
  obtain ⟨e0, e1, e2, e3, e4⟩ := KEEP.out W0 (Gr.refl _)
  have hlt : (n.nodes.take k).length = k := by rw [List.length_take]; omega
  by_cases q0 : i < 0
  · rw [widA_neg q0]
    go_enter Try.func48, Try.ntmps48
    go_wp2_with fail
    go_ret
    exact ⟨rfl, by first | exact BW.out | (rw [eW]; exact BW.out)⟩
  by_cases q1 : (k : Int) ≤ i
  · rw [widA_ge (by rw [hlt]; exact q1)]
    go_enter Try.func48, Try.ntmps48
    go_wp2_with fail
    go_ret
    exact ⟨rfl, by first | exact BW.out | (rw [eW]; exact BW.out)⟩
  obtain ⟨j, rfl⟩ : ∃ j : Nat, i = j := ⟨i.toNat, by omega⟩
  have hj : j < n.nodes.length := by omega
  have hsx : n.nodes[j]? = some n.nodes[j] := List.getElem?_eq_getElem hj
  generalize n.nodes[j] = x at hsx
  rw [widA_some (x := x) (by rw [List.getElem?_take_of_lt (by omega)]; exact hsx)]
  obtain ⟨b, off, rfl, -, d0, d1, d2, d3, d4, d5, d6⟩ := (H1.out.gr BW.out) j x hsx
  have h2 : (j : Int) < (n.nodes.length : Int) := by omega
  have h3 : (0 : Int) ≤ (j : Int) := by omega
  clear hsx hlt q0
  go_enter Try.func48, Try.ntmps48
  go_wp2_with fail
  go_ret
  exact ⟨rfl, by first | exact BW.out | (rw [eW]; exact BW.out)⟩
set_option maxRecDepth 100000 in
set_option maxHeartbeats 2000000 in
theorem there_any (n : Nt) (v : Value) (i : Int) (w : World) (hs : Sz n) (hn : Hid (NtAt w n v)) :
    Calls Try.prog 31 #[v, .int .i64 i] w fun e w' => e = .returned (.int .i64 (widA n.nodes i)) ∧ Gr w w' := by
  have HV := Lib.hid (fun (u : World) (hu : Gr w u) => hn.out.gr hu)
  obtain ⟨A1, A2, A3, A4, A5, c1, c2, c3, c4, c5, rfl, hc1, h1, h2, h3, h4, h5⟩ := hn.out
  have H1 := Lib.hid h1
  have H2 := Lib.hid h2
  have H3 := Lib.hid h3
  have H4 := Lib.hid h4
  have H5 := Lib.hid h5
  clear h1 h2 h3 h4 h5
  obtain ⟨W0, eW, BW, KEEP⟩ : ∃ W0, w.alloc (.cells (bxC n A1 A2 A3 A4 A5 c1 c2 c3 c4 c5) 27) = W0 ∧ Hid (Gr w W0) ∧ Hid (∀ u, Gr W0 u → BxAt u w.heap.size n A1 A2 A3 A4 A5 c1 c2 c3 c4 c5) :=
    ⟨_, rfl, Lib.hid (bel_alloc _ _), Lib.hid fun u hu => bx_gr (bx_new w n A1 A2 A3 A4 A5 c1 c2 c3 c4 c5) (by simp) hu⟩
  obtain ⟨e0, e1, e2, e3, e4⟩ := KEEP.out W0 (Gr.refl _)
  have WC := Lib.hid (wide_any n _ i n.nodes.length W0 hs (Nat.le_refl _) (Lib.hid (HV.out W0 BW.out)))
  rw [List.take_length] at WC
  go_enter Try.func31, Try.ntmps31
  go_wp2_with fail
  try rw [eW]
  refine WC.out.mono ?_
  rintro e w1 ⟨rfl, hg⟩
  have HG := Lib.hid (Gr.trans BW.out hg)
  clear hg eW e0 e1 e2 e3 e4
  go_wp2_with fail
  go_ret
  exact ⟨rfl, HG.out⟩
/-- of how many operands an op is -/
def opsI (op : Int) : Int := match ruleOf op with
  | some (k, _) => (k : Int)
  | none => -1
set_option maxRecDepth 100000 in
set_option maxHeartbeats 2000000 in
theorem operands_any (op : Int) (w : World) : Calls Try.prog 46 #[.int .i64 op] w fun e w' => e = .returned (.int .i64 (opsI op)) ∧ w = w' := by
  by_cases h : op = 1 ∨ op = 3 ∨ op = 4 ∨ op = 5 ∨ op = 6 ∨ op = 7 ∨ op = 8 ∨ op = 9 ∨ op = 10 ∨ op = 11 ∨ op = 12 ∨ op = 13 ∨ op = 14 ∨ op = 15 ∨ op = 16 ∨ op = 17 ∨ op = 18 ∨ op = 21 ∨ op = 22
  · rcases h with rfl | rfl | rfl | rfl | rfl | rfl | rfl | rfl | rfl | rfl | rfl | rfl | rfl | rfl | rfl | rfl | rfl | rfl | rfl
    all_goals
      go_enter Try.func46, Try.ntmps46
      go_wp2_with fail
      go_ret
      exact ⟨rfl, rfl⟩
  · have hr : opsI op = -1 := by
      have : ruleOf op = none := by
        unfold ruleOf
        repeat rw [if_neg (by omega)]
      unfold opsI
      rw [this]
    rw [hr]
    have f1 : (op == 1) = false := by simp; omega
    have f3 : (op == 3) = false := by simp; omega
    have f4 : (op == 4) = false := by simp; omega
    have f5 : (op == 5) = false := by simp; omega
    have f6 : (op == 6) = false := by simp; omega
    have f7 : (op == 7) = false := by simp; omega
    have f8 : (op == 8) = false := by simp; omega
    have f9 : (op == 9) = false := by simp; omega
    have f10 : (op == 10) = false := by simp; omega
    have f11 : (op == 11) = false := by simp; omega
    have f12 : (op == 12) = false := by simp; omega
    have f13 : (op == 13) = false := by simp; omega
    have f14 : (op == 14) = false := by simp; omega
    have f15 : (op == 15) = false := by simp; omega
    have f16 : (op == 16) = false := by simp; omega
    have f17 : (op == 17) = false := by simp; omega
    have f18 : (op == 18) = false := by simp; omega
    have f21 : (op == 21) = false := by simp; omega
    have f22 : (op == 22) = false := by simp; omega
    clear h hr
    go_enter Try.func46, Try.ntmps46
    go_wp2_with fail
    go_ret
    exact ⟨rfl, rfl⟩
end Go.Proofs.Ytmnblcnhbafcpaa

namespace Go.Proofs.Ytmnblcnhbafcpaa
open Go.RowKit
open NetM

/-- what the document asks of a node's widths and fields -/
def FOk (a b c : Int) (x : Nd) : Prop :=
  (x.op = 1 → 0 ≤ x.n ∧ x.n ≤ ((2 ^ x.w.toNat - 1 : Nat) : Int) ∧ x.lo = 0) ∧ (x.op = 21 ∨ x.op = 22 → x.n = 0 ∧ x.lo = 0) ∧ (x.op = 3 → x.n = 0 ∧ x.lo = 0 ∧ a = x.w) ∧
  (x.op = 4 ∨ x.op = 5 → x.n = 0 ∧ x.w = 1 ∧ a = x.lo ∧ 0 < a) ∧ (6 ≤ x.op ∧ x.op ≤ 11 → x.n = 0 ∧ x.lo = 0 ∧ a = x.w ∧ b = x.w) ∧
  (12 ≤ x.op ∧ x.op ≤ 15 → x.n = 0 ∧ x.w = 1 ∧ a = x.lo ∧ b = x.lo ∧ 0 < a) ∧ (x.op = 16 → x.n = 0 ∧ x.lo = 0 ∧ a = 1 ∧ b = x.w ∧ c = x.w) ∧
  (x.op = 17 → x.n = 0 ∧ x.lo = 0 ∧ 0 < a ∧ 0 < b ∧ a + b = x.w) ∧ (x.op = 18 → 0 ≤ x.lo ∧ x.lo ≤ x.n ∧ x.n < a ∧ x.w = x.n - x.lo + 1)
end Go.Proofs.Ytmnblcnhbafcpaa
