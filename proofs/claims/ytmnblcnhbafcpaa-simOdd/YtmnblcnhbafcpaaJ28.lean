/-
  head, WALKED.
-/
import Derived.Test.YtmnblcnhbafcpaaJ26
import Derived.Deep.Cut
namespace Go.Proofs.Ytmnblcnhbafcpaa
open Go.RowKit
open NetM

theorem NtAt.form {w : World} {n : Nt} {v : Value} (h : NtAt w n v) : ∃ A1 A2 A3 A4 A5 k1 k2 k3 k4 k5 c1 c2 c3 c4 c5, v = ntV A1 A2 A3 A4 A5 k1 k2 k3 k4 k5 c1 c2 c3 c4 c5 := by
  obtain ⟨A1, A2, A3, A4, A5, c1, c2, c3, c4, c5, e, _⟩ := h
  exact ⟨_, _, _, _, _, _, _, _, _, _, _, _, _, _, _, e⟩
theorem bad_of {w w' : World} {g : Nat} {B1 B2 B3 B4 B5 : Option Addr} {j1 j2 j3 j4 j5 d1 d2 d3 d4 d5 : Nat} (h : NtAt w baseN (ntV B1 B2 B3 B4 B5 j1 j2 j3 j4 j5 d1 d2 d3 d4 d5)) (hg : Gr w w') (hc : w'.heap[g]? = some (.cells xcellsC 60)) :
    NtAt w' badN (ntV B1 B2 (some ⟨g, 0, none⟩) B4 B5 j1 j2 1 j4 j5 d1 d2 1 d4 d5) := by
  obtain ⟨A1, A2, A3, A4, A5, c1, c2, c3, c4, c5, e, h0, h1, h2, h3, h4, h5⟩ := h
  simp only [ntV, Value.agg.injEq, Array.mk.injEq, List.cons.injEq, Value.slice.injEq, and_true] at e
  obtain ⟨⟨rfl, rfl, rfl⟩, ⟨rfl, rfl, rfl⟩, ⟨rfl, rfl, rfl⟩, ⟨rfl, rfl, rfl⟩, ⟨rfl, rfl, rfl⟩⟩ := e
  exact ⟨_, _, _, _, _, _, _, 1, _, _, rfl, h0, h1.gr hg, h2.gr hg, x_cells hc, h4.gr hg, h5.gr hg⟩
theorem no_at (w : World) : NtAt w noN (.agg #[.slice none 0 0, .slice none 0 0, .slice none 0 0, .slice none 0 0, .slice none 0 0]) :=
  ⟨none, none, none, none, none, 0, 0, 0, 0, 0, rfl, Nat.le_refl _, fun i x h => by simp [noN] at h, fun i x h => by simp [noN] at h, fun i x h => by simp [noN] at h, fun i x h => by simp [noN] at h, fun i x h => by simp [noN] at h⟩
theorem int1 (w : World) (x : Nat) : IntR (w.alloc (.cells #[.int .i64 (x : Nat)] 3)) (.slice (some ⟨w.heap.size, 0, none⟩) 1 1) (ofN [x]) := by
  refine ⟨some ⟨w.heap.size, 0, none⟩, 1, rfl, Nat.le_refl _, ?_⟩
  intro i s hi
  match i, hi with
  | 0, hi => simp [ofN] at hi; subst hi; exact ⟨_, 0, rfl, by simp, new_cells _ _ _ _ _ rfl⟩
  | i + 1, hi => simp [ofN] at hi
abbrev Bx5 (u : World) (g : Nat) (x0 x1 x2 x3 x4 : Value) : Prop := u.cell? ⟨g, 0, none⟩ = some x0 ∧ u.cell? ⟨g, 1, none⟩ = some x1 ∧ u.cell? ⟨g, 2, none⟩ = some x2 ∧ u.cell? ⟨g, 3, none⟩ = some x3 ∧ u.cell? ⟨g, 4, none⟩ = some x4
theorem bx5_new (w : World) (x0 x1 x2 x3 x4 : Value) : Bx5 (w.alloc (.cells #[x0, x1, x2, x3, x4] 27)) w.heap.size x0 x1 x2 x3 x4 := by
  refine ⟨?_, ?_, ?_, ?_, ?_⟩
  all_goals exact new_cells _ _ _ _ _ rfl
theorem bx5_gr {w u : World} {g : Nat} {x0 x1 x2 x3 x4 : Value} (h : Bx5 w g x0 x1 x2 x3 x4) (hg : g < w.heap.size) (hb : Gr w u) : Bx5 u g x0 x1 x2 x3 x4 := by
  obtain ⟨h0, h1, h2, h3, h4⟩ := h
  refine ⟨?_, ?_, ?_, ?_, ?_⟩
  all_goals
    rw [hb.cell (by simpa using hg)]
    assumption
theorem int1' (w : World) (g : Nat) (x : Nat) (hg : g = w.heap.size) : IntR (w.alloc (.cells #[.int .i64 (x : Nat)] 3)) (.slice (some ⟨g, 0, none⟩) 1 1) (ofN [x]) := by
  subst hg
  exact int1 w x
theorem ev_a : evAll baseN [11] [1] = [1, 11, 1, 12, 11, 0, 0, 0, 0, 12, 1, 1] := by decide +kernel
theorem lim_b (x y : Nat) (h : (List.range 13).all (fun k => (evL bNodes [x] [y] k).all (fun z => decide (z < 65536))) = true) : ∀ k z, k ≤ baseN.nodes.length → z ∈ evL baseN.nodes [x] [y] k → z < 65536 := by
  intro k z hk hz
  have h1 := List.all_eq_true.1 h k (List.mem_range.2 (Nat.lt_succ_of_le hk))
  exact of_decide_eq_true (List.all_eq_true.1 h1 z hz)
/-- what comes of the net, the state and the inputs built in place -/
theorem EvB (x y : Nat) (v : Value) (u : World) (hn : NtAt u baseN v) (h : (List.range 13).all (fun k => (evL bNodes [x] [y] k).all (fun z => decide (z < 65536))) = true) (u1 : World) (hu : Gr u u1) (sv iv : Value) (hs : IntR u1 sv (ofN [x])) (hi : IntR u1 iv (ofN [y])) :
    Calls Try.prog 26 #[v, sv, iv] u1 (RowRet u1 (ofN (evAll baseN [x] [y]))) :=
  Eval_any baseN v sv iv [x] [y] u1 base_sz (Lib.hid (hn.gr hu)) base_nds (by simp) (by simp) (Lib.hid hs) (Lib.hid hi) (Lib.hid (lim_b x y h))
theorem AfB (x y r : Nat) (v : Value) (u : World) (hn : NtAt u baseN v) (h : (List.range 13).all (fun k => (evL bNodes [x] [y] k).all (fun z => decide (z < 65536))) = true) (hr : getA (ofN (evAll baseN [x] [y])) 8 = (r : Nat)) (u1 : World) (hu : Gr u u1) (sv iv : Value) (hs : IntR u1 sv (ofN [x])) (hi : IntR u1 iv (ofN [y])) :
    Calls Try.prog 25 #[v, sv, iv] u1 (RowRet u1 (ofN [r])) := by
  have hl : (ofN (evAll baseN [x] [y])).length ≤ 4000 := by
    rw [ofN_len]
    unfold evAll
    rw [evL_len _ _ _ _ (Nat.le_refl _)]
    decide
  have := After_any baseN v sv iv (ofN (evAll baseN [x] [y])) u1 base_sz (Lib.hid (hn.gr hu)) hl (Lib.hid fun u2 hu2 => EvB x y v u hn h u2 (Gr.trans hu hu2) sv iv (hs.gr hu2) (hi.gr hu2))
  have e : baseN.cells.map (fun c => getA (ofN (evAll baseN [x] [y])) c.next) = ofN [r] := by
    show [getA (ofN (evAll baseN [x] [y])) 8] = [((r : Nat) : Int)]
    rw [hr]
  rw [e] at this
  exact this
end Go.Proofs.Ytmnblcnhbafcpaa
