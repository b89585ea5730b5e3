/-
  THE LAWS' OWN NET: made, and right.
-/
import Derived.Test.YtmnblcnhbafcpaaJ17
import Derived.Test.YtmnblcnhbafcpaaJ25
/-
  Rows, WALKED.
-/
namespace Go.Proofs.Ytmnblcnhbafcpaa
open Go.RowKit
open NetM
open VecM

/-- a number of raw ones, of so many bits -/
def rowG (l : List Nd) (ps : List Int) (a : List Nat) (i : Nat) : Nat := (a[i]?.getD 0) % 2 ^ (widA l (ps[i]?.getD (-1))).toNat
def rowOf (l : List Nd) (ps : List Int) (a : List Nat) : List Nat := (List.range ps.length).map (rowG l ps a)
def stOf (n : Nt) (a : List Nat) : List Nat := rowOf n.nodes (n.cells.map Ce.node) a
def inOf (n : Nt) (a : List Nat) : List Nat := rowOf n.nodes (n.ins.map Pn.node) a
theorem row_step (g : Nat → Nat) (j : Nat) : (List.range (j + 1)).map g = (List.range j).map g ++ [g j] := by rw [List.range_succ]; simp
theorem stOf_len (n : Nt) (a : List Nat) : (stOf n a).length = n.cells.length := by simp [stOf, rowOf]
theorem inOf_len (n : Nt) (a : List Nat) : (inOf n a).length = n.ins.length := by simp [inOf, rowOf]
end Go.Proofs.Ytmnblcnhbafcpaa

namespace Go.Proofs.Ytmnblcnhbafcpaa
open Go.RowKit
open NetM

def bNodes : List Nd := [⟨21, 1, 0, 0, 0, 0, 0⟩, ⟨22, 4, 0, 0, 0, 0, 0⟩, ⟨1, 4, 0, 0, 0, 1, 0⟩, ⟨9, 4, 1, 2, 0, 0, 0⟩, ⟨1, 4, 0, 0, 0, 11, 0⟩, ⟨14, 1, 1, 4, 0, 0, 4⟩, ⟨1, 4, 0, 0, 0, 0, 0⟩, ⟨16, 4, 5, 3, 6, 0, 0⟩, ⟨16, 4, 0, 7, 1, 0, 0⟩, ⟨1, 4, 0, 0, 0, 12, 0⟩, ⟨13, 1, 1, 9, 0, 0, 4⟩, ⟨12, 1, 1, 4, 0, 0, 4⟩]
def sGo : ByteArray := ⟨#[103, 111]⟩
def sN : ByteArray := ⟨#[110]⟩
def sLow : ByteArray := ⟨#[108, 111, 119]⟩
def sTop : ByteArray := ⟨#[116, 111, 112]⟩
def bIns : List Pn := [⟨sGo, 0⟩]
def bCells : List Ce := [⟨sN, 1, 8, 0⟩]
def xCells : List Ce := [⟨sN, 1, 0, 0⟩]
def bProps : List Pr := [⟨8, sLow, 10⟩, ⟨10, sTop, 11⟩]
def bNames : List Pn := [⟨sN, 1⟩]
def baseN : Nt := ⟨bNodes, bIns, bCells, bProps, bNames⟩
def badN : Nt := ⟨bNodes, bIns, xCells, bProps, bNames⟩
def noN : Nt := ⟨[], [], [], [], []⟩
set_option maxRecDepth 100000 in
theorem base_nds : NdsOk bNodes := by
  intro i x h
  match i, h with
  | 0, h =>
    obtain rfl := (Option.some.inj h).symm
    refine ⟨0, false, false, 62, rfl, by decide, by decide, ?_, ?_, ?_⟩
    · unfold NReach; decide
    · unfold NBare; decide
    · unfold NFits AllW; decide
  | 1, h =>
    obtain rfl := (Option.some.inj h).symm
    refine ⟨0, false, false, 62, rfl, by decide, by decide, ?_, ?_, ?_⟩
    · unfold NReach; decide
    · unfold NBare; decide
    · unfold NFits AllW; decide
  | 2, h =>
    obtain rfl := (Option.some.inj h).symm
    refine ⟨0, true, false, 56, rfl, by decide, by decide, ?_, ?_, ?_⟩
    · unfold NReach; decide
    · unfold NBare; decide
    · unfold NFits AllW; decide
  | 3, h =>
    obtain rfl := (Option.some.inj h).symm
    refine ⟨2, false, false, 57, rfl, by decide, by decide, ?_, ?_, ?_⟩
    · unfold NReach; decide
    · unfold NBare; decide
    · unfold NFits AllW; decide
  | 4, h =>
    obtain rfl := (Option.some.inj h).symm
    refine ⟨0, true, false, 56, rfl, by decide, by decide, ?_, ?_, ?_⟩
    · unfold NReach; decide
    · unfold NBare; decide
    · unfold NFits AllW; decide
  | 5, h =>
    obtain rfl := (Option.some.inj h).symm
    refine ⟨2, false, true, 58, rfl, by decide, by decide, ?_, ?_, ?_⟩
    · unfold NReach; decide
    · unfold NBare; decide
    · unfold NFits AllW; decide
  | 6, h =>
    obtain rfl := (Option.some.inj h).symm
    refine ⟨0, true, false, 56, rfl, by decide, by decide, ?_, ?_, ?_⟩
    · unfold NReach; decide
    · unfold NBare; decide
    · unfold NFits AllW; decide
  | 7, h =>
    obtain rfl := (Option.some.inj h).symm
    refine ⟨3, false, false, 59, rfl, by decide, by decide, ?_, ?_, ?_⟩
    · unfold NReach; decide
    · unfold NBare; decide
    · unfold NFits AllW; decide
  | 8, h =>
    obtain rfl := (Option.some.inj h).symm
    refine ⟨3, false, false, 59, rfl, by decide, by decide, ?_, ?_, ?_⟩
    · unfold NReach; decide
    · unfold NBare; decide
    · unfold NFits AllW; decide
  | 9, h =>
    obtain rfl := (Option.some.inj h).symm
    refine ⟨0, true, false, 56, rfl, by decide, by decide, ?_, ?_, ?_⟩
    · unfold NReach; decide
    · unfold NBare; decide
    · unfold NFits AllW; decide
  | 10, h =>
    obtain rfl := (Option.some.inj h).symm
    refine ⟨2, false, true, 58, rfl, by decide, by decide, ?_, ?_, ?_⟩
    · unfold NReach; decide
    · unfold NBare; decide
    · unfold NFits AllW; decide
  | 11, h =>
    obtain rfl := (Option.some.inj h).symm
    refine ⟨2, false, true, 58, rfl, by decide, by decide, ?_, ?_, ?_⟩
    · unfold NReach; decide
    · unfold NBare; decide
    · unfold NFits AllW; decide
  | i + 12, h => simp [bNodes] at h
set_option maxRecDepth 100000 in
theorem base_right : NRight baseN := by
  refine ⟨base_nds, ⟨by decide, by decide⟩, ⟨by decide, ?_, by decide⟩, ⟨?_, by decide⟩, ?_⟩
  · intro c hc
    obtain rfl := List.mem_singleton.1 hc
    unfold CellOk
    decide
  · intro p hp
    rcases List.mem_cons.1 hp with rfl | hp
    · unfold PropOk; decide
    · obtain rfl := List.mem_singleton.1 hp
      unfold PropOk; decide
  · intro p hp
    obtain rfl := List.mem_singleton.1 hp
    decide
theorem bad_right : ¬ NRight badN := fun h => by
  have := (h.2.2.1.2.1 ⟨sN, 1, 0, 0⟩ (by simp [badN, xCells])).1
  exact absurd this (by decide)
theorem no_right : NRight noN := ⟨fun i x h => by simp [noN] at h, ⟨by decide, rfl⟩, ⟨rfl, fun c hc => by simp [noN] at hc, by decide⟩, ⟨fun c hc => by simp [noN] at hc, by decide⟩, fun c hc => by simp [noN] at hc⟩
theorem bad_same : ¬ NSame baseN badN := fun h => by
  have := h.2.2.1
  simp [baseN, badN, bCells, xCells] at this
theorem base_sz : Sz baseN := by unfold Sz; decide
theorem bad_sz : Sz badN := by unfold Sz; decide
theorem no_sz : Sz noN := by unfold Sz; decide

/-! its cells -/
abbrev nodesC : Array Value := #[.int .i64 21, .int .i64 1, .int .i64 0, .int .i64 0, .int .i64 0, .int .i64 0, .int .i64 0, .int .i64 22, .int .i64 4, .int .i64 0, .int .i64 0, .int .i64 0, .int .i64 0, .int .i64 0, .int .i64 1, .int .i64 4, .int .i64 0, .int .i64 0, .int .i64 0, .int .i64 1, .int .i64 0, .int .i64 9, .int .i64 4, .int .i64 1, .int .i64 2, .int .i64 0, .int .i64 0, .int .i64 0, .int .i64 1, .int .i64 4, .int .i64 0, .int .i64 0, .int .i64 0, .int .i64 11, .int .i64 0, .int .i64 14, .int .i64 1, .int .i64 1, .int .i64 4, .int .i64 0, .int .i64 0, .int .i64 4, .int .i64 1, .int .i64 4, .int .i64 0, .int .i64 0, .int .i64 0, .int .i64 0, .int .i64 0, .int .i64 16, .int .i64 4, .int .i64 5, .int .i64 3, .int .i64 6, .int .i64 0, .int .i64 0, .int .i64 16, .int .i64 4, .int .i64 0, .int .i64 7, .int .i64 1, .int .i64 0, .int .i64 0, .int .i64 1, .int .i64 4, .int .i64 0, .int .i64 0, .int .i64 0, .int .i64 12, .int .i64 0, .int .i64 13, .int .i64 1, .int .i64 1, .int .i64 9, .int .i64 0, .int .i64 0, .int .i64 4, .int .i64 12, .int .i64 1, .int .i64 1, .int .i64 4, .int .i64 0, .int .i64 0, .int .i64 4]
abbrev insC : Array Value := #[.string sGo, .int .i64 0]
abbrev cellsC : Array Value := #[.string sN, .int .i64 1, .int .i64 8, .int .i64 0]
abbrev xcellsC : Array Value := #[.string sN, .int .i64 1, .int .i64 0, .int .i64 0]
abbrev propsC : Array Value := #[.int .i64 8, .string sLow, .int .i64 10, .int .i64 10, .string sTop, .int .i64 11]
abbrev namesC : Array Value := #[.string sN, .int .i64 1]
theorem cell_of {w : World} {g : Nat} {cs : Array Value} {t : TypeId} {fr : Nat × Nat} (h : w.heap[g]? = some (.cells cs t fr)) {j : Nat} {v : Value} (hv : cs[j]? = some v) : w.cell? ⟨g, j, none⟩ = some v := by
  simp [World.cell?, h, hv]
theorem b_nodes {w : World} {g : Nat} {t : TypeId} {fr : Nat × Nat} (h : w.heap[g]? = some (.cells nodesC t fr)) : Nds w w.heap.size (some ⟨g, 0, none⟩) bNodes := by
  intro i x hi
  match i, hi with
  | 0, hi =>
    obtain rfl := (Option.some.inj hi).symm
    exact ⟨g, 0, rfl, hlt h, cell_of h rfl, cell_of h rfl, cell_of h rfl, cell_of h rfl, cell_of h rfl, cell_of h rfl, cell_of h rfl⟩
  | 1, hi =>
    obtain rfl := (Option.some.inj hi).symm
    exact ⟨g, 0, rfl, hlt h, cell_of h rfl, cell_of h rfl, cell_of h rfl, cell_of h rfl, cell_of h rfl, cell_of h rfl, cell_of h rfl⟩
  | 2, hi =>
    obtain rfl := (Option.some.inj hi).symm
    exact ⟨g, 0, rfl, hlt h, cell_of h rfl, cell_of h rfl, cell_of h rfl, cell_of h rfl, cell_of h rfl, cell_of h rfl, cell_of h rfl⟩
  | 3, hi =>
    obtain rfl := (Option.some.inj hi).symm
    exact ⟨g, 0, rfl, hlt h, cell_of h rfl, cell_of h rfl, cell_of h rfl, cell_of h rfl, cell_of h rfl, cell_of h rfl, cell_of h rfl⟩
  | 4, hi =>
    obtain rfl := (Option.some.inj hi).symm
    exact ⟨g, 0, rfl, hlt h, cell_of h rfl, cell_of h rfl, cell_of h rfl, cell_of h rfl, cell_of h rfl, cell_of h rfl, cell_of h rfl⟩
  | 5, hi =>
    obtain rfl := (Option.some.inj hi).symm
    exact ⟨g, 0, rfl, hlt h, cell_of h rfl, cell_of h rfl, cell_of h rfl, cell_of h rfl, cell_of h rfl, cell_of h rfl, cell_of h rfl⟩
  | 6, hi =>
    obtain rfl := (Option.some.inj hi).symm
    exact ⟨g, 0, rfl, hlt h, cell_of h rfl, cell_of h rfl, cell_of h rfl, cell_of h rfl, cell_of h rfl, cell_of h rfl, cell_of h rfl⟩
  | 7, hi =>
    obtain rfl := (Option.some.inj hi).symm
    exact ⟨g, 0, rfl, hlt h, cell_of h rfl, cell_of h rfl, cell_of h rfl, cell_of h rfl, cell_of h rfl, cell_of h rfl, cell_of h rfl⟩
  | 8, hi =>
    obtain rfl := (Option.some.inj hi).symm
    exact ⟨g, 0, rfl, hlt h, cell_of h rfl, cell_of h rfl, cell_of h rfl, cell_of h rfl, cell_of h rfl, cell_of h rfl, cell_of h rfl⟩
  | 9, hi =>
    obtain rfl := (Option.some.inj hi).symm
    exact ⟨g, 0, rfl, hlt h, cell_of h rfl, cell_of h rfl, cell_of h rfl, cell_of h rfl, cell_of h rfl, cell_of h rfl, cell_of h rfl⟩
  | 10, hi =>
    obtain rfl := (Option.some.inj hi).symm
    exact ⟨g, 0, rfl, hlt h, cell_of h rfl, cell_of h rfl, cell_of h rfl, cell_of h rfl, cell_of h rfl, cell_of h rfl, cell_of h rfl⟩
  | 11, hi =>
    obtain rfl := (Option.some.inj hi).symm
    exact ⟨g, 0, rfl, hlt h, cell_of h rfl, cell_of h rfl, cell_of h rfl, cell_of h rfl, cell_of h rfl, cell_of h rfl, cell_of h rfl⟩
  | i + 12, hi => simp [bNodes] at hi
theorem b_ins {w : World} {g : Nat} {t : TypeId} {fr : Nat × Nat} (h : w.heap[g]? = some (.cells insC t fr)) : Pns w w.heap.size (some ⟨g, 0, none⟩) bIns := by
  intro i x hi
  match i, hi with
  | 0, hi =>
    obtain rfl := (Option.some.inj hi).symm
    exact ⟨g, 0, rfl, hlt h, cell_of h rfl, cell_of h rfl⟩
  | i + 1, hi => simp [bIns] at hi
theorem b_cells {w : World} {g : Nat} {t : TypeId} {fr : Nat × Nat} (h : w.heap[g]? = some (.cells cellsC t fr)) : Ces w w.heap.size (some ⟨g, 0, none⟩) bCells := by
  intro i x hi
  match i, hi with
  | 0, hi =>
    obtain rfl := (Option.some.inj hi).symm
    exact ⟨g, 0, rfl, hlt h, cell_of h rfl, cell_of h rfl, cell_of h rfl, cell_of h rfl⟩
  | i + 1, hi => simp [bCells] at hi
theorem x_cells {w : World} {g : Nat} {t : TypeId} {fr : Nat × Nat} (h : w.heap[g]? = some (.cells xcellsC t fr)) : Ces w w.heap.size (some ⟨g, 0, none⟩) xCells := by
  intro i x hi
  match i, hi with
  | 0, hi =>
    obtain rfl := (Option.some.inj hi).symm
    exact ⟨g, 0, rfl, hlt h, cell_of h rfl, cell_of h rfl, cell_of h rfl, cell_of h rfl⟩
  | i + 1, hi => simp [xCells] at hi
theorem b_props {w : World} {g : Nat} {t : TypeId} {fr : Nat × Nat} (h : w.heap[g]? = some (.cells propsC t fr)) : Prs w w.heap.size (some ⟨g, 0, none⟩) bProps := by
  intro i x hi
  match i, hi with
  | 0, hi =>
    obtain rfl := (Option.some.inj hi).symm
    exact ⟨g, 0, rfl, hlt h, cell_of h rfl, cell_of h rfl, cell_of h rfl⟩
  | 1, hi =>
    obtain rfl := (Option.some.inj hi).symm
    exact ⟨g, 0, rfl, hlt h, cell_of h rfl, cell_of h rfl, cell_of h rfl⟩
  | i + 2, hi => simp [bProps] at hi
theorem b_names {w : World} {g : Nat} {t : TypeId} {fr : Nat × Nat} (h : w.heap[g]? = some (.cells namesC t fr)) : Pns w w.heap.size (some ⟨g, 0, none⟩) bNames := by
  intro i x hi
  match i, hi with
  | 0, hi =>
    obtain rfl := (Option.some.inj hi).symm
    exact ⟨g, 0, rfl, hlt h, cell_of h rfl, cell_of h rfl⟩
  | i + 1, hi => simp [bNames] at hi

theorem results26 (tmps : Array Value) (g : Nat) (V : World) (x0 x1 x2 x3 x4 : Value) (t : TypeId) (fr : Nat × Nat) (ht : tmps.getD 0 undef = .pointer (some ⟨g, 0, none⟩))
    (hc : V.heap[g]? = some (.cells #[x0, x1, x2, x3, x4] t fr)) : (results Try.f28 tmps).run Try.prog V = .ok (.agg #[x0, x1, x2, x3, x4]) V := by
  have c0 : V.cell? ⟨g, 0, none⟩ = some x0 := by simp [World.cell?, hc]
  have c1 : V.cell? ⟨g, 1, none⟩ = some x1 := by simp [World.cell?, hc]
  have c2 : V.cell? ⟨g, 2, none⟩ = some x2 := by simp [World.cell?, hc]
  have c3 : V.cell? ⟨g, 3, none⟩ = some x3 := by simp [World.cell?, hc]
  have c4 : V.cell? ⟨g, 4, none⟩ = some x4 := by simp [World.cell?, hc]
  clear hc
  have ht' : tmps[0]?.getD undef = .pointer (some ⟨g, 0, none⟩) := by rw [← ht]; simp
  clear ht
  simp [results, Try.f28, go_sem, ht', c0, c1, c2, c3, c4]
theorem heap_new' (w : World) (o : Obj) : (w.alloc o).heap[w.heap.size]? = some o := by
  show (w.heap.push _)[w.heap.size]? = _
  simp
set_option maxRecDepth 100000 in
set_option maxHeartbeats 8000000 in
theorem Base_any (w : World) : Calls Try.prog 28 #[] w fun e w' => ∃ v, e = .returned v ∧ NtAt w' baseN v ∧ Gr w w' := by
  obtain ⟨W0, eW0⟩ : ∃ W0, w.alloc (.cells #[.slice (some ⟨w.heap.size + 1, 0, none⟩) 12 12, .slice (some ⟨w.heap.size + 1 + 1, 0, none⟩) 1 1, .slice (some ⟨w.heap.size + 1 + 1 + 1, 0, none⟩) 1 1, .slice (some ⟨w.heap.size + 1 + 1 + 1 + 1, 0, none⟩) 2 2, .slice (some ⟨w.heap.size + 1 + 1 + 1 + 1 + 1, 0, none⟩) 1 1] 27) = W0 := ⟨_, rfl⟩
  have hs0 : W0.heap.size = w.heap.size + 1 := by rw [← eW0]; simp
  have b0 : W0.heap[w.heap.size]? = some (.cells #[.slice (some ⟨w.heap.size + 1, 0, none⟩) 12 12, .slice (some ⟨w.heap.size + 1 + 1, 0, none⟩) 1 1, .slice (some ⟨w.heap.size + 1 + 1 + 1, 0, none⟩) 1 1, .slice (some ⟨w.heap.size + 1 + 1 + 1 + 1, 0, none⟩) 2 2, .slice (some ⟨w.heap.size + 1 + 1 + 1 + 1 + 1, 0, none⟩) 1 1] 27) := by rw [← eW0]; exact heap_new' _ _
  have G0 : Gr w W0 := by rw [← eW0]; exact bel_alloc _ _
  have B1 := heap_new' W0 (.cells nodesC 53)
  have B2 := heap_new' (W0.alloc (.cells nodesC 53)) (.cells insC 55)
  have B3 := heap_new' ((W0.alloc (.cells nodesC 53)).alloc (.cells insC 55)) (.cells cellsC 60)
  have B4 := heap_new' (((W0.alloc (.cells nodesC 53)).alloc (.cells insC 55)).alloc (.cells cellsC 60)) (.cells propsC 47)
  have B5 := heap_new' ((((W0.alloc (.cells nodesC 53)).alloc (.cells insC 55)).alloc (.cells cellsC 60)).alloc (.cells propsC 47)) (.cells namesC 55)
  simp only [World.size_alloc, hs0] at B1 B2 B3 B4 B5
  obtain ⟨W5, eW5, G5, B0, B1, B2, B3, B4, B5⟩ : ∃ W5, (((((W0.alloc (.cells nodesC 53)).alloc (.cells insC 55)).alloc (.cells cellsC 60)).alloc (.cells propsC 47)).alloc (.cells namesC 55)) = W5 ∧ Hid (Gr w W5) ∧
      Hid (W5.heap[w.heap.size]? = some (.cells #[.slice (some ⟨w.heap.size + 1, 0, none⟩) 12 12, .slice (some ⟨w.heap.size + 1 + 1, 0, none⟩) 1 1, .slice (some ⟨w.heap.size + 1 + 1 + 1, 0, none⟩) 1 1, .slice (some ⟨w.heap.size + 1 + 1 + 1 + 1, 0, none⟩) 2 2, .slice (some ⟨w.heap.size + 1 + 1 + 1 + 1 + 1, 0, none⟩) 1 1] 27)) ∧
      Hid (W5.heap[w.heap.size + 1]? = some (.cells nodesC 53)) ∧ Hid (W5.heap[w.heap.size + 1 + 1]? = some (.cells insC 55)) ∧ Hid (W5.heap[w.heap.size + 1 + 1 + 1]? = some (.cells cellsC 60)) ∧ Hid (W5.heap[w.heap.size + 1 + 1 + 1 + 1]? = some (.cells propsC 47)) ∧ Hid (W5.heap[w.heap.size + 1 + 1 + 1 + 1 + 1]? = some (.cells namesC 55)) :=
    ⟨_, rfl, Lib.hid (Gr.trans G0 (Gr.trans (bel_alloc _ _) (Gr.trans (bel_alloc _ _) (Gr.trans (bel_alloc _ _) (Gr.trans (bel_alloc _ _) (bel_alloc _ _)))))),
      Lib.hid (heap_gr (heap_gr (heap_gr (heap_gr (heap_gr b0 (bel_alloc _ _)) (bel_alloc _ _)) (bel_alloc _ _)) (bel_alloc _ _)) (bel_alloc _ _)),
      Lib.hid (heap_gr (heap_gr (heap_gr (heap_gr B1 (bel_alloc _ _)) (bel_alloc _ _)) (bel_alloc _ _)) (bel_alloc _ _)),
      Lib.hid (heap_gr (heap_gr (heap_gr B2 (bel_alloc _ _)) (bel_alloc _ _)) (bel_alloc _ _)), Lib.hid (heap_gr (heap_gr B3 (bel_alloc _ _)) (bel_alloc _ _)), Lib.hid (heap_gr B4 (bel_alloc _ _)), Lib.hid B5⟩
  rw [← eW0] at eW5
  clear eW0 hs0 b0 G0
  go_enter Try.func28, Try.ntmps28
  go_wp2_with fail
  refine bodyPost_ret (results26 _ w.heap.size _ (.slice (some ⟨w.heap.size + 1, 0, none⟩) 12 12) (.slice (some ⟨w.heap.size + 1 + 1, 0, none⟩) 1 1) (.slice (some ⟨w.heap.size + 1 + 1 + 1, 0, none⟩) 1 1) (.slice (some ⟨w.heap.size + 1 + 1 + 1 + 1, 0, none⟩) 2 2) (.slice (some ⟨w.heap.size + 1 + 1 + 1 + 1 + 1, 0, none⟩) 1 1) 27 (0, 0) rfl ?hb) rfl ?hr
  case hb =>
    have h := B0.out
    rw [← eW5] at h
    exact h
  case hr =>
    have h : NtAt W5 baseN (ntV (some ⟨w.heap.size + 1, 0, none⟩) (some ⟨w.heap.size + 1 + 1, 0, none⟩) (some ⟨w.heap.size + 1 + 1 + 1, 0, none⟩) (some ⟨w.heap.size + 1 + 1 + 1 + 1, 0, none⟩) (some ⟨w.heap.size + 1 + 1 + 1 + 1 + 1, 0, none⟩) 12 1 1 2 1 12 1 1 2 1) := ⟨_, _, _, _, _, _, _, _, _, _, rfl, by decide, b_nodes B1.out, b_ins B2.out, b_cells B3.out, b_props B4.out, b_names B5.out⟩
    have g := G5.out
    rw [← eW5] at h g
    exact ⟨_, rfl, h, g⟩
end Go.Proofs.Ytmnblcnhbafcpaa
