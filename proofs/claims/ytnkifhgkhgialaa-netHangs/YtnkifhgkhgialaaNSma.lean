/-
  width, at, widths, all, AND WHAT A NODE'S CHECKS ASK, WALKED.
-/
import Derived.Test.YtnkifhgkhgialaaNMem
namespace Go.Proofs.Ytnkifhgkhgialaa
open Go.RowKit
open NetM

theorem width_any (A : Option Addr) (c B : Nat) (l : List Nd) (i : Int) (w : World) (_hl : l.length ≤ 4000) (h : Hid (Nds w B A l)) :
    Calls Try.prog 41 #[.slice A l.length c, .int .i64 i] w fun e w' => e = .returned (.int .i64 (widA l i)) ∧ w = w' := by
  by_cases h0 : i < 0
  · rw [widA_neg h0]
    go_enter Try.func41, Try.ntmps41
    go_wp2
    go_ret
    exact ⟨rfl, rfl⟩
  by_cases h1 : (l.length : Int) ≤ i
  · rw [widA_ge h1]
    go_enter Try.func41, Try.ntmps41
    go_wp2
    go_ret
    exact ⟨rfl, rfl⟩
  obtain ⟨k, rfl⟩ : ∃ k : Nat, i = k := ⟨i.toNat, by omega⟩
  have hk : k < l.length := by omega
  have hs : l[k]? = some l[k] := List.getElem?_eq_getElem hk
  generalize l[k] = x at hs
  rw [widA_some hs]
  obtain ⟨b, off, rfl, hb, d0, d1, d2, d3, d4, d5, d6⟩ := h.out k x hs
  have h2 : (k : Int) < (l.length : Int) := by omega
  have h3 : (0 : Int) ≤ (k : Int) := by omega
  clear hs h1 h0
  go_enter Try.func41, Try.ntmps41
  go_wp2
  go_ret
  exact ⟨rfl, rfl⟩

theorem at_any (A : Option Addr) (c B : Nat) (l : List Int) (i : Int) (w : World) (_hl : l.length ≤ 4000) (h : Hid (Ints w B A l)) :
    Calls Try.prog 39 #[.slice A l.length c, .int .i64 i] w fun e w' => e = .returned (.int .i64 (getA l i)) ∧ w = w' := by
  by_cases h0 : i < 0
  · rw [getA_neg h0]
    go_enter Try.func39, Try.ntmps39
    go_wp2
    go_ret
    exact ⟨rfl, rfl⟩
  by_cases h1 : (l.length : Int) ≤ i
  · rw [getA_ge h1]
    go_enter Try.func39, Try.ntmps39
    go_wp2
    go_ret
    exact ⟨rfl, rfl⟩
  obtain ⟨k, rfl⟩ : ∃ k : Nat, i = k := ⟨i.toNat, by omega⟩
  have hk : k < l.length := by omega
  have hs : l[k]? = some l[k] := List.getElem?_eq_getElem hk
  generalize l[k] = x at hs
  rw [getA_some hs]
  obtain ⟨b, off, rfl, hb, d0⟩ := h.out k x hs
  have h2 : (k : Int) < (l.length : Int) := by omega
  have h3 : (0 : Int) ≤ (k : Int) := by omega
  clear hs h1 h0
  go_enter Try.func39, Try.ntmps39
  go_wp2
  go_ret
  exact ⟨rfl, rfl⟩

/-- a node, what stands ahead of it, and its op's rule -/
abbrev rnV (x : Nd) (A : Option Addr) (n c k : Nat) (bn bl : Bool) (f : Nat) : Value :=
  .agg #[.int .i64 x.op, .int .i64 x.w, .int .i64 x.a, .int .i64 x.b, .int .i64 x.c, .int .i64 x.n, .int .i64 x.lo, .slice A n c, .int .i64 (k : Nat), .bool bn, .bool bl, .func (.func f) #[] #[]]
abbrev rnC (x : Nd) (A : Option Addr) (n c k : Nat) (bn bl : Bool) (f : Nat) : Array Value :=
  #[.int .i64 x.op, .int .i64 x.w, .int .i64 x.a, .int .i64 x.b, .int .i64 x.c, .int .i64 x.n, .int .i64 x.lo, .slice A n c, .int .i64 (k : Nat), .bool bn, .bool bl, .func (.func f) #[] #[]]

theorem bare_any (x : Nd) (A : Option Addr) (n c k : Nat) (bn bl : Bool) (f : Nat) (w : World) (b : Bool) (hb : b = true ↔ NBare x bn bl) :
    Calls Try.prog 64 #[rnV x A n c k bn bl f] w fun e w' => e = .returned (.bool b) ∧ Gr w w' := by
  unfold NBare at hb
  have H : ∀ b', b' = b → Ending.returned (.bool b') = .returned (.bool b) := fun b' h => by rw [h]
  by_cases h1 : x.n = 0 <;> by_cases h2 : x.lo = 0 <;> cases bn <;> cases bl <;> simp [h1, h2] at hb <;> subst hb
  all_goals
    go_enter Try.func64, Try.ntmps64
    go_wp2
    go_ret
    exact ⟨by first | rfl | (show Ending.returned (.bool (x.lo == 0)) = _; simp [h2]) | (show Ending.returned (.bool (x.n == 0)) = _; simp [h1]), bel_alloc _ _⟩

theorem new_cells (w : World) (cs : Array Value) (t : TypeId) (j : Nat) (v : Value) (h : cs[j]? = some v) : (w.alloc (.cells cs t)).cell? ⟨w.heap.size, j, none⟩ = some v := by
  have e : (w.alloc (.cells cs t)).heap[w.heap.size]? = some (.cells cs t) := by
    show (w.heap.push _)[w.heap.size]? = _
    simp
  simp only [World.cell?, e]
  simpa using h
/-- what a check reads of its node -/
abbrev RnAt (u : World) (g : Nat) (x : Nd) (A : Option Addr) (n c k : Nat) (bn bl : Bool) (f : Nat) : Prop :=
  u.cell? ⟨g, 0, none⟩ = some (.int .i64 x.op) ∧ u.cell? ⟨g, 1, none⟩ = some (.int .i64 x.w) ∧ u.cell? ⟨g, 2, none⟩ = some (.int .i64 x.a) ∧ u.cell? ⟨g, 3, none⟩ = some (.int .i64 x.b) ∧ u.cell? ⟨g, 4, none⟩ = some (.int .i64 x.c) ∧
  u.cell? ⟨g, 5, none⟩ = some (.int .i64 x.n) ∧ u.cell? ⟨g, 6, none⟩ = some (.int .i64 x.lo) ∧ u.cell? ⟨g, 7, none⟩ = some (.slice A n c) ∧ u.cell? ⟨g, 8, none⟩ = some (.int .i64 (k : Nat)) ∧ u.cell? ⟨g, 9, none⟩ = some (.bool bn) ∧ u.cell? ⟨g, 10, none⟩ = some (.bool bl) ∧ u.cell? ⟨g, 11, none⟩ = some (.func (.func f) #[] #[])
theorem rn_new (w : World) (x : Nd) (A : Option Addr) (n c k : Nat) (bn bl : Bool) (f : Nat) : RnAt (w.alloc (.cells (rnC x A n c k bn bl f) 74)) w.heap.size x A n c k bn bl f := by
  refine ⟨?_, ?_, ?_, ?_, ?_, ?_, ?_, ?_, ?_, ?_, ?_, ?_⟩
  all_goals exact new_cells _ _ _ _ _ rfl
theorem rn_gr {w u : World} {g : Nat} {x : Nd} {A : Option Addr} {n c k : Nat} {bn bl : Bool} {f : Nat} (h : RnAt w g x A n c k bn bl f) (hg : g < w.heap.size) (hb : Gr w u) : RnAt u g x A n c k bn bl f := by
  obtain ⟨h0, h1, h2, h3, h4, h5, h6, h7, h8, h9, h10, h11⟩ := h
  refine ⟨?_, ?_, ?_, ?_, ?_, ?_, ?_, ?_, ?_, ?_, ?_, ?_⟩
  all_goals
    rw [hb.cell (by simpa using hg)]
    assumption
/-- the operands' widths -/
def opds (l : List Nd) (x : Nd) : List Int := [opd l x 0, opd l x 1, opd l x 2]
set_option maxHeartbeats 1000000 in
theorem widths_any (x : Nd) (A : Option Addr) (l : List Nd) (c k : Nat) (bn bl : Bool) (f : Nat) (w : World) (hk : k ≤ 3) (hl : l.length ≤ 4000) (h : Hid (Nds w w.heap.size A l)) :
    Calls Try.prog 84 #[rnV x A l.length c k bn bl f] w fun e w' => ∃ P q, e = .returned (.slice P k q) ∧ Ints w' w'.heap.size P ((opds l x).take k) ∧ Gr w w' := by
  have C0 := Lib.hid (rn_new w x A l.length c k bn bl f)
  have B0 := Lib.hid (bel_alloc w (.cells (rnC x A l.length c k bn bl f) 74))
  obtain ⟨W0, eW, BW, KEEP, WI⟩ : ∃ W0, w.alloc (.cells (rnC x A l.length c k bn bl f) 74) = W0 ∧ Hid (Gr w W0) ∧ Hid (∀ u, Gr W0 u → RnAt u w.heap.size x A l.length c k bn bl f) ∧
      Hid (∀ (i : Int) (u : World), Gr W0 u → Calls Try.prog 41 #[.slice A l.length c, .int .i64 i] u fun e w' => e = .returned (.int .i64 (widA l i)) ∧ u = w') := by
    refine ⟨_, rfl, B0, Lib.hid fun u hu => rn_gr C0.out (by simp) hu, Lib.hid fun i u hu => width_any A c _ l i u hl (Lib.hid ((h.out.gr B0.out).gr hu))⟩
  clear C0 B0 h
  go_enter Try.func84, Try.ntmps84
  go_wp2_with fail
  try rw [eW]
  go_region_held3 (fun u => RnAt u w.heap.size x A l.length c k bn bl f)
    (first | exact KEEP.out _ (Gr.drew _) | exact KEEP.out _ (Gr.trans (Gr.drew _) (bel_alloc _ _)))
    (first
      | (go_at_call 41; (with_reducible refine (WI.out _ _ (Gr.drew _)).mono ?_); rintro e u1 ⟨rfl, rfl⟩))
  obtain ⟨W1, e1, G1, I1, K1⟩ : ∃ W1, (W0.alloc (.cells #[.int .i64 (widA l x.a), .int .i64 (widA l x.b), .int .i64 (widA l x.c)] 3)).drew = W1 ∧ Hid (Gr w W1) ∧ Hid (Ints W1 W1.heap.size (some ⟨W0.heap.size, 0, none⟩) (opds l x)) ∧ RnAt W1 w.heap.size x A l.length c k bn bl f := by
    refine ⟨_, rfl, Lib.hid (Gr.trans BW.out (Gr.trans (bel_alloc _ _) (Gr.drew _))), Lib.hid fun i s hi => ⟨W0.heap.size, 0, rfl, by simp, ?_⟩, KEEP.out _ (Gr.trans (bel_alloc _ _) (Gr.drew _))⟩
    have := new_cells W0 #[.int .i64 (widA l x.a), .int .i64 (widA l x.b), .int .i64 (widA l x.c)] 3 i (.int .i64 s) (by
      match i, hi with
      | 0, hi => simp [opds, opd, plc] at hi; subst hi; rfl
      | 1, hi => simp [opds, opd, plc] at hi; subst hi; rfl
      | 2, hi => simp [opds, opd, plc] at hi; subst hi; rfl
      | i + 3, hi => simp [opds] at hi)
    rw [Nat.zero_add]
    exact this
  rw [e1]
  clear e1 eW KEEP WI BW
  obtain ⟨d0, d1, d2, d3, d4, d5, d6, d7, d8, d9, d10, d11⟩ := K1
  have hk3 : (k : Int) ≤ 3 := by omega
  go_wp2_with fail
  go_ret
  exact ⟨_, _, rfl, I1.out.take k, G1.out⟩

/-- a row of numbers: all alike -/
def AllI (l : List Int) (z : Int) : Prop := ∀ (j : Nat) (y : Int), l[j]? = some y → y = z
theorem allW_iff {l : List Nd} {x : Nd} {k : Nat} {z : Int} (hk : k ≤ 3) : AllI ((opds l x).take k) z ↔ AllW l x k z := by
  have e : ∀ j, j < 3 → (opds l x)[j]? = some (opd l x j) := fun j hj => by
    match j, hj with
    | 0, _ => rfl
    | 1, _ => rfl
    | 2, _ => rfl
  constructor
  · intro h j hj
    exact h j _ (by rw [List.getElem?_take_of_lt hj]; exact e j (by omega))
  · intro h j y hy
    have hj : j < k := by
      rw [List.getElem?_take] at hy
      split at hy
      · assumption
      · simp at hy
    rw [List.getElem?_take_of_lt hj, e j (by omega)] at hy
    rw [← Option.some.inj hy]
    exact h j hj
set_option maxHeartbeats 1000000 in
theorem all_any (x : Nd) (A : Option Addr) (l : List Nd) (c k : Nat) (bn bl : Bool) (f : Nat) (z : Int) (w : World) (hk : k ≤ 3) (hl : l.length ≤ 4000) (h : Hid (Nds w w.heap.size A l)) (b : Bool) (hb : Hid (b = true ↔ AllW l x k z)) :
    Calls Try.prog 83 #[rnV x A l.length c k bn bl f, .int .i64 z] w fun e w' => e = .returned (.bool b) ∧ Gr w w' := by
  have C0 := Lib.hid (rn_new w x A l.length c k bn bl f)
  have B0 := Lib.hid (bel_alloc w (.cells (rnC x A l.length c k bn bl f) 74))
  have WI := Lib.hid (fun (u : World) (hu : Gr w u) => widths_any x A l c k bn bl f u hk hl (Lib.hid (h.out.gr hu)))
  obtain ⟨d0, d1, d2, d3, d4, d5, d6, d7, d8, d9, d10, d11⟩ := C0.out
  have HB := Lib.hid ((allW_iff (l := l) (x := x) (z := z) hk).trans hb.out.symm)
  have hln : ((opds l x).take k).length = k := by rw [List.length_take]; show min k 3 = k; omega
  have HL := Lib.hid hln
  generalize (opds l x).take k = ys at hln HB HL WI
  subst hln
  clear hb HL
  go_enter Try.func83, Try.ntmps83
  go_wp2_with fail
  refine (WI.out _ B0.out).mono ?_
  rintro e w1 ⟨P, q, rfl, hI, hg⟩
  have HI := Lib.hid hI
  have HG := Lib.hid (Gr.trans B0.out hg)
  clear hI hg d0 d1 d2 d3 d4 d5 d6 d7 d8 d9 d10 d11
  go_wp2
  go_loopg [10] ys.length (fun g i wr => ∃ j : Nat, j + g = ys.length ∧ i = .int .i64 j ∧ Hid (∀ (i : Nat) (y : Int), i < j → ys[i]? = some y → y = z) ∧ w1 = wr)
  case atStart => exact ⟨0, by omega, rfl, Lib.hid (fun i y hi => by omega), rfl⟩
  case round =>
    obtain ⟨j, hjg, rfl, HA, rfl⟩ := hrel
    have HJ := Lib.hid hjg
    have hjl : j ≤ ys.length := by omega
    clear hjg
    by_cases hlt : j < ys.length
    · have hs : ys[j]? = some ys[j] := List.getElem?_eq_getElem hlt
      generalize ys[j] = y at hs
      obtain ⟨g, off, rfl, hgl, c0⟩ := HI.out j y hs
      have HS := Lib.hid hs
      clear hs
      have hi1 : (j : Int) < (ys.length : Int) := by omega
      have hi0 : (0 : Int) ≤ (j : Int) := by omega
      by_cases hyz : y = z
      · have HY := Lib.hid hyz
        have hne : (y != z) = false := by simp [hyz]
        clear hyz
        go_wp2_with fail
        go_roundg (gk - 1)
        case measure => have := HJ.out; omega
        case rel =>
          refine ⟨j + 1, by have := HJ.out; omega, by go_num, Lib.hid (fun i y' hi hy' => ?_), rfl⟩
          by_cases h2 : i < j
          · exact HA.out i y' h2 hy'
          · have e2 : i = j := by omega
            rw [e2, HS.out] at hy'
            rw [← Option.some.inj hy']
            exact HY.out
      · have HY := Lib.hid hyz
        have hne : (y != z) = true := by simp [hyz]
        clear hyz
        go_wp2_with fail
        go_ret
        refine ⟨?_, HG.out⟩
        cases b
        · rfl
        · exact absurd (HB.out.2 rfl j y HS.out) HY.out
    · go_wp2_with fail
      go_ret
      refine ⟨?_, HG.out⟩
      have : b = true := HB.out.1 (fun i y hy => HA.out i y (by have := (List.getElem?_eq_some_iff.1 hy).1; omega) hy)
      rw [this]
      rfl
end Go.Proofs.Ytnkifhgkhgialaa
