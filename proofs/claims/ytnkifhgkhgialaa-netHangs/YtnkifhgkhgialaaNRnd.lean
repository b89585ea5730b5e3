/-
  rightNodes, WALKED.
-/
import Derived.Test.YtnkifhgkhgialaaNNod
import Derived.Test.YtnkifhgkhgialaaNRul
import Derived.Laws.EntriesVeiled
namespace Go.Proofs.Ytnkifhgkhgialaa
open Go.RowKit
open NetM

theorem rule_cases {op : Int} {k f : Nat} {n lo : Bool} (h : ruleOf op = some (k, n, lo, f)) : k ≤ 3 ∧ (f = 56 ∨ f = 57 ∨ f = 58 ∨ f = 59 ∨ f = 60 ∨ f = 61 ∨ f = 62) ∧ (f = 59 → k = 3) ∧ (f = 60 → k = 2) ∧ (f = 61 → k = 1) := by
  unfold ruleOf at h
  repeat' split at h
  all_goals
    simp only [Option.some.injEq, Prod.mk.injEq, reduceCtorEq] at h
  all_goals
    obtain ⟨rfl, rfl, rfl, rfl⟩ := h
    refine ⟨by decide, by decide, by decide, by decide, by decide⟩
/-- widths of what stands ahead -/
def WOk (l : List Nd) : Prop := ∀ x ∈ l, 1 ≤ x.w ∧ x.w ≤ 16
theorem widA_ok {l : List Nd} (h : WOk l) (i : Int) : 0 ≤ widA l i ∧ widA l i ≤ 16 := by
  unfold widA
  split
  · exact ⟨by omega, by omega⟩
  · cases e : l[i.toNat]? with
    | none => exact ⟨by simp, by simp⟩
    | some x =>
      have := h x (List.mem_of_getElem? e)
      simp only
      omega
theorem wok_of {l : List Nd} (h : NdsOk l) : WOk l := fun x hx => by
  obtain ⟨i, hi⟩ := List.mem_iff_getElem?.1 hx
  obtain ⟨k, n, lo, f, _, h1, h2, _⟩ := h i x hi
  exact ⟨h1, h2⟩
set_option maxRecDepth 100000 in
set_option maxHeartbeats 4000000 in
theorem node_any (x : Nd) (A : Option Addr) (l : List Nd) (c k : Nat) (bn bl : Bool) (f : Nat) (w : World) (hru : ruleOf x.op = some (k, bn, bl, f)) (hl : l.length ≤ 4000) (h : Hid (Nds w w.heap.size A l)) (hw : WOk l) (b : Bool) (hb : b = true ↔ NdOk l x) :
    Calls Try.prog 44 #[rnV x A l.length c k bn bl f] w fun e w' => e = .returned (.bool b) ∧ Gr w w' := by
  classical
  obtain ⟨hk, hf, k59, k60, k61⟩ := rule_cases hru
  have hbf : decide (NFits l x k f) = true ↔ NFits l x k f := decide_eq_true_iff
  have ok : NdOk l x ↔ 1 ≤ x.w ∧ x.w ≤ 16 ∧ NReach l x k ∧ NBare x bn bl ∧ NFits l x k f := by
    constructor
    · rintro ⟨k', n', lo', f', hr', h1, h2, h3, h4, h5⟩
      rw [hru] at hr'
      simp only [Option.some.injEq, Prod.mk.injEq] at hr'
      obtain ⟨rfl, rfl, rfl, rfl⟩ := hr'
      exact ⟨h1, h2, h3, h4, h5⟩
    · rintro ⟨h1, h2, h3, h4, h5⟩
      exact ⟨k, bn, bl, f, hru, h1, h2, h3, h4, h5⟩
  refine right_walk x A l c k bn bl f w hk hl h (decide (NReach l x k)) (decide (NBare x bn bl)) (decide (NFits l x k f)) b decide_eq_true_iff decide_eq_true_iff (Lib.hid fun h1 h2 h3 u hu => ?_) hf ?_
  · generalize decide (NFits l x k f) = bf at hbf
    unfold NFits at hbf
    rcases hf with rfl | rfl | rfl | rfl | rfl | rfl | rfl
    · exact holds_any x A l.length c k bn bl 56 u h1 h2 bf (Lib.hid (by simpa using hbf))
    · exact asWide_any x A l c k bn bl 57 u hk hl (Lib.hid hu) bf (Lib.hid (by simpa using hbf))
    · exact tells_any x A l c k bn bl 58 u hk hl (Lib.hid hu) bf (Lib.hid (by simpa using hbf))
    · obtain rfl := k59 rfl
      exact chooses_any x A l c bn bl 59 u hl (Lib.hid hu) bf (Lib.hid (by simpa using hbf))
    · obtain rfl := k60 rfl
      exact joins_any x A l c bn bl 60 u hl (Lib.hid hu) bf (Lib.hid (by simpa using hbf)) (widA_ok hw _).1 (widA_ok hw _).1 (widA_ok hw _).2 (widA_ok hw _).2
    · obtain rfl := k61 rfl
      exact cuts_any x A l c bn bl 61 u hl (Lib.hid hu) bf (Lib.hid (by simpa using hbf)) (widA_ok hw _)
    · obtain rfl : bf = true := hbf.2 (by simp)
      exact stands_any x A l.length c k bn bl 62 u
  · rw [Bool.eq_iff_iff, hb, ok]
    simp only [Bool.and_eq_true, decide_eq_true_eq, and_assoc]
/-! the loop -/
theorem take_at {α : Type} {l : List α} {j i : Nat} (hi : i < j) : (l.take j)[i]? = l[i]? := List.getElem?_take_of_lt hi
theorem ndsOk_take {l : List Nd} {j : Nat} (h : ∀ i x, i < j → l[i]? = some x → NdOk (l.take i) x) : NdsOk (l.take j) := by
  intro i x hx
  have hi : i < j := by
    rw [List.getElem?_take] at hx
    split at hx
    · assumption
    · simp at hx
  rw [take_at hi] at hx
  rw [List.take_take, Nat.min_eq_left (Nat.le_of_lt hi)]
  exact h i x hi hx
abbrev xC (x : Nd) : Array Value := #[.int .i64 x.op, .int .i64 x.w, .int .i64 x.a, .int .i64 x.b, .int .i64 x.c, .int .i64 x.n, .int .i64 x.lo]
abbrev XAt (u : World) (g : Nat) (x : Nd) : Prop := u.cell? ⟨g, 0, none⟩ = some (.int .i64 x.op) ∧ u.cell? ⟨g, 1, none⟩ = some (.int .i64 x.w) ∧ u.cell? ⟨g, 2, none⟩ = some (.int .i64 x.a) ∧ u.cell? ⟨g, 3, none⟩ = some (.int .i64 x.b) ∧ u.cell? ⟨g, 4, none⟩ = some (.int .i64 x.c) ∧ u.cell? ⟨g, 5, none⟩ = some (.int .i64 x.n) ∧ u.cell? ⟨g, 6, none⟩ = some (.int .i64 x.lo)
theorem x_new (w : World) (x : Nd) : XAt (w.alloc (.cells (xC x) 41)) w.heap.size x := by
  refine ⟨?_, ?_, ?_, ?_, ?_, ?_, ?_⟩
  all_goals exact new_cells _ _ _ _ _ rfl
theorem x_gr {w u : World} {g : Nat} {x : Nd} (h : XAt w g x) (hg : g < w.heap.size) (hb : Gr w u) : XAt u g x := by
  obtain ⟨h0, h1, h2, h3, h4, h5, h6⟩ := h
  refine ⟨?_, ?_, ?_, ?_, ?_, ?_, ?_⟩
  all_goals
    rw [hb.cell (by simpa using hg)]
    assumption
abbrev RAt (u : World) (g : Nat) (k : Nat) (bn bl : Bool) (f : Nat) : Prop := u.cell? ⟨g, 0, none⟩ = some (.int .i64 (k : Nat)) ∧ u.cell? ⟨g, 1, none⟩ = some (.bool bn) ∧ u.cell? ⟨g, 2, none⟩ = some (.bool bl) ∧ u.cell? ⟨g, 3, none⟩ = some (.func (.func f) #[] #[])
theorem r_new (w : World) (k : Nat) (bn bl : Bool) (f : Nat) : RAt (w.alloc (.cells #[.int .i64 (k : Nat), .bool bn, .bool bl, .func (.func f) #[] #[]] 71)) w.heap.size k bn bl f := by
  refine ⟨?_, ?_, ?_, ?_⟩
  all_goals exact new_cells _ _ _ _ _ rfl
theorem r_gr {w u : World} {g : Nat} {k : Nat} {bn bl : Bool} {f : Nat} (h : RAt w g k bn bl f) (hg : g < w.heap.size) (hb : Gr w u) : RAt u g k bn bl f := by
  obtain ⟨h0, h1, h2, h3⟩ := h
  refine ⟨?_, ?_, ?_, ?_⟩
  all_goals
    rw [hb.cell (by simpa using hg)]
    assumption
theorem heap_gr {w u : World} {g : Nat} {o : Obj} (h : w.heap[g]? = some o) (hb : Gr w u) : u.heap[g]? = some o := (hb.block _ (hlt h)).trans h

set_option maxRecDepth 100000 in
set_option maxHeartbeats 4000000 in
theorem rightNodes_any (A : Option Addr) (c : Nat) (l : List Nd) (w : World) (hl : l.length ≤ 4000) (hc : l.length ≤ c) (h : Hid (Nds w w.heap.size A l)) (b : Bool) (hb : Hid (b = true ↔ NdsOk l)) :
    Calls Try.prog 27 #[.slice A l.length c] w fun e w' => e = .returned (.bool b) ∧ Gr w w' := by
  have hgt : ¬ (4000 : Int) < (l.length : Int) := by omega
  have RU := Lib.hid (rules_any w)
  go_enter Try.func27, Try.ntmps27
  go_wp2_with fail
  refine RU.out.mono ?_
  rintro e w1 ⟨rfl, hm, hg⟩
  have HG := Lib.hid hg
  have HM := Lib.hid hm
  clear hg hm
  go_wp2_with fail
  go_loopg [14] l.length (fun g i wr => ∃ j : Nat, j + g = l.length ∧ i = .int .i64 j ∧ Hid (∀ i x, i < j → l[i]? = some x → NdOk (l.take i) x) ∧ Hid (Gr w1 wr))
  case atStart => exact ⟨0, by omega, rfl, Lib.hid (fun i x hi => by omega), Lib.hid (Gr.refl _)⟩
  case round =>
    obtain ⟨j, hjg, rfl, HA, HW⟩ := hrel
    have HJ := Lib.hid hjg
    have hjl : j ≤ l.length := by omega
    clear hjg
    by_cases hlt : j < l.length
    · have hs : l[j]? = some l[j] := List.getElem?_eq_getElem hlt
      generalize l[j] = x at hs
      have HS := Lib.hid hs
      have HN := Lib.hid (h.out.gr (Gr.trans HG.out HW.out))
      obtain ⟨bb, off, rfl, hbl, d0, d1, d2, d3, d4, d5, d6⟩ := HN.out j x hs
      clear hs hbl
      have hi1 : (j : Int) < (l.length : Int) := by omega
      have hi0 : (0 : Int) ≤ (j : Int) := by omega
      have hjc : (j : Int) ≤ (c : Int) := by omega
      have hstep : NdOk (l.take j) x → ∀ i y, i < j + 1 → l[i]? = some y → NdOk (l.take i) y := fun hr i y hi hy => by
        by_cases h2 : i < j
        · exact HA.out i y h2 hy
        · have e2 : i = j := by omega
          subst e2
          rw [HS.out] at hy
          rw [← Option.some.inj hy]
          exact hr
      have HST := Lib.hid hstep
      have hbad : ¬ NdOk (l.take j) x → b = false := fun hn => no_of hb.out fun hr => hn (hr j x HS.out)
      have HBD := Lib.hid hbad
      have HM1 := Lib.hid (heap_gr HM.out HW.out)
      have hLK : ∃ r, Instr.findNow (.int .i64) (.int .i64 x.op) esR.toList 0 = some r ∧ r.map (·.2) = ruO (ruleOf x.op) := find_rule x.op
      obtain ⟨r, hf1, hf2⟩ := hLK
      clear hstep hbad
      cases hru : ruleOf x.op with
      | none =>
        rw [hru] at hf2
        have hrn : r = none := by
          cases r with
          | none => rfl
          | some y => simp [ruO] at hf2
        subst hrn
        have HF1 := Lib.hid (look_any Try.underlying67 zero71 (wr.alloc (.cells (xC x) 41)) w.heap.size esR 19 (heap_gr HM1.out (bel_alloc _ _)) x.op none hf1)
        have HB := Lib.hid (HBD.out (by rintro ⟨k, n, lo, f, h1, _⟩; rw [hru] at h1; simp at h1))
        clear hru hf2 hf1
        go_wp2_with (first | (rw [HF1.out]) | fail)
        go_quiet (fail)
        go_wp2_with fail
        go_ret
        exact ⟨by rw [HB.out]; rfl, Below.drewN (Gr.trans (Gr.trans HG.out HW.out) (Gr.trans (bel_alloc _ _) (bel_alloc _ _))) _⟩
      | some ru =>
        obtain ⟨k, n, lo, f⟩ := ru
        rw [hru] at hf2
        obtain ⟨q, rfl⟩ : ∃ q, r = some (q, ruV k n lo f) := by
          cases r with
          | none => simp [ruO] at hf2
          | some y =>
            obtain ⟨q, y⟩ := y
            simp [ruO] at hf2
            exact ⟨q, by rw [hf2]⟩
        have HF1 := Lib.hid (look_any Try.underlying67 zero71 (wr.alloc (.cells (xC x) 41)) w.heap.size esR 19 (heap_gr HM1.out (bel_alloc _ _)) x.op _ hf1)
        have hwok : WOk (l.take j) := wok_of (ndsOk_take HA.out)
        have htl : (l.take j).length = j := by rw [List.length_take]; omega
        obtain ⟨nb, hnb⟩ : ∃ nb : Bool, nb = true ↔ NdOk (l.take j) x := by
          classical
          exact ⟨decide (NdOk (l.take j) x), decide_eq_true_iff⟩
        have HC := Lib.hid (fun (u : World) (hu : Gr wr u) => node_any x (some ⟨bb, off, none⟩) (l.take j) c k n lo f u hru (by omega) (Lib.hid ((HN.out.gr hu).take j)) hwok nb hnb)
        rw [htl] at HC
        obtain ⟨W0, eW, BW, KEEP⟩ : ∃ W0, (wr.alloc (.cells (xC x) 41)).alloc (.cells #[.int .i64 (k : Nat), .bool n, .bool lo, .func (.func f) #[] #[]] 71) = W0 ∧ Hid (Gr wr W0) ∧ Hid (∀ u, Gr W0 u → XAt u wr.heap.size x ∧ RAt u (wr.heap.size + 1) k n lo f) := by
          have hr := r_new (wr.alloc (.cells (xC x) 41)) k n lo f
          rw [World.size_alloc] at hr
          refine ⟨_, rfl, Lib.hid (Gr.trans (bel_alloc _ _) (bel_alloc _ _)), Lib.hid fun u hu => ⟨x_gr (x_gr (x_new wr x) (by simp) (bel_alloc _ _)) (by simp; omega) hu, r_gr hr (by simp) hu⟩⟩
        have K0 := KEEP.out W0 (Gr.refl _)
        clear hru hf2 hf1 hwok htl
        cases nb with
        | true =>
          have HR := Lib.hid (HST.out (hnb.1 rfl))
          clear hnb
          go_wp2_with (first | (rw [HF1.out]) | fail)
          try rw [eW]
          clear eW
          go_region_held3 (fun u => XAt u wr.heap.size x ∧ RAt u (wr.heap.size + 1) k n lo f)
            (first | exact KEEP.out _ (Gr.drew _) | exact KEEP.out _ (by assumption))
            (first
              | (go_at_call 44; (with_reducible refine (HC.out _ (Gr.trans BW.out (Gr.drew _))).mono ?_); rintro e u1 ⟨rfl, hu1'⟩; have hu1 : Gr W0 u1 := Gr.trans (Gr.drew _) hu1'))
          go_wp2_with fail
          go_roundg (gk - 1)
          case measure => have := HJ.out; omega
          case rel => exact ⟨j + 1, by have := HJ.out; omega, by go_num, Lib.hid HR.out, Lib.hid (Gr.trans HW.out (Gr.trans BW.out (by assumption)))⟩
        | false =>
          have HB := Lib.hid (HBD.out (fun hn => by have := hnb.2 hn; simp at this))
          clear hnb
          go_wp2_with (first | (rw [HF1.out]) | fail)
          try rw [eW]
          clear eW
          go_region_held3 (fun u => XAt u wr.heap.size x ∧ RAt u (wr.heap.size + 1) k n lo f)
            (first | exact KEEP.out _ (Gr.drew _) | exact KEEP.out _ (by assumption))
            (first
              | (go_at_call 44; (with_reducible refine (HC.out _ (Gr.trans BW.out (Gr.drew _))).mono ?_); rintro e u1 ⟨rfl, hu1'⟩; have hu1 : Gr W0 u1 := Gr.trans (Gr.drew _) hu1'))
          go_wp2_with fail
          go_ret
          exact ⟨by rw [HB.out]; rfl, Gr.trans HG.out (Gr.trans HW.out (Gr.trans BW.out (by assumption)))⟩
    · have HB := Lib.hid (hb.out.2 fun i x hx => HA.out i x (by have := (List.getElem?_eq_some_iff.1 hx).1; have := HJ.out; omega) hx)
      go_wp2_with fail
      go_ret
      exact ⟨by rw [HB.out]; rfl, Gr.trans HG.out HW.out⟩
end Go.Proofs.Ytnkifhgkhgialaa
