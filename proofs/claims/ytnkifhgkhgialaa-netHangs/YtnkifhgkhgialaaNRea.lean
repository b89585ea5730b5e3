/-
  reaches, WALKED.
-/
import Derived.Test.YtnkifhgkhgialaaNHam
import Derived.Test.YtnkifhgkhgialaaNHed
import Derived.Test.YtnkifhgkhgialaaNLtw
import Derived.Deep.CutRange
import Derived.Deep.CutBlock
import Derived.OwnWalk
import Derived.Laws.OwnMore
namespace Go.Proofs.Ytnkifhgkhgialaa
open Go.RowKit
open NetM
open VecM

theorem info4 : (Try.prog.info? 4).map (fun i => (i.zero, i.size, i.bytes)) = some (some (.bool false), 1, 1) := by kernel_rfl
/-- a row of truths -/
def BRow (w : World) (g : Nat) (l : List Bool) : Prop := ∀ (i : Nat) (b : Bool), l[i]? = some b → w.cell? ⟨g, i, none⟩ = some (.bool b)
def bcells (l : List Bool) : List Value := l.map fun b => .bool b
/-- what is told so far, and room for the rest -/
def rcR (nodes : List Nd) (pin : Int) (k : Nat) : List Bool := rcL nodes pin k ++ List.replicate (nodes.length - k) false
theorem rcR_set {nodes : List Nd} {pin : Int} {k : Nat} {x : Nd} (h : nodes[k]? = some x) : (bcells (rcR nodes pin k)).set k (.bool (rc1 pin k (rcL nodes pin k) x)) = bcells (rcR nodes pin (k + 1)) := by
  have hk := (List.getElem?_eq_some_iff.1 h).1
  have hl := rcL_len nodes pin k (by omega)
  have e : nodes.length - k = (nodes.length - (k + 1)) + 1 := by omega
  unfold rcR bcells
  rw [rcL_step h, e, List.replicate_succ, List.map_append, List.set_append_right _ _ (by simp [hl]), List.length_map, hl, Nat.sub_self, List.map_cons, List.set_cons_zero]
  simp
theorem rcR_at {nodes : List Nd} {pin : Int} {k : Nat} {i : Int} (hk : k ≤ nodes.length) (h0 : 0 ≤ i) (h1 : i < (k : Int)) : (bcells (rcR nodes pin k))[i.toNat]? = some (.bool (getB (rcL nodes pin k) i)) := by
  have hl := rcL_len nodes pin k hk
  unfold rcR bcells
  rw [List.getElem?_map, List.getElem?_append_left (by omega), getB_at h0 (by omega)]
  rfl
set_option maxRecDepth 100000 in
set_option maxHeartbeats 8000000 in
theorem Rch_any (n : Nt) (v : Value) (pin : Int) (w : World) (hs : Sz n) (hn : Hid (NtAt w n v)) (hok : NdsOk n.nodes) :
    Calls Try.prog 25 #[v, .int .i64 pin] w fun e w' => ∃ g, e = .returned (.slice (some ⟨g, 0, none⟩) n.nodes.length n.nodes.length) ∧ g < w'.heap.size ∧ BRow w' g (rcL n.nodes pin n.nodes.length) ∧ Gr w w' := by
  obtain ⟨z1, z2, z3, z4, z5⟩ := hs
  obtain ⟨A1, A2, A3, A4, A5, c1, c2, c3, c4, c5, rfl, hc1, h1, h2, h3, h4, h5⟩ := hn.out
  have H1 := Lib.hid h1
  have H2 := Lib.hid h2
  have H3 := Lib.hid h3
  have H4 := Lib.hid h4
  have H5 := Lib.hid h5
  clear h1 h2 h3 h4 h5
  obtain ⟨W0, eW, BW, KEEP⟩ : ∃ W0, w.alloc (.cells (bxC n A1 A2 A3 A4 A5 c1 c2 c3 c4 c5) 27) = W0 ∧ Hid (Gr w W0) ∧ Hid (∀ u, Gr W0 u → BxAt u w.heap.size n A1 A2 A3 A4 A5 c1 c2 c3 c4 c5) :=
    ⟨_, rfl, Lib.hid (bel_alloc _ _), Lib.hid fun u hu => bx_gr (bx_new w n A1 A2 A3 A4 A5 c1 c2 c3 c4 c5) (by simp) hu⟩
  obtain ⟨e0, e1, e2, e3, e4⟩ := KEEP.out W0 (Gr.refl _)
  obtain ⟨i0, hi, hz0, hz1, hz2⟩ := info_parts info4
  have HI := Lib.hid (And.intro hi (And.intro hz0 (And.intro hz1 hz2)))
  clear hi hz0 hz1 hz2
  have HOK := Lib.hid hok
  clear hok
  have hsz : W0.heap.size = W0.heap.size := rfl
  go_enter Try.func25, Try.ntmps25
  go_wp2_with (at_make; (refine wpList_make_full _ rfl _ _ 49 rfl W0.heap.size 4 i0 (.bool false) 1 Try.underlying49 HI.out.1 HI.out.2.1 HI.out.2.2.1 _ _ _ _ n.nodes.length rfl rfl rfl rfl (by rw [HI.out.2.2.2]; omega) (by unfold maxLen; omega) (by first | exact Nat.le_refl _ | (rw [← eW]; exact Nat.le_refl _)) ?_; intro wm hmk hgm; have HMK := Lib.hid hmk; have HGM := Lib.hid (app0 hgm); clear hmk hgm; obtain ⟨e0, e1, e2, e3, e4⟩ := KEEP.out _ HGM.out))
  try rw [eW] at HMK ⊢
  obtain ⟨G, hG, HGL⟩ : ∃ G, W0.heap.size = G ∧ Hid (W0.heap.size ≤ G) := ⟨_, rfl, Lib.hid (Nat.le_refl _)⟩
  try rw [hG] at HMK
  try rw [hG]
  clear hG hsz
  have HM0 := Lib.hid (show wm.ownsRow G 4 1 (.slice (some ⟨G, 0, none⟩) n.nodes.length n.nodes.length) n.nodes.length (bcells (rcR n.nodes pin 0)) from by
    have h := HMK.out
    rw [Nat.mul_one, show (Value.bool false).cells = #[.bool false] from rfl, toList_madeCells_one] at h
    unfold rcR bcells
    rw [Nat.sub_zero]
    simpa [rcL] using h)
  clear HMK
  go_loopg [6, 7, 8, 27, 31, 36] n.nodes.length (fun g i s7 s8 s27 s31 s36 wr => ∃ j : Nat, j + g = n.nodes.length ∧ i = .int .i64 j ∧ Hid (wr.ownsRow G 4 1 (.slice (some ⟨G, 0, none⟩) n.nodes.length n.nodes.length) n.nodes.length (bcells (rcR n.nodes pin j))) ∧ Hid (Gr W0 wr))
  case atStart => exact ⟨0, by omega, rfl, HM0, HGM⟩
  case round =>
    obtain ⟨j, hjg, rfl, HO, HW⟩ := hrel
    have HJ := Lib.hid hjg
    have hjl : j ≤ n.nodes.length := by omega
    clear hjg e0 e1 e2 e3 e4
    obtain ⟨e0, e1, e2, e3, e4⟩ := KEEP.out _ HW.out
    by_cases hlt2 : j < n.nodes.length
    · have hsx : n.nodes[j]? = some n.nodes[j] := List.getElem?_eq_getElem hlt2
      generalize n.nodes[j] = x at hsx
      have HSX := Lib.hid hsx
      obtain ⟨bb, off, rfl, -, d0, d1, d2, d3, d4, d5, d6⟩ := (H1.out.gr (Gr.trans BW.out HW.out)) j x hsx
      have hi1 : (j : Int) < (n.nodes.length : Int) := by omega
      have hi0 : (0 : Int) ≤ (j : Int) := by omega
      clear hsx
      have HWX := Lib.hid (Gr.trans HW.out (bel_alloc wr (.cells #[.int .i64 x.op, .int .i64 x.w, .int .i64 x.a, .int .i64 x.b, .int .i64 x.c, .int .i64 x.n, .int .i64 x.lo] 41)))
      have HOX := Lib.hid (HO.out.alloc (.cells #[.int .i64 x.op, .int .i64 x.w, .int .i64 x.a, .int .i64 x.b, .int .i64 x.c, .int .i64 x.n, .int .i64 x.lo] 41))
      obtain ⟨m0, m1, m2, m3, m4, m5, m6⟩ := node_cells (heap_new' wr (.cells #[.int .i64 x.op, .int .i64 x.w, .int .i64 x.a, .int .i64 x.b, .int .i64 x.c, .int .i64 x.n, .int .i64 x.lo] 41))
      obtain ⟨x0, x1, x2, x3, x4⟩ := KEEP.out _ HWX.out
      have hf := HOX.out.frozenAt j
      have hcj : (wr.alloc (.cells #[.int .i64 x.op, .int .i64 x.w, .int .i64 x.a, .int .i64 x.b, .int .i64 x.c, .int .i64 x.n, .int .i64 x.lo] 41)).cell? ⟨G, j, none⟩ = (bcells (rcR n.nodes pin j))[j]? := HOX.out.cellAt j (by omega)
      obtain ⟨q, bn, bl, f, hr, g1, g2, g3, -⟩ := HOK.out j x HSX.out
      have hq := ops_rule hr
      have hq3 := (rule_cases hr).1
      have hpl : ∀ i, i < 3 → i < q → 0 ≤ plc x i ∧ plc x i < (j : Int) := fun i hi hiq => by
        have h5 := (g3 i hi).2 hiq
        unfold opd at h5
        obtain ⟨p, y, e, _, hp⟩ := opd_pos h5
        rw [List.length_take] at hp
        omega
      have HPL := Lib.hid hpl
      have hat : ∀ z : Int, 0 ≤ z → z < (j : Int) → (wr.alloc (.cells #[.int .i64 x.op, .int .i64 x.w, .int .i64 x.a, .int .i64 x.b, .int .i64 x.c, .int .i64 x.n, .int .i64 x.lo] 41)).cell? ⟨G, z.toNat, none⟩ = some (.bool (getB (rcL n.nodes pin j) z)) := fun z hz0 hz1 => by
        rw [HOX.out.cellAt _ (by omega)]
        exact rcR_at hjl hz0 hz1
      have HAT := Lib.hid hat
      have hlj : (bcells (rcR n.nodes pin j))[j]? = some (.bool false) := by
        have hl := rcL_len n.nodes pin j hjl
        unfold rcR bcells
        rw [List.getElem?_map, List.getElem?_append_right (by omega), hl, Nat.sub_self, List.getElem?_replicate, if_pos (by omega)]
        rfl
      rw [hlj] at hcj
      clear hr g1 g2 g3 hpl hat hlj
      by_cases hv1 : x.op = 1
      · skip
        have p1 : (x.op == 1) = true := by rw [hv1]; rfl
        have p21 : (x.op == 21) = false := by rw [hv1]; rfl
        have p22 : (x.op == 22) = false := by rw [hv1]; rfl
        have p3 : (x.op == 3) = false := by rw [hv1]; rfl
        have p4 : (x.op == 4) = false := by rw [hv1]; rfl
        have p5 : (x.op == 5) = false := by rw [hv1]; rfl
        have p18 : (x.op == 18) = false := by rw [hv1]; rfl
        have p16 : (x.op == 16) = false := by rw [hv1]; rfl
        have hoq : opsN x.op = 0 := by rw [hv1]; rfl
        have HQ := Lib.hid hoq
        obtain rfl : q = 0 := by omega
        clear hoq hq hv1
        by_cases hpin : (j : Int) = pin
        · skip
          have r1 : ((j : Int) == pin) = true := by simp [hpin]
          have HRC := Lib.hid (show rc1 pin j (rcL n.nodes pin j) x = true from by unfold rc1; rw [decide_eq_true hpin]; simp)
          clear hpin
          go_wp2_with fail
          go_roundg (gk - 1)
          case measure => have := HJ.out; omega
          case rel =>
            refine ⟨j + 1, by have := HJ.out; omega, by go_num, Lib.hid ?_, Lib.hid (Below.setCell HWX.out (p := ⟨G, j, none⟩) HGL.out _)⟩
            have h1 := (HOX.out.stored j (.bool (rc1 pin j (rcL n.nodes pin j) x))).1
            rw [rcR_set HSX.out, HRC.out] at h1
            exact h1
        have r1 : ((j : Int) == pin) = false := by simp [hpin]
        have HPIN := Lib.hid (decide_eq_false hpin)
        clear hpin
        have HRC := Lib.hid (show rc1 pin j (rcL n.nodes pin j) x = false from by unfold rc1; rw [HQ.out, HPIN.out]; simp)
        go_wp2_with fail
        go_roundg (gk - 1)
        case measure => have := HJ.out; omega
        case rel =>
          refine ⟨j + 1, by have := HJ.out; omega, by go_num, Lib.hid ?_, Lib.hid (Below.setCell HWX.out (p := ⟨G, j, none⟩) HGL.out _)⟩
          have h1 := (HOX.out.stored j (.bool (rc1 pin j (rcL n.nodes pin j) x))).1
          rw [rcR_set HSX.out, HRC.out] at h1
          exact h1
      by_cases hv21 : x.op = 21
      · skip
        have p1 : (x.op == 1) = false := by rw [hv21]; rfl
        have p21 : (x.op == 21) = true := by rw [hv21]; rfl
        have p22 : (x.op == 22) = false := by rw [hv21]; rfl
        have p3 : (x.op == 3) = false := by rw [hv21]; rfl
        have p4 : (x.op == 4) = false := by rw [hv21]; rfl
        have p5 : (x.op == 5) = false := by rw [hv21]; rfl
        have p18 : (x.op == 18) = false := by rw [hv21]; rfl
        have p16 : (x.op == 16) = false := by rw [hv21]; rfl
        have hoq : opsN x.op = 0 := by rw [hv21]; rfl
        have HQ := Lib.hid hoq
        obtain rfl : q = 0 := by omega
        clear hoq hq hv1 hv21
        by_cases hpin : (j : Int) = pin
        · skip
          have r1 : ((j : Int) == pin) = true := by simp [hpin]
          have HRC := Lib.hid (show rc1 pin j (rcL n.nodes pin j) x = true from by unfold rc1; rw [decide_eq_true hpin]; simp)
          clear hpin
          go_wp2_with fail
          go_roundg (gk - 1)
          case measure => have := HJ.out; omega
          case rel =>
            refine ⟨j + 1, by have := HJ.out; omega, by go_num, Lib.hid ?_, Lib.hid (Below.setCell HWX.out (p := ⟨G, j, none⟩) HGL.out _)⟩
            have h1 := (HOX.out.stored j (.bool (rc1 pin j (rcL n.nodes pin j) x))).1
            rw [rcR_set HSX.out, HRC.out] at h1
            exact h1
        have r1 : ((j : Int) == pin) = false := by simp [hpin]
        have HPIN := Lib.hid (decide_eq_false hpin)
        clear hpin
        have HRC := Lib.hid (show rc1 pin j (rcL n.nodes pin j) x = false from by unfold rc1; rw [HQ.out, HPIN.out]; simp)
        go_wp2_with fail
        go_roundg (gk - 1)
        case measure => have := HJ.out; omega
        case rel =>
          refine ⟨j + 1, by have := HJ.out; omega, by go_num, Lib.hid ?_, Lib.hid (Below.setCell HWX.out (p := ⟨G, j, none⟩) HGL.out _)⟩
          have h1 := (HOX.out.stored j (.bool (rc1 pin j (rcL n.nodes pin j) x))).1
          rw [rcR_set HSX.out, HRC.out] at h1
          exact h1
      by_cases hv22 : x.op = 22
      · skip
        have p1 : (x.op == 1) = false := by rw [hv22]; rfl
        have p21 : (x.op == 21) = false := by rw [hv22]; rfl
        have p22 : (x.op == 22) = true := by rw [hv22]; rfl
        have p3 : (x.op == 3) = false := by rw [hv22]; rfl
        have p4 : (x.op == 4) = false := by rw [hv22]; rfl
        have p5 : (x.op == 5) = false := by rw [hv22]; rfl
        have p18 : (x.op == 18) = false := by rw [hv22]; rfl
        have p16 : (x.op == 16) = false := by rw [hv22]; rfl
        have hoq : opsN x.op = 0 := by rw [hv22]; rfl
        have HQ := Lib.hid hoq
        obtain rfl : q = 0 := by omega
        clear hoq hq hv1 hv21 hv22
        by_cases hpin : (j : Int) = pin
        · skip
          have r1 : ((j : Int) == pin) = true := by simp [hpin]
          have HRC := Lib.hid (show rc1 pin j (rcL n.nodes pin j) x = true from by unfold rc1; rw [decide_eq_true hpin]; simp)
          clear hpin
          go_wp2_with fail
          go_roundg (gk - 1)
          case measure => have := HJ.out; omega
          case rel =>
            refine ⟨j + 1, by have := HJ.out; omega, by go_num, Lib.hid ?_, Lib.hid (Below.setCell HWX.out (p := ⟨G, j, none⟩) HGL.out _)⟩
            have h1 := (HOX.out.stored j (.bool (rc1 pin j (rcL n.nodes pin j) x))).1
            rw [rcR_set HSX.out, HRC.out] at h1
            exact h1
        have r1 : ((j : Int) == pin) = false := by simp [hpin]
        have HPIN := Lib.hid (decide_eq_false hpin)
        clear hpin
        have HRC := Lib.hid (show rc1 pin j (rcL n.nodes pin j) x = false from by unfold rc1; rw [HQ.out, HPIN.out]; simp)
        go_wp2_with fail
        go_roundg (gk - 1)
        case measure => have := HJ.out; omega
        case rel =>
          refine ⟨j + 1, by have := HJ.out; omega, by go_num, Lib.hid ?_, Lib.hid (Below.setCell HWX.out (p := ⟨G, j, none⟩) HGL.out _)⟩
          have h1 := (HOX.out.stored j (.bool (rc1 pin j (rcL n.nodes pin j) x))).1
          rw [rcR_set HSX.out, HRC.out] at h1
          exact h1
      by_cases hv3 : x.op = 3
      · skip
        have p1 : (x.op == 1) = false := by rw [hv3]; rfl
        have p21 : (x.op == 21) = false := by rw [hv3]; rfl
        have p22 : (x.op == 22) = false := by rw [hv3]; rfl
        have p3 : (x.op == 3) = true := by rw [hv3]; rfl
        have p4 : (x.op == 4) = false := by rw [hv3]; rfl
        have p5 : (x.op == 5) = false := by rw [hv3]; rfl
        have p18 : (x.op == 18) = false := by rw [hv3]; rfl
        have p16 : (x.op == 16) = false := by rw [hv3]; rfl
        have hoq : opsN x.op = 1 := by rw [hv3]; rfl
        have HQ := Lib.hid hoq
        obtain rfl : q = 1 := by omega
        clear hoq hq hv1 hv21 hv22 hv3
        by_cases hpin : (j : Int) = pin
        · skip
          have r1 : ((j : Int) == pin) = true := by simp [hpin]
          have HRC := Lib.hid (show rc1 pin j (rcL n.nodes pin j) x = true from by unfold rc1; rw [decide_eq_true hpin]; simp)
          clear hpin
          go_wp2_with fail
          go_roundg (gk - 1)
          case measure => have := HJ.out; omega
          case rel =>
            refine ⟨j + 1, by have := HJ.out; omega, by go_num, Lib.hid ?_, Lib.hid (Below.setCell HWX.out (p := ⟨G, j, none⟩) HGL.out _)⟩
            have h1 := (HOX.out.stored j (.bool (rc1 pin j (rcL n.nodes pin j) x))).1
            rw [rcR_set HSX.out, HRC.out] at h1
            exact h1
        have r1 : ((j : Int) == pin) = false := by simp [hpin]
        have HPIN := Lib.hid (decide_eq_false hpin)
        clear hpin
        cases hba : getB (rcL n.nodes pin j) x.a with
        | true =>
          have hp0a := HPL.out 0 (by decide) (by decide)
          have hpa : 0 ≤ x.a ∧ x.a < (j : Int) := hp0a
          have hca := HAT.out x.a hpa.1 hpa.2
          rw [hba] at hca
          have HBa := Lib.hid hba
          have hxa : x.a < (n.nodes.length : Int) := by omega
          have hya : (0 : Int) ≤ x.a := by omega
          clear hba hpa hp0a
          have HRC := Lib.hid (show rc1 pin j (rcL n.nodes pin j) x = true from by unfold rc1; rw [HQ.out, HPIN.out, HBa.out]; simp)
          go_wp2_with fail
          go_roundg (gk - 1)
          case measure => have := HJ.out; omega
          case rel =>
            refine ⟨j + 1, by have := HJ.out; omega, by go_num, Lib.hid ?_, Lib.hid (Below.setCell HWX.out (p := ⟨G, j, none⟩) HGL.out _)⟩
            have h1 := (HOX.out.stored j (.bool (rc1 pin j (rcL n.nodes pin j) x))).1
            rw [rcR_set HSX.out, HRC.out] at h1
            exact h1
        | false =>
        have hp0a := HPL.out 0 (by decide) (by decide)
        have hpa : 0 ≤ x.a ∧ x.a < (j : Int) := hp0a
        have hca := HAT.out x.a hpa.1 hpa.2
        rw [hba] at hca
        have HBa := Lib.hid hba
        have hxa : x.a < (n.nodes.length : Int) := by omega
        have hya : (0 : Int) ≤ x.a := by omega
        clear hba hpa hp0a
        have HRC := Lib.hid (show rc1 pin j (rcL n.nodes pin j) x = false from by unfold rc1; rw [HQ.out, HPIN.out, HBa.out]; simp)
        go_wp2_with fail
        go_roundg (gk - 1)
        case measure => have := HJ.out; omega
        case rel =>
          refine ⟨j + 1, by have := HJ.out; omega, by go_num, Lib.hid ?_, Lib.hid (Below.setCell HWX.out (p := ⟨G, j, none⟩) HGL.out _)⟩
          have h1 := (HOX.out.stored j (.bool (rc1 pin j (rcL n.nodes pin j) x))).1
          rw [rcR_set HSX.out, HRC.out] at h1
          exact h1
      by_cases hv4 : x.op = 4
      · skip
        have p1 : (x.op == 1) = false := by rw [hv4]; rfl
        have p21 : (x.op == 21) = false := by rw [hv4]; rfl
        have p22 : (x.op == 22) = false := by rw [hv4]; rfl
        have p3 : (x.op == 3) = false := by rw [hv4]; rfl
        have p4 : (x.op == 4) = true := by rw [hv4]; rfl
        have p5 : (x.op == 5) = false := by rw [hv4]; rfl
        have p18 : (x.op == 18) = false := by rw [hv4]; rfl
        have p16 : (x.op == 16) = false := by rw [hv4]; rfl
        have hoq : opsN x.op = 1 := by rw [hv4]; rfl
        have HQ := Lib.hid hoq
        obtain rfl : q = 1 := by omega
        clear hoq hq hv1 hv21 hv22 hv3 hv4
        by_cases hpin : (j : Int) = pin
        · skip
          have r1 : ((j : Int) == pin) = true := by simp [hpin]
          have HRC := Lib.hid (show rc1 pin j (rcL n.nodes pin j) x = true from by unfold rc1; rw [decide_eq_true hpin]; simp)
          clear hpin
          go_wp2_with fail
          go_roundg (gk - 1)
          case measure => have := HJ.out; omega
          case rel =>
            refine ⟨j + 1, by have := HJ.out; omega, by go_num, Lib.hid ?_, Lib.hid (Below.setCell HWX.out (p := ⟨G, j, none⟩) HGL.out _)⟩
            have h1 := (HOX.out.stored j (.bool (rc1 pin j (rcL n.nodes pin j) x))).1
            rw [rcR_set HSX.out, HRC.out] at h1
            exact h1
        have r1 : ((j : Int) == pin) = false := by simp [hpin]
        have HPIN := Lib.hid (decide_eq_false hpin)
        clear hpin
        cases hba : getB (rcL n.nodes pin j) x.a with
        | true =>
          have hp0a := HPL.out 0 (by decide) (by decide)
          have hpa : 0 ≤ x.a ∧ x.a < (j : Int) := hp0a
          have hca := HAT.out x.a hpa.1 hpa.2
          rw [hba] at hca
          have HBa := Lib.hid hba
          have hxa : x.a < (n.nodes.length : Int) := by omega
          have hya : (0 : Int) ≤ x.a := by omega
          clear hba hpa hp0a
          have HRC := Lib.hid (show rc1 pin j (rcL n.nodes pin j) x = true from by unfold rc1; rw [HQ.out, HPIN.out, HBa.out]; simp)
          go_wp2_with fail
          go_roundg (gk - 1)
          case measure => have := HJ.out; omega
          case rel =>
            refine ⟨j + 1, by have := HJ.out; omega, by go_num, Lib.hid ?_, Lib.hid (Below.setCell HWX.out (p := ⟨G, j, none⟩) HGL.out _)⟩
            have h1 := (HOX.out.stored j (.bool (rc1 pin j (rcL n.nodes pin j) x))).1
            rw [rcR_set HSX.out, HRC.out] at h1
            exact h1
        | false =>
        have hp0a := HPL.out 0 (by decide) (by decide)
        have hpa : 0 ≤ x.a ∧ x.a < (j : Int) := hp0a
        have hca := HAT.out x.a hpa.1 hpa.2
        rw [hba] at hca
        have HBa := Lib.hid hba
        have hxa : x.a < (n.nodes.length : Int) := by omega
        have hya : (0 : Int) ≤ x.a := by omega
        clear hba hpa hp0a
        have HRC := Lib.hid (show rc1 pin j (rcL n.nodes pin j) x = false from by unfold rc1; rw [HQ.out, HPIN.out, HBa.out]; simp)
        go_wp2_with fail
        go_roundg (gk - 1)
        case measure => have := HJ.out; omega
        case rel =>
          refine ⟨j + 1, by have := HJ.out; omega, by go_num, Lib.hid ?_, Lib.hid (Below.setCell HWX.out (p := ⟨G, j, none⟩) HGL.out _)⟩
          have h1 := (HOX.out.stored j (.bool (rc1 pin j (rcL n.nodes pin j) x))).1
          rw [rcR_set HSX.out, HRC.out] at h1
          exact h1
      by_cases hv5 : x.op = 5
      · skip
        have p1 : (x.op == 1) = false := by rw [hv5]; rfl
        have p21 : (x.op == 21) = false := by rw [hv5]; rfl
        have p22 : (x.op == 22) = false := by rw [hv5]; rfl
        have p3 : (x.op == 3) = false := by rw [hv5]; rfl
        have p4 : (x.op == 4) = false := by rw [hv5]; rfl
        have p5 : (x.op == 5) = true := by rw [hv5]; rfl
        have p18 : (x.op == 18) = false := by rw [hv5]; rfl
        have p16 : (x.op == 16) = false := by rw [hv5]; rfl
        have hoq : opsN x.op = 1 := by rw [hv5]; rfl
        have HQ := Lib.hid hoq
        obtain rfl : q = 1 := by omega
        clear hoq hq hv1 hv21 hv22 hv3 hv4 hv5
        by_cases hpin : (j : Int) = pin
        · skip
          have r1 : ((j : Int) == pin) = true := by simp [hpin]
          have HRC := Lib.hid (show rc1 pin j (rcL n.nodes pin j) x = true from by unfold rc1; rw [decide_eq_true hpin]; simp)
          clear hpin
          go_wp2_with fail
          go_roundg (gk - 1)
          case measure => have := HJ.out; omega
          case rel =>
            refine ⟨j + 1, by have := HJ.out; omega, by go_num, Lib.hid ?_, Lib.hid (Below.setCell HWX.out (p := ⟨G, j, none⟩) HGL.out _)⟩
            have h1 := (HOX.out.stored j (.bool (rc1 pin j (rcL n.nodes pin j) x))).1
            rw [rcR_set HSX.out, HRC.out] at h1
            exact h1
        have r1 : ((j : Int) == pin) = false := by simp [hpin]
        have HPIN := Lib.hid (decide_eq_false hpin)
        clear hpin
        cases hba : getB (rcL n.nodes pin j) x.a with
        | true =>
          have hp0a := HPL.out 0 (by decide) (by decide)
          have hpa : 0 ≤ x.a ∧ x.a < (j : Int) := hp0a
          have hca := HAT.out x.a hpa.1 hpa.2
          rw [hba] at hca
          have HBa := Lib.hid hba
          have hxa : x.a < (n.nodes.length : Int) := by omega
          have hya : (0 : Int) ≤ x.a := by omega
          clear hba hpa hp0a
          have HRC := Lib.hid (show rc1 pin j (rcL n.nodes pin j) x = true from by unfold rc1; rw [HQ.out, HPIN.out, HBa.out]; simp)
          go_wp2_with fail
          go_roundg (gk - 1)
          case measure => have := HJ.out; omega
          case rel =>
            refine ⟨j + 1, by have := HJ.out; omega, by go_num, Lib.hid ?_, Lib.hid (Below.setCell HWX.out (p := ⟨G, j, none⟩) HGL.out _)⟩
            have h1 := (HOX.out.stored j (.bool (rc1 pin j (rcL n.nodes pin j) x))).1
            rw [rcR_set HSX.out, HRC.out] at h1
            exact h1
        | false =>
        have hp0a := HPL.out 0 (by decide) (by decide)
        have hpa : 0 ≤ x.a ∧ x.a < (j : Int) := hp0a
        have hca := HAT.out x.a hpa.1 hpa.2
        rw [hba] at hca
        have HBa := Lib.hid hba
        have hxa : x.a < (n.nodes.length : Int) := by omega
        have hya : (0 : Int) ≤ x.a := by omega
        clear hba hpa hp0a
        have HRC := Lib.hid (show rc1 pin j (rcL n.nodes pin j) x = false from by unfold rc1; rw [HQ.out, HPIN.out, HBa.out]; simp)
        go_wp2_with fail
        go_roundg (gk - 1)
        case measure => have := HJ.out; omega
        case rel =>
          refine ⟨j + 1, by have := HJ.out; omega, by go_num, Lib.hid ?_, Lib.hid (Below.setCell HWX.out (p := ⟨G, j, none⟩) HGL.out _)⟩
          have h1 := (HOX.out.stored j (.bool (rc1 pin j (rcL n.nodes pin j) x))).1
          rw [rcR_set HSX.out, HRC.out] at h1
          exact h1
      by_cases hv18 : x.op = 18
      · skip
        have p1 : (x.op == 1) = false := by rw [hv18]; rfl
        have p21 : (x.op == 21) = false := by rw [hv18]; rfl
        have p22 : (x.op == 22) = false := by rw [hv18]; rfl
        have p3 : (x.op == 3) = false := by rw [hv18]; rfl
        have p4 : (x.op == 4) = false := by rw [hv18]; rfl
        have p5 : (x.op == 5) = false := by rw [hv18]; rfl
        have p18 : (x.op == 18) = true := by rw [hv18]; rfl
        have p16 : (x.op == 16) = false := by rw [hv18]; rfl
        have hoq : opsN x.op = 1 := by rw [hv18]; rfl
        have HQ := Lib.hid hoq
        obtain rfl : q = 1 := by omega
        clear hoq hq hv1 hv21 hv22 hv3 hv4 hv5 hv18
        by_cases hpin : (j : Int) = pin
        · skip
          have r1 : ((j : Int) == pin) = true := by simp [hpin]
          have HRC := Lib.hid (show rc1 pin j (rcL n.nodes pin j) x = true from by unfold rc1; rw [decide_eq_true hpin]; simp)
          clear hpin
          go_wp2_with fail
          go_roundg (gk - 1)
          case measure => have := HJ.out; omega
          case rel =>
            refine ⟨j + 1, by have := HJ.out; omega, by go_num, Lib.hid ?_, Lib.hid (Below.setCell HWX.out (p := ⟨G, j, none⟩) HGL.out _)⟩
            have h1 := (HOX.out.stored j (.bool (rc1 pin j (rcL n.nodes pin j) x))).1
            rw [rcR_set HSX.out, HRC.out] at h1
            exact h1
        have r1 : ((j : Int) == pin) = false := by simp [hpin]
        have HPIN := Lib.hid (decide_eq_false hpin)
        clear hpin
        cases hba : getB (rcL n.nodes pin j) x.a with
        | true =>
          have hp0a := HPL.out 0 (by decide) (by decide)
          have hpa : 0 ≤ x.a ∧ x.a < (j : Int) := hp0a
          have hca := HAT.out x.a hpa.1 hpa.2
          rw [hba] at hca
          have HBa := Lib.hid hba
          have hxa : x.a < (n.nodes.length : Int) := by omega
          have hya : (0 : Int) ≤ x.a := by omega
          clear hba hpa hp0a
          have HRC := Lib.hid (show rc1 pin j (rcL n.nodes pin j) x = true from by unfold rc1; rw [HQ.out, HPIN.out, HBa.out]; simp)
          go_wp2_with fail
          go_roundg (gk - 1)
          case measure => have := HJ.out; omega
          case rel =>
            refine ⟨j + 1, by have := HJ.out; omega, by go_num, Lib.hid ?_, Lib.hid (Below.setCell HWX.out (p := ⟨G, j, none⟩) HGL.out _)⟩
            have h1 := (HOX.out.stored j (.bool (rc1 pin j (rcL n.nodes pin j) x))).1
            rw [rcR_set HSX.out, HRC.out] at h1
            exact h1
        | false =>
        have hp0a := HPL.out 0 (by decide) (by decide)
        have hpa : 0 ≤ x.a ∧ x.a < (j : Int) := hp0a
        have hca := HAT.out x.a hpa.1 hpa.2
        rw [hba] at hca
        have HBa := Lib.hid hba
        have hxa : x.a < (n.nodes.length : Int) := by omega
        have hya : (0 : Int) ≤ x.a := by omega
        clear hba hpa hp0a
        have HRC := Lib.hid (show rc1 pin j (rcL n.nodes pin j) x = false from by unfold rc1; rw [HQ.out, HPIN.out, HBa.out]; simp)
        go_wp2_with fail
        go_roundg (gk - 1)
        case measure => have := HJ.out; omega
        case rel =>
          refine ⟨j + 1, by have := HJ.out; omega, by go_num, Lib.hid ?_, Lib.hid (Below.setCell HWX.out (p := ⟨G, j, none⟩) HGL.out _)⟩
          have h1 := (HOX.out.stored j (.bool (rc1 pin j (rcL n.nodes pin j) x))).1
          rw [rcR_set HSX.out, HRC.out] at h1
          exact h1
      by_cases hv16 : x.op = 16
      · skip
        have p1 : (x.op == 1) = false := by rw [hv16]; rfl
        have p21 : (x.op == 21) = false := by rw [hv16]; rfl
        have p22 : (x.op == 22) = false := by rw [hv16]; rfl
        have p3 : (x.op == 3) = false := by rw [hv16]; rfl
        have p4 : (x.op == 4) = false := by rw [hv16]; rfl
        have p5 : (x.op == 5) = false := by rw [hv16]; rfl
        have p18 : (x.op == 18) = false := by rw [hv16]; rfl
        have p16 : (x.op == 16) = true := by rw [hv16]; rfl
        have hoq : opsN x.op = 3 := by rw [hv16]; rfl
        have HQ := Lib.hid hoq
        obtain rfl : q = 3 := by omega
        clear hoq hq hv1 hv21 hv22 hv3 hv4 hv5 hv18 hv16
        by_cases hpin : (j : Int) = pin
        · skip
          have r1 : ((j : Int) == pin) = true := by simp [hpin]
          have HRC := Lib.hid (show rc1 pin j (rcL n.nodes pin j) x = true from by unfold rc1; rw [decide_eq_true hpin]; simp)
          clear hpin
          go_wp2_with fail
          go_roundg (gk - 1)
          case measure => have := HJ.out; omega
          case rel =>
            refine ⟨j + 1, by have := HJ.out; omega, by go_num, Lib.hid ?_, Lib.hid (Below.setCell HWX.out (p := ⟨G, j, none⟩) HGL.out _)⟩
            have h1 := (HOX.out.stored j (.bool (rc1 pin j (rcL n.nodes pin j) x))).1
            rw [rcR_set HSX.out, HRC.out] at h1
            exact h1
        have r1 : ((j : Int) == pin) = false := by simp [hpin]
        have HPIN := Lib.hid (decide_eq_false hpin)
        clear hpin
        cases hba : getB (rcL n.nodes pin j) x.a with
        | true =>
          have hp0a := HPL.out 0 (by decide) (by decide)
          have hpa : 0 ≤ x.a ∧ x.a < (j : Int) := hp0a
          have hca := HAT.out x.a hpa.1 hpa.2
          rw [hba] at hca
          have HBa := Lib.hid hba
          have hxa : x.a < (n.nodes.length : Int) := by omega
          have hya : (0 : Int) ≤ x.a := by omega
          clear hba hpa hp0a
          have HRC := Lib.hid (show rc1 pin j (rcL n.nodes pin j) x = true from by unfold rc1; rw [HQ.out, HPIN.out, HBa.out]; simp)
          go_wp2_with fail
          go_roundg (gk - 1)
          case measure => have := HJ.out; omega
          case rel =>
            refine ⟨j + 1, by have := HJ.out; omega, by go_num, Lib.hid ?_, Lib.hid (Below.setCell HWX.out (p := ⟨G, j, none⟩) HGL.out _)⟩
            have h1 := (HOX.out.stored j (.bool (rc1 pin j (rcL n.nodes pin j) x))).1
            rw [rcR_set HSX.out, HRC.out] at h1
            exact h1
        | false =>
        have hp0a := HPL.out 0 (by decide) (by decide)
        have hpa : 0 ≤ x.a ∧ x.a < (j : Int) := hp0a
        have hca := HAT.out x.a hpa.1 hpa.2
        rw [hba] at hca
        have HBa := Lib.hid hba
        have hxa : x.a < (n.nodes.length : Int) := by omega
        have hya : (0 : Int) ≤ x.a := by omega
        clear hba hpa hp0a
        cases hbb : getB (rcL n.nodes pin j) x.b with
        | true =>
          have hp0b := HPL.out 1 (by decide) (by decide)
          have hpb : 0 ≤ x.b ∧ x.b < (j : Int) := hp0b
          have hcb := HAT.out x.b hpb.1 hpb.2
          rw [hbb] at hcb
          have HBb := Lib.hid hbb
          have hxb : x.b < (n.nodes.length : Int) := by omega
          have hyb : (0 : Int) ≤ x.b := by omega
          clear hbb hpb hp0b
          have HRC := Lib.hid (show rc1 pin j (rcL n.nodes pin j) x = true from by unfold rc1; rw [HQ.out, HPIN.out, HBa.out, HBb.out]; simp)
          go_wp2_with fail
          go_roundg (gk - 1)
          case measure => have := HJ.out; omega
          case rel =>
            refine ⟨j + 1, by have := HJ.out; omega, by go_num, Lib.hid ?_, Lib.hid (Below.setCell HWX.out (p := ⟨G, j, none⟩) HGL.out _)⟩
            have h1 := (HOX.out.stored j (.bool (rc1 pin j (rcL n.nodes pin j) x))).1
            rw [rcR_set HSX.out, HRC.out] at h1
            exact h1
        | false =>
        have hp0b := HPL.out 1 (by decide) (by decide)
        have hpb : 0 ≤ x.b ∧ x.b < (j : Int) := hp0b
        have hcb := HAT.out x.b hpb.1 hpb.2
        rw [hbb] at hcb
        have HBb := Lib.hid hbb
        have hxb : x.b < (n.nodes.length : Int) := by omega
        have hyb : (0 : Int) ≤ x.b := by omega
        clear hbb hpb hp0b
        cases hbc : getB (rcL n.nodes pin j) x.c with
        | true =>
          have hp0c := HPL.out 2 (by decide) (by decide)
          have hpc : 0 ≤ x.c ∧ x.c < (j : Int) := hp0c
          have hcc := HAT.out x.c hpc.1 hpc.2
          rw [hbc] at hcc
          have HBc := Lib.hid hbc
          have hxc : x.c < (n.nodes.length : Int) := by omega
          have hyc : (0 : Int) ≤ x.c := by omega
          clear hbc hpc hp0c
          have HRC := Lib.hid (show rc1 pin j (rcL n.nodes pin j) x = true from by unfold rc1; rw [HQ.out, HPIN.out, HBa.out, HBb.out, HBc.out]; simp)
          go_wp2_with fail
          go_roundg (gk - 1)
          case measure => have := HJ.out; omega
          case rel =>
            refine ⟨j + 1, by have := HJ.out; omega, by go_num, Lib.hid ?_, Lib.hid (Below.setCell HWX.out (p := ⟨G, j, none⟩) HGL.out _)⟩
            have h1 := (HOX.out.stored j (.bool (rc1 pin j (rcL n.nodes pin j) x))).1
            rw [rcR_set HSX.out, HRC.out] at h1
            exact h1
        | false =>
        have hp0c := HPL.out 2 (by decide) (by decide)
        have hpc : 0 ≤ x.c ∧ x.c < (j : Int) := hp0c
        have hcc := HAT.out x.c hpc.1 hpc.2
        rw [hbc] at hcc
        have HBc := Lib.hid hbc
        have hxc : x.c < (n.nodes.length : Int) := by omega
        have hyc : (0 : Int) ≤ x.c := by omega
        clear hbc hpc hp0c
        have HRC := Lib.hid (show rc1 pin j (rcL n.nodes pin j) x = false from by unfold rc1; rw [HQ.out, HPIN.out, HBa.out, HBb.out, HBc.out]; simp)
        go_wp2_with fail
        go_roundg (gk - 1)
        case measure => have := HJ.out; omega
        case rel =>
          refine ⟨j + 1, by have := HJ.out; omega, by go_num, Lib.hid ?_, Lib.hid (Below.setCell HWX.out (p := ⟨G, j, none⟩) HGL.out _)⟩
          have h1 := (HOX.out.stored j (.bool (rc1 pin j (rcL n.nodes pin j) x))).1
          rw [rcR_set HSX.out, HRC.out] at h1
          exact h1
      have p1 : (x.op == 1) = false := by simp [hv1]
      have p21 : (x.op == 21) = false := by simp [hv21]
      have p22 : (x.op == 22) = false := by simp [hv22]
      have p3 : (x.op == 3) = false := by simp [hv3]
      have p4 : (x.op == 4) = false := by simp [hv4]
      have p5 : (x.op == 5) = false := by simp [hv5]
      have p18 : (x.op == 18) = false := by simp [hv18]
      have p16 : (x.op == 16) = false := by simp [hv16]
      have hoq : opsN x.op = 2 := by unfold opsN; rw [if_neg (by omega), if_neg (by omega), if_neg (by omega)]
      have HQ := Lib.hid hoq
      obtain rfl : q = 2 := by omega
      clear hoq hq hv1 hv21 hv22 hv3 hv4 hv5 hv18 hv16
      by_cases hpin : (j : Int) = pin
      · skip
        have r1 : ((j : Int) == pin) = true := by simp [hpin]
        have HRC := Lib.hid (show rc1 pin j (rcL n.nodes pin j) x = true from by unfold rc1; rw [decide_eq_true hpin]; simp)
        clear hpin
        go_wp2_with fail
        go_roundg (gk - 1)
        case measure => have := HJ.out; omega
        case rel =>
          refine ⟨j + 1, by have := HJ.out; omega, by go_num, Lib.hid ?_, Lib.hid (Below.setCell HWX.out (p := ⟨G, j, none⟩) HGL.out _)⟩
          have h1 := (HOX.out.stored j (.bool (rc1 pin j (rcL n.nodes pin j) x))).1
          rw [rcR_set HSX.out, HRC.out] at h1
          exact h1
      have r1 : ((j : Int) == pin) = false := by simp [hpin]
      have HPIN := Lib.hid (decide_eq_false hpin)
      clear hpin
      cases hba : getB (rcL n.nodes pin j) x.a with
      | true =>
        have hp0a := HPL.out 0 (by decide) (by decide)
        have hpa : 0 ≤ x.a ∧ x.a < (j : Int) := hp0a
        have hca := HAT.out x.a hpa.1 hpa.2
        rw [hba] at hca
        have HBa := Lib.hid hba
        have hxa : x.a < (n.nodes.length : Int) := by omega
        have hya : (0 : Int) ≤ x.a := by omega
        clear hba hpa hp0a
        have HRC := Lib.hid (show rc1 pin j (rcL n.nodes pin j) x = true from by unfold rc1; rw [HQ.out, HPIN.out, HBa.out]; simp)
        go_wp2_with fail
        go_roundg (gk - 1)
        case measure => have := HJ.out; omega
        case rel =>
          refine ⟨j + 1, by have := HJ.out; omega, by go_num, Lib.hid ?_, Lib.hid (Below.setCell HWX.out (p := ⟨G, j, none⟩) HGL.out _)⟩
          have h1 := (HOX.out.stored j (.bool (rc1 pin j (rcL n.nodes pin j) x))).1
          rw [rcR_set HSX.out, HRC.out] at h1
          exact h1
      | false =>
      have hp0a := HPL.out 0 (by decide) (by decide)
      have hpa : 0 ≤ x.a ∧ x.a < (j : Int) := hp0a
      have hca := HAT.out x.a hpa.1 hpa.2
      rw [hba] at hca
      have HBa := Lib.hid hba
      have hxa : x.a < (n.nodes.length : Int) := by omega
      have hya : (0 : Int) ≤ x.a := by omega
      clear hba hpa hp0a
      cases hbb : getB (rcL n.nodes pin j) x.b with
      | true =>
        have hp0b := HPL.out 1 (by decide) (by decide)
        have hpb : 0 ≤ x.b ∧ x.b < (j : Int) := hp0b
        have hcb := HAT.out x.b hpb.1 hpb.2
        rw [hbb] at hcb
        have HBb := Lib.hid hbb
        have hxb : x.b < (n.nodes.length : Int) := by omega
        have hyb : (0 : Int) ≤ x.b := by omega
        clear hbb hpb hp0b
        have HRC := Lib.hid (show rc1 pin j (rcL n.nodes pin j) x = true from by unfold rc1; rw [HQ.out, HPIN.out, HBa.out, HBb.out]; simp)
        go_wp2_with fail
        go_roundg (gk - 1)
        case measure => have := HJ.out; omega
        case rel =>
          refine ⟨j + 1, by have := HJ.out; omega, by go_num, Lib.hid ?_, Lib.hid (Below.setCell HWX.out (p := ⟨G, j, none⟩) HGL.out _)⟩
          have h1 := (HOX.out.stored j (.bool (rc1 pin j (rcL n.nodes pin j) x))).1
          rw [rcR_set HSX.out, HRC.out] at h1
          exact h1
      | false =>
      have hp0b := HPL.out 1 (by decide) (by decide)
      have hpb : 0 ≤ x.b ∧ x.b < (j : Int) := hp0b
      have hcb := HAT.out x.b hpb.1 hpb.2
      rw [hbb] at hcb
      have HBb := Lib.hid hbb
      have hxb : x.b < (n.nodes.length : Int) := by omega
      have hyb : (0 : Int) ≤ x.b := by omega
      clear hbb hpb hp0b
      have HRC := Lib.hid (show rc1 pin j (rcL n.nodes pin j) x = false from by unfold rc1; rw [HQ.out, HPIN.out, HBa.out, HBb.out]; simp)
      go_wp2_with fail
      go_roundg (gk - 1)
      case measure => have := HJ.out; omega
      case rel =>
        refine ⟨j + 1, by have := HJ.out; omega, by go_num, Lib.hid ?_, Lib.hid (Below.setCell HWX.out (p := ⟨G, j, none⟩) HGL.out _)⟩
        have h1 := (HOX.out.stored j (.bool (rc1 pin j (rcL n.nodes pin j) x))).1
        rw [rcR_set HSX.out, HRC.out] at h1
        exact h1
    · have hjn : j = n.nodes.length := by omega
      subst hjn
      have i1 : ¬ (n.nodes.length : Int) < (n.nodes.length : Int) := by omega
      go_wp2_with fail
      go_ret
      refine ⟨G, rfl, ?_, fun i b hib => ?_, Gr.trans BW.out HW.out⟩
      · have := HGL.out
        exact ((HO.out.lt G rfl).2)
      · have hil := (List.getElem?_eq_some_iff.1 hib).1
        rw [rcL_len _ _ _ (Nat.le_refl _)] at hil
        rw [HO.out.cellAt i (by omega)]
        unfold rcR bcells
        rw [List.getElem?_map, List.getElem?_append_left (by rw [rcL_len _ _ _ (Nat.le_refl _)]; exact hil), hib]
        rfl
end Go.Proofs.Ytnkifhgkhgialaa
