/-
  A NODE'S CHECKS, WALKED.
-/
import Derived.Test.YtnkifhgkhgialaaNSma
namespace Go.Proofs.Ytnkifhgkhgialaa
open Go.RowKit
open NetM

/-- the operands' places -/
def plcs (x : Nd) : List Int := [x.a, x.b, x.c]
theorem plcs_at {x : Nd} {j : Nat} {p : Int} (h : (plcs x)[j]? = some p) : j < 3 ∧ p = plc x j := by
  match j, h with
  | 0, h => simp [plcs] at h; exact ⟨by omega, h.symm⟩
  | 1, h => simp [plcs] at h; exact ⟨by omega, h.symm⟩
  | 2, h => simp [plcs] at h; exact ⟨by omega, h.symm⟩
  | j + 3, h => simp [plcs] at h
def ROk (l : List Nd) (x : Nd) (k j : Nat) : Prop := (k ≤ j → plc x j = 0) ∧ (j < k → opd l x j ≠ 0)

set_option maxHeartbeats 1000000 in
theorem reaches_any (x : Nd) (A : Option Addr) (l : List Nd) (c k : Nat) (bn bl : Bool) (f : Nat) (w : World) (_hk : k ≤ 3) (hl : l.length ≤ 4000) (h : Hid (Nds w w.heap.size A l)) (b : Bool) (hb : Hid (b = true ↔ NReach l x k)) :
    Calls Try.prog 63 #[rnV x A l.length c k bn bl f] w fun e w' => e = .returned (.bool b) ∧ Gr w w' := by
  have C0 := Lib.hid (rn_new w x A l.length c k bn bl f)
  have B0 := Lib.hid (bel_alloc w (.cells (rnC x A l.length c k bn bl f) 74))
  obtain ⟨d0, d1, d2, d3, d4, d5, d6, d7, d8, d9, d10, d11⟩ := C0.out
  have CE := Lib.hid (fun (j : Nat) (p : Int) (hj : (plcs x)[j]? = some p) => new_cells (w.alloc (.cells (rnC x A l.length c k bn bl f) 74)) #[.int .i64 x.a, .int .i64 x.b, .int .i64 x.c] 3 j (.int .i64 p) (by
      match j, hj with
      | 0, hj => simp [plcs] at hj; subst hj; rfl
      | 1, hj => simp [plcs] at hj; subst hj; rfl
      | 2, hj => simp [plcs] at hj; subst hj; rfl
      | j + 3, hj => simp [plcs] at hj))
  obtain ⟨W1, e1, K1, G1, C1, WI⟩ : ∃ W1, (w.alloc (.cells (rnC x A l.length c k bn bl f) 74)).alloc (.cells #[.int .i64 x.a, .int .i64 x.b, .int .i64 x.c] 3) = W1 ∧ Hid (RnAt W1 w.heap.size x A l.length c k bn bl f) ∧ Hid (Gr w W1) ∧
      Hid (∀ (j : Nat) (p : Int), (plcs x)[j]? = some p → W1.cell? ⟨w.heap.size + 1, j, none⟩ = some (.int .i64 p)) ∧
      Hid (∀ i : Int, Calls Try.prog 41 #[.slice A l.length c, .int .i64 i] W1 fun e w' => e = .returned (.int .i64 (widA l i)) ∧ W1 = w') := by
    have g : Gr w ((w.alloc (.cells (rnC x A l.length c k bn bl f) 74)).alloc (.cells #[.int .i64 x.a, .int .i64 x.b, .int .i64 x.c] 3)) := Gr.trans B0.out (bel_alloc _ _)
    refine ⟨_, rfl, Lib.hid (rn_gr C0.out (by simp) (bel_alloc _ _)), Lib.hid g, Lib.hid fun j p hj => ?_, Lib.hid fun i => width_any A c _ l i _ hl (Lib.hid (h.out.gr g))⟩
    have := CE.out j p hj
    rw [World.size_alloc] at this
    exact this
  have h3 : (plcs x).length = 3 := rfl
  clear CE C0 B0 h
  go_enter Try.func63, Try.ntmps63
  go_wp2_with fail
  try rw [e1]
  clear e1 d0 d1 d2 d3 d4 d5 d6 d7 d8 d9 d10 d11
  obtain ⟨d0, d1, d2, d3, d4, d5, d6, d7, d8, d9, d10, d11⟩ := K1.out
  go_loopg [16] 3 (fun g i wr => ∃ j : Nat, j + g = 3 ∧ i = .int .i64 j ∧ Hid (∀ i, i < j → ROk l x k i) ∧ W1 = wr)
  case atStart => exact ⟨0, by omega, rfl, Lib.hid (fun i hi => by omega), rfl⟩
  case round =>
    obtain ⟨j, hjg, rfl, HA, rfl⟩ := hrel
    have HJ := Lib.hid hjg
    have hjl : j ≤ 3 := by omega
    clear hjg
    by_cases hlt : j < 3
    · have hs : (plcs x)[j]? = some (plcs x)[j] := List.getElem?_eq_getElem (by omega)
      generalize (plcs x)[j] = p at hs
      have hp := (plcs_at hs).2
      have c0 := C1.out j p hs
      have HP := Lib.hid hp
      clear hs hp
      have hi1 : (j : Int) < 3 := by omega
      have hi0 : (0 : Int) ≤ (j : Int) := by omega
      have hstep : ROk l x k j → ∀ i, i < j + 1 → ROk l x k i := fun hr i hi => by
        by_cases h2 : i < j
        · exact HA.out i h2
        · have e2 : i = j := by omega
          rw [e2]
          exact hr
      have HST := Lib.hid hstep
      clear hstep
      have hbad : ¬ ROk l x k j → b = false := fun hn => by
        cases b
        · rfl
        · exact absurd (hb.out.1 rfl j hlt) hn
      have HBD := Lib.hid hbad
      clear hbad
      by_cases hkj : k ≤ j
      · have hkI : (k : Int) ≤ (j : Int) := by omega
        have hkI2 : ¬ ((j : Int) < (k : Int)) := by omega
        by_cases hp0 : p = 0
        · have HR := Lib.hid (HST.out ⟨fun _ => by rw [← HP.out]; exact hp0, fun h => absurd h (by omega)⟩)
          subst hp0
          clear hkj
          go_wp2_with fail
          go_roundg (gk - 1)
          case measure => have := HJ.out; omega
          case rel => exact ⟨j + 1, by have := HJ.out; omega, by go_num, Lib.hid HR.out, rfl⟩
        · have HR := Lib.hid (HBD.out fun hr => hp0 (by rw [HP.out]; exact hr.1 hkj))
          have hp1 : (p != 0) = true := by simp [hp0]
          clear hkj hp0
          go_wp2_with fail
          go_ret
          exact ⟨by rw [HR.out]; rfl, G1.out⟩
      · have hkI : ¬ ((k : Int) ≤ (j : Int)) := by omega
        have hkI2 : (j : Int) < (k : Int) := by omega
        have WP := Lib.hid (WI.out p)
        have e5 : widA l p = opd l x j := by rw [HP.out]; rfl
        rw [e5] at WP
        clear e5
        by_cases ho0 : opd l x j = 0
        · have HR := Lib.hid (HBD.out fun hr => hr.2 (by omega) ho0)
          rw [ho0] at WP
          clear hkj ho0
          go_wp2_with fail
          refine WP.out.mono ?_
          rintro e w1 ⟨rfl, rfl⟩
          go_wp2_with fail
          go_ret
          exact ⟨by rw [HR.out]; rfl, G1.out⟩
        · have HR := Lib.hid (HST.out ⟨fun h => absurd h hkj, fun _ => ho0⟩)
          have hp1 : (opd l x j == 0) = false := by simp [ho0]
          clear hkj ho0
          generalize opd l x j = o at WP hp1
          go_wp2_with fail
          refine WP.out.mono ?_
          rintro e w1 ⟨rfl, rfl⟩
          go_wp2_with fail
          go_roundg (gk - 1)
          case measure => have := HJ.out; omega
          case rel => exact ⟨j + 1, by have := HJ.out; omega, by go_num, Lib.hid HR.out, rfl⟩
    · have HR := Lib.hid (hb.out.2 fun i hi => HA.out i (by have := HJ.out; omega))
      go_wp2_with fail
      go_ret
      exact ⟨by rw [HR.out]; rfl, G1.out⟩
/-! the checks -/
theorem no_of {b : Bool} {p : Prop} (h : b = true ↔ p) (hp : ¬ p) : b = false := by
  cases b
  · rfl
  · exact absurd (h.1 rfl) hp
theorem stands_any (x : Nd) (A : Option Addr) (n c k : Nat) (bn bl : Bool) (f : Nat) (w : World) :
    Calls Try.prog 62 #[rnV x A n c k bn bl f] w fun e w' => e = .returned (.bool true) ∧ Gr w w' := by
  go_enter Try.func62, Try.ntmps62
  go_wp2
  go_ret
  exact ⟨rfl, bel_alloc _ _⟩
set_option maxHeartbeats 1000000 in
theorem asWide_any (x : Nd) (A : Option Addr) (l : List Nd) (c k : Nat) (bn bl : Bool) (f : Nat) (w : World) (hk : k ≤ 3) (hl : l.length ≤ 4000) (h : Hid (Nds w w.heap.size A l)) (b : Bool) (hb : Hid (b = true ↔ AllW l x k x.w)) :
    Calls Try.prog 57 #[rnV x A l.length c k bn bl f] w fun e w' => e = .returned (.bool b) ∧ Gr w w' := by
  have C0 := Lib.hid (rn_new w x A l.length c k bn bl f)
  have B0 := Lib.hid (bel_alloc w (.cells (rnC x A l.length c k bn bl f) 74))
  have HC := Lib.hid (all_any x A l c k bn bl f x.w (w.alloc (.cells (rnC x A l.length c k bn bl f) 74)) hk hl (Lib.hid (h.out.gr B0.out)) b hb)
  obtain ⟨d0, d1, d2, d3, d4, d5, d6, d7, d8, d9, d10, d11⟩ := C0.out
  clear hk hl h hb
  go_enter Try.func57, Try.ntmps57
  go_wp2_with fail
  refine HC.out.mono ?_
  rintro e w1 ⟨rfl, hg⟩
  have HG := Lib.hid (Gr.trans B0.out hg)
  clear hg d0 d1 d2 d3 d4 d5 d6 d7 d8 d9 d10 d11
  go_wp2_with fail
  go_ret
  exact ⟨rfl, HG.out⟩
set_option maxHeartbeats 1000000 in
theorem tells_any (x : Nd) (A : Option Addr) (l : List Nd) (c k : Nat) (bn bl : Bool) (f : Nat) (w : World) (hk : k ≤ 3) (hl : l.length ≤ 4000) (h : Hid (Nds w w.heap.size A l)) (b : Bool) (hb : Hid (b = true ↔ x.w = 1 ∧ AllW l x k x.lo)) :
    Calls Try.prog 58 #[rnV x A l.length c k bn bl f] w fun e w' => e = .returned (.bool b) ∧ Gr w w' := by
  have C0 := Lib.hid (rn_new w x A l.length c k bn bl f)
  have B0 := Lib.hid (bel_alloc w (.cells (rnC x A l.length c k bn bl f) 74))
  by_cases hw : x.w = 1
  · have HC := Lib.hid (all_any x A l c k bn bl f x.lo (w.alloc (.cells (rnC x A l.length c k bn bl f) 74)) hk hl (Lib.hid (h.out.gr B0.out)) b (Lib.hid (hb.out.trans ⟨fun h => h.2, fun h => ⟨hw, h⟩⟩)))
    obtain ⟨d0, d1, d2, d3, d4, d5, d6, d7, d8, d9, d10, d11⟩ := C0.out
    have hw1 : (x.w == 1) = true := by simp [hw]
    clear hk hl h hb hw
    go_enter Try.func58, Try.ntmps58
    go_wp2_with fail
    refine HC.out.mono ?_
    rintro e w1 ⟨rfl, hg⟩
    have HG := Lib.hid (Gr.trans B0.out hg)
    clear hg d0 d1 d2 d3 d4 d5 d6 d7 d8 d9 d10 d11
    go_wp2_with fail
    go_ret
    exact ⟨rfl, HG.out⟩
  · have HN := Lib.hid (no_of hb.out fun h => hw h.1)
    obtain ⟨d0, d1, d2, d3, d4, d5, d6, d7, d8, d9, d10, d11⟩ := C0.out
    have hw1 : (x.w == 1) = false := by simp [hw]
    clear hk hl h hb hw
    go_enter Try.func58, Try.ntmps58
    go_wp2_with fail
    go_ret
    exact ⟨by rw [HN.out]; rfl, B0.out⟩
set_option maxHeartbeats 1000000 in
theorem holds_any (x : Nd) (A : Option Addr) (n c k : Nat) (bn bl : Bool) (f : Nat) (w : World) (hw1 : 1 ≤ x.w) (hw2 : x.w ≤ 16) (b : Bool) (hb : Hid (b = true ↔ 0 ≤ x.n ∧ x.n ≤ ((2 ^ x.w.toNat - 1 : Nat) : Int))) :
    Calls Try.prog 56 #[rnV x A n c k bn bl f] w fun e w' => e = .returned (.bool b) ∧ Gr w w' := by
  have C0 := Lib.hid (rn_new w x A n c k bn bl f)
  have B0 := Lib.hid (bel_alloc w (.cells (rnC x A n c k bn bl f) 74))
  obtain ⟨d0, d1, d2, d3, d4, d5, d6, d7, d8, d9, d10, d11⟩ := C0.out
  obtain ⟨m, hm⟩ : ∃ m : Nat, x.w = m := ⟨x.w.toNat, by omega⟩
  have hm2 : x.w.toNat = m := by omega
  rw [hm2] at hb
  obtain ⟨q, hq⟩ : ∃ q, 2 ^ m - 1 = q := ⟨_, rfl⟩
  have MK := Lib.hid (show ∀ u, Calls Try.prog 47 #[.int .i64 x.w] u fun e w' => e = .returned (.int .i64 (q : Nat)) ∧ w' = u from fun u => by rw [hm, ← hq]; exact (Mask_any m (by omega) u).mono fun e w' ⟨h1, h2⟩ => ⟨h1, h2.symm⟩)
  rw [hq] at hb
  clear hm hm2 hq hw1 hw2
  by_cases h0 : 0 ≤ x.n
  · have hd : decide (0 ≤ x.n) = true := by simp [h0]
    by_cases h1 : x.n ≤ (q : Int)
    · have HN := Lib.hid (hb.out.2 ⟨h0, h1⟩)
      clear hb
      go_enter Try.func56, Try.ntmps56
      go_wp2_with fail
      go_quiet ((go_at_call 47; exact Calls.quiet_of_same (MK.out _)))
      go_wp2_with fail
      go_ret
      exact ⟨by rw [HN.out]; rfl, Below.drewN B0.out _⟩
    · have hd1 : decide (x.n ≤ (q : Int)) = false := by simpa using h1
      have HN := Lib.hid (no_of hb.out fun h => h1 h.2)
      clear hb
      go_enter Try.func56, Try.ntmps56
      go_wp2_with fail
      go_quiet ((go_at_call 47; exact Calls.quiet_of_same (MK.out _)))
      go_wp2_with fail
      go_ret
      exact ⟨by rw [HN.out]; rfl, Below.drewN B0.out _⟩
  · have hd : decide (0 ≤ x.n) = false := by simp; omega
    have HN := Lib.hid (no_of hb.out fun h => h0 h.1)
    clear hb
    go_enter Try.func56, Try.ntmps56
    go_wp2_with fail
    go_quiet ((go_at_call 47; exact Calls.quiet_of_same (MK.out _)))
    go_wp2_with fail
    go_ret
    exact ⟨by rw [HN.out]; rfl, Below.drewN B0.out _⟩
set_option maxHeartbeats 1000000 in
theorem chooses_any (x : Nd) (A : Option Addr) (l : List Nd) (c : Nat) (bn bl : Bool) (f : Nat) (w : World) (hl : l.length ≤ 4000) (h : Hid (Nds w w.heap.size A l)) (b : Bool) (hb : Hid (b = true ↔ opd l x 0 = 1 ∧ opd l x 1 = x.w ∧ opd l x 2 = x.w)) :
    Calls Try.prog 59 #[rnV x A l.length c 3 bn bl f] w fun e w' => e = .returned (.bool b) ∧ Gr w w' := by
  have C0 := Lib.hid (rn_new w x A l.length c 3 bn bl f)
  have B0 := Lib.hid (bel_alloc w (.cells (rnC x A l.length c 3 bn bl f) 74))
  have HC := Lib.hid (widths_any x A l c 3 bn bl f (w.alloc (.cells (rnC x A l.length c 3 bn bl f) 74)) (by decide) hl (Lib.hid (h.out.gr B0.out)))
  have c0 := Lib.hid C0.out
  obtain ⟨d0, d1, d2, d3, d4, d5, d6, d7, d8, d9, d10, d11⟩ := C0.out
  obtain ⟨o0, e0⟩ : ∃ o, opd l x 0 = o := ⟨_, rfl⟩
  obtain ⟨o1, e1⟩ : ∃ o, opd l x 1 = o := ⟨_, rfl⟩
  obtain ⟨o2, e2⟩ : ∃ o, opd l x 2 = o := ⟨_, rfl⟩
  unfold opds at HC
  simp only [e0, e1, e2] at HC hb
  clear h e0 e1 e2
  by_cases h0 : o0 ≠ 1
  ·
    have q0 : (o0 == 1) = false := by simp [h0]
    have HN := Lib.hid (no_of hb.out fun h => h0 h.1)
    clear hb
    go_enter Try.func59, Try.ntmps59
    go_wp2_with fail
    refine HC.out.mono ?_
    rintro e w1 ⟨P, q, rfl, hI, hg⟩
    have HG := Lib.hid (Gr.trans B0.out hg)
    clear d0 d1 d2 d3 d4 d5 d6 d7 d8 d9 d10 d11
    obtain ⟨d0, d1, d2, d3, d4, d5, d6, d7, d8, d9, d10, d11⟩ := rn_gr c0.out (by simp) hg
    obtain ⟨g, off, rfl, hgl, v0⟩ := hI 0 o0 rfl
    rw [Nat.add_zero] at v0
    obtain ⟨g1, off1, ee1, -, v1⟩ := hI 1 o1 rfl
    obtain ⟨rfl, rfl⟩ : g = g1 ∧ off = off1 := by simpa using ee1
    clear ee1
    obtain ⟨g2, off2, ee2, -, v2⟩ := hI 2 o2 rfl
    obtain ⟨rfl, rfl⟩ : g = g2 ∧ off = off2 := by simpa using ee2
    clear ee2
    clear hI hg hgl
    go_wp2_with fail
    go_quiet (fail)
    go_wp2_with fail
    go_ret
    exact ⟨by rw [HN.out]; rfl, Below.drewN HG.out _⟩
  have h0 : o0 = 1 := by omega
  have q0 : (o0 == 1) = true := by simp [h0]
  by_cases h1 : o1 ≠ x.w
  ·
    have q1 : (o1 == x.w) = false := by simp [h1]
    have HN := Lib.hid (no_of hb.out fun h => h1 h.2.1)
    clear h0 h1
    clear hb
    go_enter Try.func59, Try.ntmps59
    go_wp2_with fail
    refine HC.out.mono ?_
    rintro e w1 ⟨P, q, rfl, hI, hg⟩
    have HG := Lib.hid (Gr.trans B0.out hg)
    clear d0 d1 d2 d3 d4 d5 d6 d7 d8 d9 d10 d11
    obtain ⟨d0, d1, d2, d3, d4, d5, d6, d7, d8, d9, d10, d11⟩ := rn_gr c0.out (by simp) hg
    obtain ⟨g, off, rfl, hgl, v0⟩ := hI 0 o0 rfl
    rw [Nat.add_zero] at v0
    obtain ⟨g1, off1, ee1, -, v1⟩ := hI 1 o1 rfl
    obtain ⟨rfl, rfl⟩ : g = g1 ∧ off = off1 := by simpa using ee1
    clear ee1
    obtain ⟨g2, off2, ee2, -, v2⟩ := hI 2 o2 rfl
    obtain ⟨rfl, rfl⟩ : g = g2 ∧ off = off2 := by simpa using ee2
    clear ee2
    clear hI hg hgl
    go_wp2_with fail
    go_quiet (fail)
    go_wp2_with fail
    go_ret
    exact ⟨by rw [HN.out]; rfl, Below.drewN HG.out _⟩
  have h1 : o1 = x.w := Classical.byContradiction fun h => absurd h (by assumption)
  have q1 : (o1 == x.w) = true := by simp [h1]
  by_cases h2 : o2 ≠ x.w
  ·
    have q2 : (o2 == x.w) = false := by simp [h2]
    have HN := Lib.hid (no_of hb.out fun h => h2 h.2.2)
    clear h0 h1 h2
    clear hb
    go_enter Try.func59, Try.ntmps59
    go_wp2_with fail
    refine HC.out.mono ?_
    rintro e w1 ⟨P, q, rfl, hI, hg⟩
    have HG := Lib.hid (Gr.trans B0.out hg)
    clear d0 d1 d2 d3 d4 d5 d6 d7 d8 d9 d10 d11
    obtain ⟨d0, d1, d2, d3, d4, d5, d6, d7, d8, d9, d10, d11⟩ := rn_gr c0.out (by simp) hg
    obtain ⟨g, off, rfl, hgl, v0⟩ := hI 0 o0 rfl
    rw [Nat.add_zero] at v0
    obtain ⟨g1, off1, ee1, -, v1⟩ := hI 1 o1 rfl
    obtain ⟨rfl, rfl⟩ : g = g1 ∧ off = off1 := by simpa using ee1
    clear ee1
    obtain ⟨g2, off2, ee2, -, v2⟩ := hI 2 o2 rfl
    obtain ⟨rfl, rfl⟩ : g = g2 ∧ off = off2 := by simpa using ee2
    clear ee2
    clear hI hg hgl
    go_wp2_with fail
    go_quiet (fail)
    go_wp2_with fail
    go_ret
    exact ⟨by rw [HN.out]; rfl, Below.drewN HG.out _⟩
  have h2 : o2 = x.w := Classical.byContradiction fun h => absurd h (by assumption)
  have q2 : (o2 == x.w) = true := by simp [h2]
  ·
    have HN := Lib.hid (hb.out.2 ⟨h0, h1, h2⟩)
    clear h0 h1 h2
    clear hb
    go_enter Try.func59, Try.ntmps59
    go_wp2_with fail
    refine HC.out.mono ?_
    rintro e w1 ⟨P, q, rfl, hI, hg⟩
    have HG := Lib.hid (Gr.trans B0.out hg)
    clear d0 d1 d2 d3 d4 d5 d6 d7 d8 d9 d10 d11
    obtain ⟨d0, d1, d2, d3, d4, d5, d6, d7, d8, d9, d10, d11⟩ := rn_gr c0.out (by simp) hg
    obtain ⟨g, off, rfl, hgl, v0⟩ := hI 0 o0 rfl
    rw [Nat.add_zero] at v0
    obtain ⟨g1, off1, ee1, -, v1⟩ := hI 1 o1 rfl
    obtain ⟨rfl, rfl⟩ : g = g1 ∧ off = off1 := by simpa using ee1
    clear ee1
    obtain ⟨g2, off2, ee2, -, v2⟩ := hI 2 o2 rfl
    obtain ⟨rfl, rfl⟩ : g = g2 ∧ off = off2 := by simpa using ee2
    clear ee2
    clear hI hg hgl
    go_wp2_with fail
    go_quiet (fail)
    go_wp2_with fail
    go_ret
    exact ⟨by rw [HN.out]; rfl, Below.drewN HG.out _⟩
set_option maxHeartbeats 1000000 in
theorem joins_any (x : Nd) (A : Option Addr) (l : List Nd) (c : Nat) (bn bl : Bool) (f : Nat) (w : World) (hl : l.length ≤ 4000) (h : Hid (Nds w w.heap.size A l)) (b : Bool) (hb : Hid (b = true ↔ opd l x 0 + opd l x 1 = x.w)) (h0 : 0 ≤ opd l x 0) (h1 : 0 ≤ opd l x 1) (g0 : opd l x 0 ≤ 16) (g1 : opd l x 1 ≤ 16) :
    Calls Try.prog 60 #[rnV x A l.length c 2 bn bl f] w fun e w' => e = .returned (.bool b) ∧ Gr w w' := by
  have C0 := Lib.hid (rn_new w x A l.length c 2 bn bl f)
  have B0 := Lib.hid (bel_alloc w (.cells (rnC x A l.length c 2 bn bl f) 74))
  have HC := Lib.hid (widths_any x A l c 2 bn bl f (w.alloc (.cells (rnC x A l.length c 2 bn bl f) 74)) (by decide) hl (Lib.hid (h.out.gr B0.out)))
  have c0 := Lib.hid C0.out
  obtain ⟨d0, d1, d2, d3, d4, d5, d6, d7, d8, d9, d10, d11⟩ := C0.out
  obtain ⟨o0, e0⟩ : ∃ o, opd l x 0 = o := ⟨_, rfl⟩
  obtain ⟨o1, e1⟩ : ∃ o, opd l x 1 = o := ⟨_, rfl⟩
  obtain ⟨o2, e2⟩ : ∃ o, opd l x 2 = o := ⟨_, rfl⟩
  unfold opds at HC
  simp only [e0, e1, e2] at HC hb h0 h1 g0 g1
  clear h e0 e1 e2
  by_cases h2 : o0 + o1 = x.w
  ·
    have q0 : (o0 + o1 == x.w) = true := by simp [h2]
    have HN := Lib.hid (hb.out.2 h2)
    clear h2
    clear hb
    go_enter Try.func60, Try.ntmps60
    go_wp2_with fail
    refine HC.out.mono ?_
    rintro e w1 ⟨P, q, rfl, hI, hg⟩
    have HG := Lib.hid (Gr.trans B0.out hg)
    clear d0 d1 d2 d3 d4 d5 d6 d7 d8 d9 d10 d11
    obtain ⟨d0, d1, d2, d3, d4, d5, d6, d7, d8, d9, d10, d11⟩ := rn_gr c0.out (by simp) hg
    obtain ⟨g, off, rfl, hgl, v0⟩ := hI 0 o0 rfl
    rw [Nat.add_zero] at v0
    obtain ⟨g1, off1, ee1, -, v1⟩ := hI 1 o1 rfl
    obtain ⟨rfl, rfl⟩ : g = g1 ∧ off = off1 := by simpa using ee1
    clear ee1
    clear hI hg hgl
    go_wp2_with fail
    go_quiet (fail)
    go_wp2_with fail
    go_ret
    exact ⟨by rw [HN.out]; rfl, Below.drewN HG.out _⟩
  ·
    have q0 : (o0 + o1 == x.w) = false := by simp [h2]
    have HN := Lib.hid (no_of hb.out h2)
    clear h2
    clear hb
    go_enter Try.func60, Try.ntmps60
    go_wp2_with fail
    refine HC.out.mono ?_
    rintro e w1 ⟨P, q, rfl, hI, hg⟩
    have HG := Lib.hid (Gr.trans B0.out hg)
    clear d0 d1 d2 d3 d4 d5 d6 d7 d8 d9 d10 d11
    obtain ⟨d0, d1, d2, d3, d4, d5, d6, d7, d8, d9, d10, d11⟩ := rn_gr c0.out (by simp) hg
    obtain ⟨g, off, rfl, hgl, v0⟩ := hI 0 o0 rfl
    rw [Nat.add_zero] at v0
    obtain ⟨g1, off1, ee1, -, v1⟩ := hI 1 o1 rfl
    obtain ⟨rfl, rfl⟩ : g = g1 ∧ off = off1 := by simpa using ee1
    clear ee1
    clear hI hg hgl
    go_wp2_with fail
    go_quiet (fail)
    go_wp2_with fail
    go_ret
    exact ⟨by rw [HN.out]; rfl, Below.drewN HG.out _⟩
end Go.Proofs.Ytnkifhgkhgialaa
