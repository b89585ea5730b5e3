/-
  THE LAWS OF LAYER 4, WALKED: DimsPlain, DimsWidth, DimsAdds.
-/
import Derived.Test.YtkbfediolicfaaaDoorDimHead
namespace Go.Proofs.YtkbfediolicfaaaDoor
open Go.RowKit
open DimM

theorem fits_iff (n v : Int) : fits n v = true ↔ 0 ≤ n ∧ n ≤ 65535 ∧ 0 ≤ n + v ∧ n + v ≤ 65535 := by simp [fits, and_assoc]
theorem fits_no (n v : Int) (h : ¬ (0 ≤ n ∧ n ≤ 65535 ∧ 0 ≤ n + v ∧ n + v ≤ 65535)) : fits n v = false := by
  rw [← Bool.not_eq_true, fits_iff]; exact h
theorem val_of {s : ByteArray} {n v : Int} {l : Ps} (h : adds s l = some v) (hf : fits n v = true) : val s n l = (n + v, 0) := by unfold val; rw [h]; simp [hf]
theorem val_no {s : ByteArray} {n v : Int} {l : Ps} (h : adds s l = some v) (hf : fits n v = false) : val s n l = (0, 41) := by unfold val; rw [h]; simp [hf]
theorem adds_empty (l : Ps) : adds ⟨#[]⟩ l = some 0 := by simp [adds]
theorem wid_of {s : ByteArray} {n x : Int} {l : Ps} (h : val s n l = (x, 0)) (h1 : 1 ≤ x) (h2 : x ≤ 16) : wid s n l = (x, 0) := by unfold wid; rw [h]; simp [h1, h2]
theorem wid_out {s : ByteArray} {n x : Int} {l : Ps} (h : val s n l = (x, 0)) (h1 : ¬ (1 ≤ x ∧ x ≤ 16)) : wid s n l = (0, 41) := by unfold wid; rw [h]; simp only [if_true]; rw [if_neg h1]
theorem wid_err {s : ByteArray} {n x e : Int} {l : Ps} (h : val s n l = (x, e)) (he : e ≠ 0) : wid s n l = (0, e) := by unfold wid; rw [h]; simp only [if_neg he]

/-- how far the world has come -/
def Sta (w0 w : World) : Prop := Below w0.heap.size w0 w ∧ ErrTy w
theorem Sta.step {w0 w w' : World} (h : Sta w0 w) (hb : Below w.heap.size w w') : Sta w0 w' := ⟨h.1.trans (hb.mono h.1.size), h.2.below hb h.2.pos⟩

set_option maxRecDepth 100000 in
set_option maxHeartbeats 2000000 in
theorem plain_walk (n : Int) (A : Option Addr) (len c : Nat) (ps : Ps) (w : World) (hl : ps.length = len) (hm : len ≤ maxLen) (hP : Hid (Nmd w w.heap.size A ps)) (hF : Hid (Fine ps)) (hg : Hid (ErrTy w)) :
    Calls Tryd.prog 4 #[.int .i64 n, .slice A len c] w fun e w' => e = .returned (.bool true) ∧ Below w.heap.size w w' := by
  subst hl
  unfold maxLen at hm
  by_cases hlen : 100 < ps.length
  · go_enter Tryd.func4, Tryd.ntmps4
    go_wp2_with fail
    refine (head_any w hg).mono ?_
    rintro e w1 ⟨rfl, hb⟩
    have H1 := Lib.hid hb
    clear hb
    go_wp2
    go_ret
    exact ⟨rfl, H1.out⟩
  go_enter Tryd.func4, Tryd.ntmps4
  go_wp2_with fail
  refine (head_any w hg).mono ?_
  rintro e w1 ⟨rfl, hb⟩
  have S1 := Lib.hid (Sta.step ⟨Below.refl _ _, hg.out⟩ hb)
  have P1 := Lib.hid ((hP.out.below hb).more hb.size)
  clear hb
  go_wp2_with fail
  refine (Env_any A c ps w1 (by omega) P1 hF).mono ?_
  rintro e w2 ⟨A1, c1, A2, c2, rfl, hE, hb⟩
  have S2 := Lib.hid (S1.out.step hb)
  have E2 := Lib.hid hE
  clear hb hE
  rcases Classical.em (n < 0 ∨ 65535 < n) with hn | hn
  · have hv := val_no (adds_empty ps) (fits_no n 0 (by omega))
    have HV := Lib.hid hv
    have HW := Lib.hid (wid_err hv (by omega))
    clear hv
    go_wp2_with fail
    refine (Value_is E2.out S2.out.2 rfl HV.out).mono ?_
    rintro e w3 ⟨rfl, hb⟩
    have S3 := Lib.hid (S2.out.step hb)
    have E3 := Lib.hid (E2.out.below hb)
    clear hb
    go_wp2_with fail
    refine (Width_is E3.out S3.out.2 rfl HW.out).mono ?_
    rintro e w4 ⟨rfl, hb⟩
    have S4 := Lib.hid (S3.out.step hb)
    clear hb
    rcases hn with hn | hn
    · go_wp2
      go_ret
      exact ⟨rfl, S4.out.1⟩
    · have hn2 : ¬ n < 0 := by omega
      go_wp2
      go_ret
      exact ⟨rfl, S4.out.1⟩
  · have hv : val ⟨#[]⟩ n ps = (n, 0) := by
      have := val_of (adds_empty ps) ((fits_iff n 0).2 (by omega))
      rw [Int.add_zero] at this
      exact this
    have HV := Lib.hid hv
    clear hv
    have hn0 : ¬ n < 0 := by omega
    have hn1 : ¬ 65535 < n := by omega
    clear hn
    go_wp2_with fail
    refine (Value_is E2.out S2.out.2 rfl HV.out).mono ?_
    rintro e w3 ⟨rfl, hb⟩
    have S3 := Lib.hid (S2.out.step hb)
    have E3 := Lib.hid (E2.out.below hb)
    clear hb
    by_cases hx : 1 ≤ n ∧ n ≤ 16
    · obtain ⟨h1, h2⟩ := hx
      have HW := Lib.hid (wid_of HV.out h1 h2)
      have h3 : ¬ n < 1 := by omega
      have h4 : ¬ 16 < n := by omega
      go_wp2_with fail
      refine (Width_is E3.out S3.out.2 rfl HW.out).mono ?_
      rintro e w4 ⟨rfl, hb⟩
      have S4 := Lib.hid (S3.out.step hb)
      clear hb
      go_wp2
      go_ret
      exact ⟨rfl, S4.out.1⟩
    · have HW := Lib.hid (wid_out HV.out hx)
      go_wp2_with fail
      refine (Width_is E3.out S3.out.2 rfl HW.out).mono ?_
      rintro e w4 ⟨rfl, hb⟩
      have S4 := Lib.hid (S3.out.step hb)
      clear hb
      have hx' : n < 1 ∨ (¬ n < 1 ∧ 16 < n) := by omega
      clear hx
      rcases hx' with h1 | ⟨h1, h2⟩
      · go_wp2
        go_ret
        exact ⟨rfl, S4.out.1⟩
      · go_wp2
        go_ret
        exact ⟨rfl, S4.out.1⟩
set_option maxRecDepth 100000 in
set_option maxHeartbeats 2000000 in
theorem width_walk (s : ByteArray) (n : Int) (A : Option Addr) (len c : Nat) (ps : Ps) (w : World) (hl : ps.length = len) (hm : len ≤ maxLen) (hP : Hid (Nmd w w.heap.size A ps)) (hF : Hid (Fine ps)) (hg : Hid (ErrTy w)) :
    Calls Tryd.prog 8 #[.agg #[.string s, .int .i64 n], .slice A len c] w fun e w' => e = .returned (.bool true) ∧ Below w.heap.size w w' := by
  subst hl
  unfold maxLen at hm
  have hb0 : Below w.heap.size w (w.alloc (.cells #[.string s, .int .i64 n] 23)) := (Below.refl _ _).alloc (Nat.le_refl _) _
  have S0 := Lib.hid (Sta.step ⟨Below.refl _ _, hg.out⟩ hb0)
  have P0 := Lib.hid ((hP.out.below hb0).more hb0.size)
  clear hb0
  by_cases hlen : 100 < ps.length
  · go_enter Tryd.func8, Tryd.ntmps8
    go_wp2_with fail
    refine (head_any _ (Lib.hid S0.out.2)).mono ?_
    rintro e w1 ⟨rfl, hb⟩
    have S1 := Lib.hid (S0.out.step hb)
    clear hb
    go_wp2
    go_ret
    exact ⟨rfl, S1.out.1⟩
  go_enter Tryd.func8, Tryd.ntmps8
  go_wp2_with fail
  refine (head_any _ (Lib.hid S0.out.2)).mono ?_
  rintro e w1 ⟨rfl, hb⟩
  have d0 : w1.cell? ⟨w.heap.size, 0, none⟩ = some (.string s) := by rw [hb.cell (p := ⟨w.heap.size, 0, none⟩) (by simp)]; simp
  have d1 : w1.cell? ⟨w.heap.size, 1, none⟩ = some (.int .i64 n) := by rw [hb.cell (p := ⟨w.heap.size, 1, none⟩) (by simp)]; simp
  have hs1 : w.heap.size < w1.heap.size := by have := hb.size; simp at this; omega
  have S1 := Lib.hid (S0.out.step hb)
  have P1 := Lib.hid ((P0.out.below hb).more hb.size)
  clear hb
  go_wp2_with fail
  refine (Env_any A c ps w1 (by omega) P1 hF).mono ?_
  rintro e w2 ⟨A1, c1, A2, c2, rfl, hE, hb⟩
  have S2 := Lib.hid (S1.out.step hb)
  have E2 := Lib.hid hE
  have f0 := (hb.cell (p := ⟨w.heap.size, 0, none⟩) hs1).trans d0
  have f1 := (hb.cell (p := ⟨w.heap.size, 1, none⟩) hs1).trans d1
  have hs2 : w.heap.size < w2.heap.size := by have := hb.size; omega
  clear hb hE d0 d1
  rcases hv : val s n ps with ⟨x, ev⟩
  have HV := Lib.hid hv
  clear hv
  go_wp2_with fail
  refine (Value_is E2.out S2.out.2 rfl HV.out).mono ?_
  rintro e w3 ⟨rfl, hb⟩
  have S3 := Lib.hid (S2.out.step hb)
  have E3 := Lib.hid (E2.out.below hb)
  have g0 := (hb.cell (p := ⟨w.heap.size, 0, none⟩) hs2).trans f0
  have g1 := (hb.cell (p := ⟨w.heap.size, 1, none⟩) hs2).trans f1
  clear hb f0 f1
  by_cases he : ev = 0
  · subst he
    by_cases hx : 1 ≤ x ∧ x ≤ 16
    · obtain ⟨h1, h2⟩ := hx
      have HW := Lib.hid (wid_of HV.out h1 h2)
      have h3 : ¬ x < 1 := by omega
      have h4 : ¬ 16 < x := by omega
      go_wp2_with fail
      refine (Width_is E3.out S3.out.2 rfl HW.out).mono ?_
      rintro e w4 ⟨rfl, hb⟩
      have S4 := Lib.hid (S3.out.step hb)
      clear hb
      go_wp2
      go_ret
      exact ⟨rfl, S4.out.1⟩
    · have HW := Lib.hid (wid_out HV.out hx)
      go_wp2_with fail
      refine (Width_is E3.out S3.out.2 rfl HW.out).mono ?_
      rintro e w4 ⟨rfl, hb⟩
      have S4 := Lib.hid (S3.out.step hb)
      clear hb
      have hx' : x < 1 ∨ (¬ x < 1 ∧ 16 < x) := by omega
      clear hx
      rcases hx' with h1 | ⟨h1, h2⟩
      · go_wp2
        go_ret
        exact ⟨rfl, S4.out.1⟩
      · go_wp2
        go_ret
        exact ⟨rfl, S4.out.1⟩
  · have HW := Lib.hid (wid_err HV.out he)
    have he1 : (ev != 0) = true := by simpa using he
    have he2 : (ev == 0) = false := by simpa using he
    have he3 : (ev == ev) = true := by simp
    go_wp2_with fail
    refine (Width_is E3.out S3.out.2 rfl HW.out).mono ?_
    rintro e w4 ⟨rfl, hb⟩
    have S4 := Lib.hid (S3.out.step hb)
    clear hb
    go_wp2
    go_ret
    exact ⟨rfl, S4.out.1⟩
end Go.Proofs.YtkbfediolicfaaaDoor
