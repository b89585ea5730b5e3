/-
  A NODE: right, WALKED.
-/
import Derived.Test.YtnkifhgkhgialaaNCut
namespace Go.Proofs.Ytnkifhgkhgialaa
open Go.RowKit
open NetM

set_option maxRecDepth 100000 in
set_option maxHeartbeats 4000000 in
theorem right_walk (x : Nd) (A : Option Addr) (l : List Nd) (c k : Nat) (bn bl : Bool) (f : Nat) (w : World) (hk : k ≤ 3) (hl : l.length ≤ 4000) (h : Hid (Nds w w.heap.size A l)) (br bb bf b : Bool)
    (hr : br = true ↔ NReach l x k) (hbb : bb = true ↔ NBare x bn bl)
    (hf : Hid (1 ≤ x.w → x.w ≤ 16 → NReach l x k → ∀ u, Nds u u.heap.size A l → Calls Try.prog f #[rnV x A l.length c k bn bl f] u fun e w' => e = .returned (.bool bf) ∧ Gr u w'))
    (hfs : f = 56 ∨ f = 57 ∨ f = 58 ∨ f = 59 ∨ f = 60 ∨ f = 61 ∨ f = 62) (hb : b = (decide (1 ≤ x.w) && decide (x.w ≤ 16) && br && bb && bf)) :
    Calls Try.prog 44 #[rnV x A l.length c k bn bl f] w fun e w' => e = .returned (.bool b) ∧ Gr w w' := by
  have C0 := Lib.hid (rn_new w x A l.length c k bn bl f)
  have B0 := Lib.hid (bel_alloc w (.cells (rnC x A l.length c k bn bl f) 74))
  have RE := Lib.hid (fun (u : World) (hu : Gr w u) => reaches_any x A l c k bn bl f u hk hl (Lib.hid (h.out.gr hu)) br (Lib.hid hr))
  have BA := Lib.hid (fun (u : World) => bare_any x A l.length c k bn bl f u bb hbb)
  obtain ⟨d0, d1, d2, d3, d4, d5, d6, d7, d8, d9, d10, d11⟩ := C0.out
  by_cases h1 : ¬ 1 ≤ x.w
  · have q : decide (1 ≤ x.w) = false := by simpa using h1
    rw [q] at hb
    subst hb
    clear h1 hf hr hbb
    go_enter Try.func44, Try.ntmps44
    go_wp2_with fail
    go_ret
    exact ⟨rfl, B0.out⟩
  have h1 : 1 ≤ x.w := by omega
  have q1 : decide (1 ≤ x.w) = true := by simpa using h1
  by_cases h2 : ¬ x.w ≤ 16
  · have q : decide (x.w ≤ 16) = false := by simpa using h2
    rw [q1, q] at hb
    subst hb
    clear h2 hf hr hbb
    go_enter Try.func44, Try.ntmps44
    go_wp2_with fail
    go_ret
    exact ⟨rfl, B0.out⟩
  have h2 : x.w ≤ 16 := by omega
  have q2 : decide (x.w ≤ 16) = true := by simpa using h2
  rw [q1, q2] at hb
  cases br with
  | false =>
    subst hb
    clear hf hr hbb hfs
    go_enter Try.func44, Try.ntmps44
    go_wp2_with fail
    refine (RE.out _ B0.out).mono ?_
    rintro e w1 ⟨rfl, hg⟩
    have HG := Lib.hid (Gr.trans B0.out hg)
    clear hg d0 d1 d2 d3 d4 d5 d6 d7 d8 d9 d10 d11
    go_wp2_with fail
    go_ret
    exact ⟨rfl, HG.out⟩
  | true =>
    have HF := Lib.hid (hf.out h1 h2 (hr.1 rfl))
    cases bb with
    | false =>
      subst hb
      clear hf hr hbb hfs
      go_enter Try.func44, Try.ntmps44
      go_wp2_with fail
      refine (RE.out _ B0.out).mono ?_
      rintro e w1 ⟨rfl, hg⟩
      have HG := Lib.hid (Gr.trans B0.out hg)
      clear d0 d1 d2 d3 d4 d5 d6 d7 d8 d9 d10 d11
      obtain ⟨d0, d1, d2, d3, d4, d5, d6, d7, d8, d9, d10, d11⟩ := rn_gr C0.out (by simp) hg
      clear hg
      go_wp2_with fail
      refine (BA.out _).mono ?_
      rintro e w2 ⟨rfl, hg⟩
      have HG2 := Lib.hid (Gr.trans HG.out hg)
      clear hg d0 d1 d2 d3 d4 d5 d6 d7 d8 d9 d10 d11
      go_wp2_with fail
      go_ret
      exact ⟨rfl, HG2.out⟩
    | true =>
      replace hb : b = bf := by simpa using hb
      subst hb
      clear hf hr hbb
      rcases hfs with rfl | rfl | rfl | rfl | rfl | rfl | rfl
      all_goals
        go_enter Try.func44, Try.ntmps44
        go_wp2_with fail
        refine (RE.out _ B0.out).mono ?_
        rintro e w1 ⟨rfl, hg⟩
        have HG := Lib.hid (Gr.trans B0.out hg)
        have HK := Lib.hid hg
        clear d0 d1 d2 d3 d4 d5 d6 d7 d8 d9 d10 d11
        obtain ⟨d0, d1, d2, d3, d4, d5, d6, d7, d8, d9, d10, d11⟩ := rn_gr C0.out (by simp) hg
        clear hg
        go_wp2_with fail
        refine (BA.out _).mono ?_
        rintro e w2 ⟨rfl, hg⟩
        have HG2 := Lib.hid (Gr.trans HG.out hg)
        clear d0 d1 d2 d3 d4 d5 d6 d7 d8 d9 d10 d11
        obtain ⟨d0, d1, d2, d3, d4, d5, d6, d7, d8, d9, d10, d11⟩ := rn_gr C0.out (by simp) (Gr.trans HK.out hg)
        clear hg
        go_wp2_with fail
        refine (HF.out _ (h.out.gr HG2.out)).mono ?_
        rintro e w3 ⟨rfl, hg⟩
        have HG3 := Lib.hid (Gr.trans HG2.out hg)
        clear hg d0 d1 d2 d3 d4 d5 d6 d7 d8 d9 d10 d11
        go_wp2_with fail
        go_ret
        exact ⟨rfl, HG3.out⟩
end Go.Proofs.Ytnkifhgkhgialaa
