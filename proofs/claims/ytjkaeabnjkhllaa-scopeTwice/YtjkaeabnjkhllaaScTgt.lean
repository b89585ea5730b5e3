/-
  The checker's target, WALKED.
-/
import Derived.Test.YtjkaeabnjkhllaaScIns
namespace Go.Proofs.Ytjkaeabnjkhllaa
open Go.RowKit

set_option maxRecDepth 100000 in
set_option maxHeartbeats 4000000 in
theorem target_any (ms : List Mo) (i : Nat) (m : Mo) (x : It) (cs : List Value) (mA fA : Option Addr) (mn mC fn fC fb tb : Nat) (w : World) (hil : i ≤ maxLen) (hm : Hid (ms[i]? = some m)) (hx : Hid (ItAt w x cs)) (hck : Hid (CkAt w ms (.slice mA mn mC) fb (.slice fA fn fC) tb)) :
    Calls Try.prog 42 #[.agg #[.slice mA mn mC, .map (some fb), .slice fA fn fC, .map (some tb)], .int .i64 (i : Nat), .agg cs.toArray] w fun e w' => e = .returned (.int .i64 (targetErr ms i m x : Nat)) ∧ Gr w w' := by
  obtain ⟨A, n, c, g, o, fg, hfv, rfl, hin, hnn, hg, cf, hcall⟩ := hck.out.find hm.out
  injection hfv with e1 e2 e3
  subst e1 e2 e3
  have HC := Lib.hid hcall
  obtain ⟨av, bv, ce, ca, ci, hcs, _⟩ := hx.out
  have HCS := Lib.hid hcs
  have HS := Lib.hid (show (Try.prog.info? 49).map (·.size) = some cs.length by rw [size49, it_len hx.out])
  clear hcs hcall hnn
  have hi1 : (i : Int) < (fn : Int) := by omega
  have hi0 : (0 : Int) ≤ (i : Int) := by omega
  go_enter Try.func42, Try.ntmps42
  go_upto_region 1 with fail
  obtain ⟨W, eW, GW, B0, B1⟩ : ∃ W, (w.alloc (.cells #[.slice mA mn mC, .map (some fb), .slice (some ⟨g, o, none⟩) fn fC, .map (some tb)] 70)).alloc (.cells cs.toArray 49) = W ∧ Hid (Gr w W) ∧ Hid (W.heap[w.heap.size]? = some (.cells #[.slice mA mn mC, .map (some fb), .slice (some ⟨g, o, none⟩) fn fC, .map (some tb)] 70 (0, 0))) ∧ Hid (W.heap[w.heap.size + 1]? = some (.cells cs.toArray 49 (0, 0))) := by
    refine ⟨_, rfl, Lib.hid ((Gr.alloc _ _).trans (Gr.alloc _ _)), Lib.hid ((Gr.alloc _ _).keep (new_at w _)), Lib.hid ?_⟩
    have h := new_at (w.alloc (.cells #[.slice mA mn mC, .map (some fb), .slice (some ⟨g, o, none⟩) fn fC, .map (some tb)] 70)) (.cells cs.toArray 49)
    rw [World.size_alloc] at h
    exact h
  rw [eW]
  clear eW
  have x0 : W.cell? ⟨w.heap.size, 0, none⟩ = some (.slice mA mn mC) := by rw [cell_at B0.out]; rfl
  have x1 : W.cell? ⟨w.heap.size, 1, none⟩ = some (.map (some fb)) := by rw [cell_at B0.out]; rfl
  have x2 : W.cell? ⟨w.heap.size, 2, none⟩ = some (.slice (some ⟨g, o, none⟩) fn fC) := by rw [cell_at B0.out]; rfl
  have x3 : W.cell? ⟨w.heap.size, 3, none⟩ = some (.map (some tb)) := by rw [cell_at B0.out]; rfl
  have f0 := gr_cell GW.out hg cf
  obtain ⟨k0, k1, k2, k3, k4, k5, k6, k7, k8⟩ := it9 HCS.out B1.out
  clear k2 k3 k4 k5 k6 k7 k8 cf hg
  have HR := Lib.hid (range_of B1.out)
  have II := Lib.hid (instance_any ms i x cs mA (some ⟨g, o, none⟩) mn mC fn fC fb tb W hil (Lib.hid (hx.out.gr GW.out)) (Lib.hid (hck.out.gr GW.out)))
  by_cases h1 : x.kind = 1
  · have HE := Lib.hid (show targetErr ms i m x = 0 by simp [targetErr, h1])
    rw [h1] at k0
    clear h1 II
    go_wp2_with fail
    go_ret
    exact ⟨by rw [HE.out]; rfl, GW.out⟩
  have q1 : (x.kind == 1) = false := by simpa using h1
  by_cases h2 : x.kind = 2
  · have HE := Lib.hid (show targetErr ms i m x = 0 by simp [targetErr, h2])
    rw [h2] at k0
    clear h2 II
    go_wp2_with fail
    go_ret
    exact ⟨by rw [HE.out]; rfl, GW.out⟩
  have q2 : (x.kind == 2) = false := by simpa using h2
  by_cases h5 : x.kind = 5
  · have HE := Lib.hid (show targetErr ms i m x = 0 by simp [targetErr, h5])
    rw [h5] at k0
    clear h5 II
    go_wp2_with fail
    go_ret
    exact ⟨by rw [HE.out]; rfl, GW.out⟩
  have q5 : (x.kind == 5) = false := by simpa using h5
  by_cases h8 : x.kind = 8
  · have HE := Lib.hid (show targetErr ms i m x = 0 by simp [targetErr, h8])
    rw [h8] at k0
    clear h8 II
    go_wp2_with fail
    go_ret
    exact ⟨by rw [HE.out]; rfl, GW.out⟩
  have q8 : (x.kind == 8) = false := by simpa using h8
  by_cases h9 : x.kind = 9
  · have HE := Lib.hid (show targetErr ms i m x = 0 by simp [targetErr, h9])
    rw [h9] at k0
    clear h9 II
    go_wp2_with fail
    go_ret
    exact ⟨by rw [HE.out]; rfl, GW.out⟩
  have q9 : (x.kind == 9) = false := by simpa using h9
  by_cases h10 : x.kind = 10
  · have HE := Lib.hid (show targetErr ms i m x = 0 by simp [targetErr, h10])
    rw [h10] at k0
    clear h10 II
    go_wp2_with fail
    go_ret
    exact ⟨by rw [HE.out]; rfl, GW.out⟩
  have q10 : (x.kind == 10) = false := by simpa using h10
  by_cases h7 : x.kind = 7
  · have HE := Lib.hid (show targetErr ms i m x = instErr ms i x by simp [targetErr, h7])
    rw [h7] at k0
    clear h7
    go_wp2_with (first
      | (refine wpList_load_mid (by rfl) 49 _ rfl (w.heap.size + 1) 0 rfl cs _ HR.out Try.underlying49 rfl HS.out ?_)
      | (go_at_call 57; (with_reducible refine II.out.mono ?_); rintro e w2 ⟨rfl, hg2⟩; have G2 := Lib.hid hg2; clear hg2))
    go_ret
    exact ⟨by rw [HE.out]; rfl, GW.out.trans G2.out⟩
  have q7 : (x.kind == 7) = false := by simpa using h7
  by_cases h3 : x.kind = 3
  · have HE := Lib.hid (show targetErr ms i m x = wanted (kindOf m x.name).1 [5] by simp [targetErr, h3])
    rw [h3] at k0
    clear h3 II 
    have WN := Lib.hid (fun (u : World) (hu : u.heap[u.heap.size - 1]? = some (.cells #[.int .i64 5] 3 (0, 0))) => wanted_any (kindOf m x.name).1 (kindOf m x.name).2 (some ⟨u.heap.size - 1, 0, none⟩) 1 [5] u (by simp) (Lib.hid (fun u' hg i0 n0 hn => by
      have : i0 = 0 := by
        rcases Nat.eq_zero_or_pos i0 with h | h
        · exact h
        · rw [List.getElem?_eq_none (by simp; omega)] at hn; cases hn
      subst this
      obtain rfl : 5 = n0 := by simpa using hn
      exact ⟨_, _, rfl, by rw [cell_at (hg.keep hu)]; rfl⟩)))
    go_wp2_with (first
      | (go_at_call 54; (with_reducible refine (HC.out W x.name GW.out).mono ?_); rintro e w2 ⟨rfl, hg2⟩; have G2 := Lib.hid hg2; clear hg2; have WW := Lib.hid (show Calls Try.prog 58 #[.agg #[.int .i64 ((kindOf m x.name).1 : Nat), .int .i64 ((kindOf m x.name).2 : Nat)], .slice (some ⟨w2.heap.size, 0, none⟩) 1 1] (w2.alloc (.cells #[.int .i64 5] 3)) (fun e w' => e = .returned (.int .i64 (wanted (kindOf m x.name).1 [5] : Nat)) ∧ Gr w2 w') from (by have h := WN.out (w2.alloc (.cells #[.int .i64 5] 3)) (by rw [World.size_alloc, Nat.add_sub_cancel]; exact new_at _ _); rw [World.size_alloc, Nat.add_sub_cancel] at h; exact h.mono fun e w' hh => ⟨hh.1, (Gr.alloc _ _).trans hh.2⟩)))
      | (go_at_call 58; (with_reducible refine WW.out.mono ?_); rintro e w3 ⟨rfl, hg3⟩; have G3 := Lib.hid hg3; clear hg3))
    go_ret
    exact ⟨by rw [HE.out]; rfl, (GW.out.trans G2.out).trans G3.out⟩
  have q3 : (x.kind == 3) = false := by simpa using h3
  by_cases h4 : x.kind = 4
  · have HE := Lib.hid (show targetErr ms i m x = wanted (kindOf m x.name).1 [3] by simp [targetErr, h4])
    rw [h4] at k0
    clear h4 II 
    have WN := Lib.hid (fun (u : World) (hu : u.heap[u.heap.size - 1]? = some (.cells #[.int .i64 3] 3 (0, 0))) => wanted_any (kindOf m x.name).1 (kindOf m x.name).2 (some ⟨u.heap.size - 1, 0, none⟩) 1 [3] u (by simp) (Lib.hid (fun u' hg i0 n0 hn => by
      have : i0 = 0 := by
        rcases Nat.eq_zero_or_pos i0 with h | h
        · exact h
        · rw [List.getElem?_eq_none (by simp; omega)] at hn; cases hn
      subst this
      obtain rfl : 3 = n0 := by simpa using hn
      exact ⟨_, _, rfl, by rw [cell_at (hg.keep hu)]; rfl⟩)))
    go_wp2_with (first
      | (go_at_call 54; (with_reducible refine (HC.out W x.name GW.out).mono ?_); rintro e w2 ⟨rfl, hg2⟩; have G2 := Lib.hid hg2; clear hg2; have WW := Lib.hid (show Calls Try.prog 58 #[.agg #[.int .i64 ((kindOf m x.name).1 : Nat), .int .i64 ((kindOf m x.name).2 : Nat)], .slice (some ⟨w2.heap.size, 0, none⟩) 1 1] (w2.alloc (.cells #[.int .i64 3] 3)) (fun e w' => e = .returned (.int .i64 (wanted (kindOf m x.name).1 [3] : Nat)) ∧ Gr w2 w') from (by have h := WN.out (w2.alloc (.cells #[.int .i64 3] 3)) (by rw [World.size_alloc, Nat.add_sub_cancel]; exact new_at _ _); rw [World.size_alloc, Nat.add_sub_cancel] at h; exact h.mono fun e w' hh => ⟨hh.1, (Gr.alloc _ _).trans hh.2⟩)))
      | (go_at_call 58; (with_reducible refine WW.out.mono ?_); rintro e w3 ⟨rfl, hg3⟩; have G3 := Lib.hid hg3; clear hg3))
    go_ret
    exact ⟨by rw [HE.out]; rfl, (GW.out.trans G2.out).trans G3.out⟩
  have q4 : (x.kind == 4) = false := by simpa using h4
  by_cases h6 : x.kind = 6
  · have HE := Lib.hid (show targetErr ms i m x = wanted (kindOf m x.name).1 [6] by simp [targetErr, h6])
    rw [h6] at k0
    clear h6 II 
    have WN := Lib.hid (fun (u : World) (hu : u.heap[u.heap.size - 1]? = some (.cells #[.int .i64 6] 3 (0, 0))) => wanted_any (kindOf m x.name).1 (kindOf m x.name).2 (some ⟨u.heap.size - 1, 0, none⟩) 1 [6] u (by simp) (Lib.hid (fun u' hg i0 n0 hn => by
      have : i0 = 0 := by
        rcases Nat.eq_zero_or_pos i0 with h | h
        · exact h
        · rw [List.getElem?_eq_none (by simp; omega)] at hn; cases hn
      subst this
      obtain rfl : 6 = n0 := by simpa using hn
      exact ⟨_, _, rfl, by rw [cell_at (hg.keep hu)]; rfl⟩)))
    go_wp2_with (first
      | (go_at_call 54; (with_reducible refine (HC.out W x.name GW.out).mono ?_); rintro e w2 ⟨rfl, hg2⟩; have G2 := Lib.hid hg2; clear hg2; have WW := Lib.hid (show Calls Try.prog 58 #[.agg #[.int .i64 ((kindOf m x.name).1 : Nat), .int .i64 ((kindOf m x.name).2 : Nat)], .slice (some ⟨w2.heap.size, 0, none⟩) 1 1] (w2.alloc (.cells #[.int .i64 6] 3)) (fun e w' => e = .returned (.int .i64 (wanted (kindOf m x.name).1 [6] : Nat)) ∧ Gr w2 w') from (by have h := WN.out (w2.alloc (.cells #[.int .i64 6] 3)) (by rw [World.size_alloc, Nat.add_sub_cancel]; exact new_at _ _); rw [World.size_alloc, Nat.add_sub_cancel] at h; exact h.mono fun e w' hh => ⟨hh.1, (Gr.alloc _ _).trans hh.2⟩)))
      | (go_at_call 58; (with_reducible refine WW.out.mono ?_); rintro e w3 ⟨rfl, hg3⟩; have G3 := Lib.hid hg3; clear hg3))
    go_ret
    exact ⟨by rw [HE.out]; rfl, (GW.out.trans G2.out).trans G3.out⟩
  have q6 : (x.kind == 6) = false := by simpa using h6
  have HE := Lib.hid (show targetErr ms i m x = 52 by simp [targetErr, h1, h2, h3, h4, h5, h6, h7, h8, h9, h10])
  clear II
  go_wp2_with fail
  go_ret
  exact ⟨by rw [HE.out]; rfl, GW.out⟩
end Go.Proofs.Ytjkaeabnjkhllaa
