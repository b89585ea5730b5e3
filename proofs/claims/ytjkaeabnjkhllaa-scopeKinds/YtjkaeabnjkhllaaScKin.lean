/-
  proofmarklaw05.ScopeKinds, WALKED.
-/
import Derived.Test.YtjkaeabnjkhllaaScHed
import Derived.Test.YtjkaeabnjkhllaaScKdd
import Derived.Test.YtjkaeabnjkhllaaScFis
namespace Go.Proofs.Ytjkaeabnjkhllaa
open Go.RowKit

set_option maxRecDepth 100000 in
set_option maxHeartbeats 8000000 in
theorem kinds_law (m : Mo) (pA qA iA : Option Addr) (pC qC iC : Nat) (s : ByteArray) (w : World) (hsz : s.size ≤ maxLen) (hs : Hid (MoStr m)) (hm : Hid (MoAt w m [.string m.name, .slice pA m.params.length pC, .slice qA m.ports.length qC, .slice iA m.items.length iC])) (hml : Hid (∃ z : Int, w.cell? ⟨0, 0, none⟩ = some (.int .i64 z))) :
    Calls Try.prog 4 #[.agg #[.string m.name, .slice pA m.params.length pC, .slice qA m.ports.length qC, .slice iA m.items.length iC], .string s] w (UpRet w) := by
  unfold maxLen at hsz
  have KD := Lib.hid (fun (u : World) (hu : Gr w u) => Kind_any m pA qA iA pC qC iC s u (Lib.hid (hm.out.gr hu)))
  have RK := Lib.hid (fun (u : World) (hu : Gr w u) => RKind_any m pA qA iA pC qC iC s u (Lib.hid (hm.out.gr hu)))
  go_enter Try.func4, Try.ntmps4
  go_upto_region 1 with fail
  refine wp_name fun V hV => ?_
  have VV := Lib.hid (show V.heap[w.heap.size]? = some (.cells #[.string m.name, .slice pA m.params.length pC, .slice qA m.ports.length qC, .slice iA m.items.length iC] 34 (0, 0)) ∧ Gr w V from by
    rw [hV]
    exact ⟨new_at _ _, Gr.alloc _ _⟩)
  clear hV
  have HD := Lib.hid (Lhead_any V (Lib.hid (by
    obtain ⟨z, hz⟩ := hml.out
    exact ⟨z, gr_cell VV.out.2 (World.block_lt_of_cell? _ _ hz) hz⟩)))
  go_upto_region 2 with (go_at_call 11; refine HD.out.mono ?_; rintro e w1 ⟨rfl, hg⟩; have G1 := Lib.hid hg; clear hg)
  clear HD hml
  have K := Lib.hid (fun (u : World) (hu : Gr V u) => (show u.cell? ⟨w.heap.size, 0, none⟩ = some (.string m.name) ∧ u.cell? ⟨w.heap.size, 1, none⟩ = some (.slice pA m.params.length pC) ∧ u.cell? ⟨w.heap.size, 2, none⟩ = some (.slice qA m.ports.length qC) ∧ u.cell? ⟨w.heap.size, 3, none⟩ = some (.slice iA m.items.length iC) from by
    have h := hu.keep VV.out.1
    refine ⟨?_, ?_, ?_, ?_⟩
    all_goals (rw [cell_at h]; rfl)))
  have FT := Lib.hid (show Calls Try.prog 12 #[.agg #[.slice (some ⟨w1.heap.size, 0, none⟩) 1 1]] (w1.alloc (.cells #[.string m.name, .slice pA m.params.length pC, .slice qA m.ports.length qC, .slice iA m.items.length iC] 34)) (FitsRet (w1.alloc (.cells #[.string m.name, .slice pA m.params.length pC, .slice qA m.ports.length qC, .slice iA m.items.length iC] 34)) [m]) from
    Fits_any [m] (some ⟨w1.heap.size, 0, none⟩) 1 _ (Lib.hid (fun x hx => by obtain rfl := List.mem_singleton.1 hx; exact hs.out)) (Lib.hid ⟨[[.string m.name, .slice pA m.params.length pC, .slice qA m.ports.length qC, .slice iA m.items.length iC]], rowc_block (new_at _ _) rfl (by intro c hc; obtain rfl := List.mem_singleton.1 hc; rfl) rfl (show (1 : Nat) ≤ maxLen by decide), rfl, fun j x hj => by
      cases j with
      | zero =>
        have e : x = m := by simpa using hj.symm
        subst e
        exact ⟨_, rfl, hm.out.gr (VV.out.2.trans (G1.out.trans (Gr.alloc _ _)))⟩
      | succ j => simp at hj⟩))
  obtain ⟨k0, k1, k2, k3⟩ := K.out _ G1.out
  go_upto_region 3 with (go_at_call 12; refine FT.out.mono ?_; rintro e w2 ⟨b, rfl, -, hg⟩; have G2 := Lib.hid (G1.out.trans ((Gr.alloc _ _).trans hg)); clear hg)
  clear FT k0 k1 k2 k3
  have GW := Lib.hid (VV.out.2.trans G2.out)
  cases b
  · go_wp2_with fail
    go_ret
    exact ⟨rfl, GW.out⟩
  by_cases hl : s.size ≤ 60
  · have q0 : ¬ (60 : Int) < (s.size : Int) := by omega
    have q1 : decide ((60 : Int) < (s.size : Int)) = false := decide_eq_false q0
    have q2 : decide (60 < s.size) = false := decide_eq_false (by omega)
    obtain ⟨k0, k1, k2, k3⟩ := K.out _ G2.out
    clear hl q0
    go_upto_region 6 with (go_at_call 16; refine (KD.out _ GW.out).mono ?_; rintro e w3 ⟨rfl, hg⟩; have G3 := Lib.hid (G2.out.trans hg); clear hg)
    clear k0 k1 k2 k3
    obtain ⟨k0, k1, k2, k3⟩ := K.out _ G3.out
    go_upto_region 7 with (go_at_call 17; refine (RK.out _ (VV.out.2.trans G3.out)).mono ?_; rintro e w4 ⟨rfl, hg⟩; have G4 := Lib.hid (G3.out.trans hg); clear hg)
    generalize (kindOf m s).1 = ka
    generalize (kindOf m s).2 = kb
    have e0 : ((ka : Int) == (ka : Int)) = true := by simp
    have e1 : ((kb : Int) == (kb : Int)) = true := by simp
    go_wp2_with fail
    go_ret
    exact ⟨rfl, VV.out.2.trans G4.out⟩
  · have q0 : (60 : Int) < (s.size : Int) := by omega
    have q1 : decide ((60 : Int) < (s.size : Int)) = true := decide_eq_true q0
    have q2 : decide (60 < s.size) = true := decide_eq_true (by omega)
    clear hl q0
    go_wp2_with fail
    go_ret
    exact ⟨rfl, GW.out⟩
end Go.Proofs.Ytjkaeabnjkhllaa
