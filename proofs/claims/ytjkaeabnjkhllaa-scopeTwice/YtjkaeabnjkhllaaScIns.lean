/-
  The checker's instance, WALKED.
-/
import Derived.Test.YtjkaeabnjkhllaaScBnd
namespace Go.Proofs.Ytjkaeabnjkhllaa
open Go.RowKit

theorem modAt_lt : ∀ {ms : List Mo} {s : ByteArray} {n : Nat}, modAt ms s = some n → n < ms.length
  | [], s, n, h => by cases h
  | m :: r, s, n, h => by
    rw [modAt] at h
    split at h
    · cases h
      simp
    · cases hm : modAt r s with
      | none => rw [hm] at h; cases h
      | some j =>
        rw [hm] at h
        have := modAt_lt hm
        cases h
        simp
        omega

set_option maxRecDepth 100000 in
set_option maxHeartbeats 4000000 in
theorem instance_any (ms : List Mo) (i : Nat) (x : It) (cs : List Value) (mA fA : Option Addr) (mn mC fn fC fb tb : Nat) (w : World) (hil : i ≤ maxLen) (hx : Hid (ItAt w x cs)) (hck : Hid (CkAt w ms (.slice mA mn mC) fb (.slice fA fn fC) tb)) :
    Calls Try.prog 57 #[.agg #[.slice mA mn mC, .map (some fb), .slice fA fn fC, .map (some tb)], .int .i64 (i : Nat), .agg cs.toArray] w fun e w' => e = .returned (.int .i64 (instErr ms i x : Nat)) ∧ Gr w w' := by
  unfold maxLen at hil
  obtain ⟨av, bv, ce, ca, ci, hcs, m1, m2, _⟩ := hx.out
  obtain ⟨aA, aC, rfl⟩ := RowC.form m1
  rw [List.length_map] at hcs m1
  obtain ⟨bss, b1, b2, b3⟩ := m2
  obtain ⟨bA, bC, rfl⟩ := b1.form
  rw [b2] at hcs b1
  have HB := Lib.hid (show BindsAt w x.binds (.slice bA x.binds.length bC) from ⟨bss, b1, b2, b3⟩)
  have l1 : x.args.length ≤ maxLen := by have := m1.1; simpa using this
  unfold maxLen at l1
  have HCS := Lib.hid hcs
  clear hcs m1 b1 b2 b3 hx
  go_enter Try.func57, Try.ntmps57
  go_upto_region 1 with fail
  obtain ⟨W, eW, GW, B0, B1⟩ : ∃ W, (w.alloc (.cells #[.slice mA mn mC, .map (some fb), .slice fA fn fC, .map (some tb)] 70)).alloc (.cells cs.toArray 49) = W ∧ Hid (Gr w W) ∧ Hid (W.heap[w.heap.size]? = some (.cells #[.slice mA mn mC, .map (some fb), .slice fA fn fC, .map (some tb)] 70 (0, 0))) ∧ Hid (W.heap[w.heap.size + 1]? = some (.cells cs.toArray 49 (0, 0))) := by
    refine ⟨_, rfl, Lib.hid ((Gr.alloc _ _).trans (Gr.alloc _ _)), Lib.hid ((Gr.alloc _ _).keep (new_at w _)), Lib.hid ?_⟩
    have h := new_at (w.alloc (.cells #[.slice mA mn mC, .map (some fb), .slice fA fn fC, .map (some tb)] 70)) (.cells cs.toArray 49)
    rw [World.size_alloc] at h
    exact h
  rw [eW]
  clear eW
  have x0 : W.cell? ⟨w.heap.size, 0, none⟩ = some (.slice mA mn mC) := by rw [cell_at B0.out]; rfl
  have x1 : W.cell? ⟨w.heap.size, 1, none⟩ = some (.map (some fb)) := by rw [cell_at B0.out]; rfl
  have lt1 : w.heap.size + 1 < W.heap.size := heap_lt B1.out
  obtain ⟨k0, k1, k2, k3, k4, k5, k6, k7, k8⟩ := it9 HCS.out B1.out
  clear k0 k1 k2 k3 k4 k5
  obtain ⟨l, hl1, hl2⟩ := hck.out.first
  have hlk := look_str Try.underlying66 Try.zeroValue3 (hl1.gr GW.out) x.mod true
  rw [hl2] at hlk
  clear hl1 hl2
  rcases hma : modAt ms x.mod with _ | n
  · rw [hma] at hlk
    simp only [Option.map_none, Option.getD_none, Option.isSome_none, if_true] at hlk
    have HE := Lib.hid (show instErr ms i x = 51 by rw [instErr, hma])
    clear hma
    go_wp2_with fail
    go_ret
    exact ⟨by rw [HE.out]; rfl, GW.out⟩
  rw [hma] at hlk
  simp only [Option.map_some, Option.getD_some, Option.isSome_some, if_true, intV] at hlk
  have hnl := modAt_lt hma
  by_cases hin : i ≤ n
  · have hd : (i : Int) ≤ (n : Int) := by omega
    have HE := Lib.hid (show instErr ms i x = 54 by rw [instErr, hma]; simp only []; rw [if_pos hin])
    clear hma hin hnl
    go_wp2_with fail
    go_ret
    exact ⟨by rw [HE.out]; rfl, GW.out⟩
  obtain ⟨m, hm⟩ : ∃ m, ms[n]? = some m := ⟨_, List.getElem?_eq_getElem hnl⟩
  obtain ⟨g, o, pA, pC, qA, qC, iA, iC, rfl, hn, hg, hr, hmo⟩ := mod_cells hck.out.mods hm
  have hmn : (n : Int) < (mn : Int) := by omega
  have hn0 : (0 : Int) ≤ (n : Int) := by omega
  have hd : ¬ ((i : Int) ≤ (n : Int)) := by omega
  have hr' := range_gr hr hg GW.out
  have c0 := hr' 0 _ rfl
  have c1 := hr' 1 _ rfl
  have c2 := hr' 2 _ rfl
  have c3 := hr' 3 _ rfl
  rw [Nat.add_zero] at c0
  obtain ⟨pv, qv, iv, e, q1, q2, _⟩ := hmo
  simp at e
  obtain ⟨rfl, rfl, rfl⟩ := e
  have l2 : m.params.length ≤ maxLen := by have := q1.1; simpa using this
  unfold maxLen at l2
  have HQ := Lib.hid q2
  have HEQ := Lib.hid (show instErr ms i x = if x.args.length ≠ m.params.length then 1 else if boundOk m.ports x.binds then 0 else 53 by rw [instErr, hma]; simp only []; rw [if_neg hin, hm])
  clear hma hin hnl hm hr hr' hn hg q1 q2
  by_cases hal : x.args.length = m.params.length
  case neg =>
    have q : ((x.args.length : Int) != (m.params.length : Int)) = true := by simp; omega
    have HE := Lib.hid (show instErr ms i x = 1 by rw [HEQ.out, if_pos hal])
    clear hal
    go_wp2_with fail
    go_ret
    exact ⟨by rw [HE.out]; rfl, GW.out.trans (Gr.alloc _ _)⟩
  have q : ((x.args.length : Int) != (m.params.length : Int)) = false := by rw [hal]; simp
  have HEB := Lib.hid (show instErr ms i x = if boundOk m.ports x.binds then 0 else 53 by rw [HEQ.out, if_neg (by simpa using hal)])
  have HAL := Lib.hid hal
  clear hal
  have BD := Lib.hid (fun (u : World) (hu : Gr w u) => bound_any m.ports x.binds qA bA qC bC u (Lib.hid (HQ.out.gr hu)) (Lib.hid (HB.out.gr hu)))
  rcases hbo : boundOk m.ports x.binds with _ | _
  all_goals
    rw [hbo] at BD
    have HBO := Lib.hid hbo
    clear hbo
    go_wp2_with (go_at_call 66; refine (BD.out _ (GW.out.trans (Gr.alloc _ _))).mono ?_; rintro e w2 ⟨rfl, hg2⟩; have G2 := Lib.hid hg2; clear hg2)
    go_ret
    exact ⟨by rw [HEB.out, HBO.out]; rfl, (GW.out.trans (Gr.alloc _ _)).trans G2.out⟩
end Go.Proofs.Ytjkaeabnjkhllaa
