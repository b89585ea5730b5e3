/-
  lacksParam, headTwice, repeats, WALKED.
-/
import Derived.Test.YtjkaeabnjkhllaaScChk
namespace Go.Proofs.Ytjkaeabnjkhllaa
open Go.RowKit

set_option maxRecDepth 100000 in
set_option maxHeartbeats 2000000 in
theorem lacksParam_any (ms : List Mo) (i : Nat) (m : Mo) (ds : List Dm) (mA fA A : Option Addr) (mn mC fn fC c fb tb : Nat) (w : World) (hm : Hid (ms[i]? = some m)) (hck : Hid (CkAt w ms (.slice mA mn mC) fb (.slice fA fn fC) tb)) (hr : Hid (RowC w 2 (.slice A ds.length c) (ds.map dmCells))) :
    Calls Try.prog 39 #[.agg #[.slice mA mn mC, .map (some fb), .slice fA fn fC, .map (some tb)], .int .i64 (i : Nat), .slice A ds.length c] w fun e w' => e = .returned (.bool (ds.any (lacks m))) ∧ Gr w w' := by
  have hmf : ∀ (fn : Fn) (first cap : Array Value) (w : World), (Instr.makeFunc fn first cap).run Try.prog w = .ok (.func fn first cap) w := fun _ _ _ _ => rfl
  go_enter Try.func39, Try.ntmps39
  go_upto_region 1 with fail
  obtain ⟨W, eW, GW, C0, C1⟩ : ∃ W, (w.alloc (.cells #[.slice mA mn mC, .map (some fb), .slice fA fn fC, .map (some tb)] 70)).alloc (.cells #[.int .i64 (i : Nat)] 3) = W ∧ Hid (Gr w W) ∧ Hid (W.cell? ⟨w.heap.size, 2, none⟩ = some (.slice fA fn fC)) ∧ Hid (W.cell? ⟨w.heap.size + 1, 0, none⟩ = some (.int .i64 (i : Nat))) := by
    refine ⟨_, rfl, Lib.hid ((Gr.alloc _ _).trans (Gr.alloc _ _)), Lib.hid ?_, Lib.hid ?_⟩
    · rw [cell_at ((Gr.alloc _ _).keep (new_at w _))]
      rfl
    · have h := new_at (w.alloc (.cells #[.slice mA mn mC, .map (some fb), .slice fA fn fC, .map (some tb)] 70)) (.cells #[.int .i64 (i : Nat)] 3)
      rw [World.size_alloc] at h
      rw [cell_at h]
      rfl
  rw [eW]
  clear eW
  have CF := Lib.hid (ContainsFunc_any (lacks m) ds A c w.heap.size (w.heap.size + 1) W (Lib.hid (hr.out.gr GW.out)) (Lib.hid (fun u d hu => lacks1_any ms i m d w.heap.size (w.heap.size + 1) _ _ fb tb u hm (Lib.hid (hck.out.gr (GW.out.trans hu))) (Lib.hid (gr_cell hu (World.block_lt_of_cell? _ _ C0.out) C0.out)) (Lib.hid (gr_cell hu (World.block_lt_of_cell? _ _ C1.out) C1.out)))))
  go_wp2_with (go_at_call 55; refine CF.out.mono ?_; rintro e w2 ⟨rfl, hg⟩; have G2 := Lib.hid hg; clear hg)
  go_ret
  exact ⟨rfl, GW.out.trans G2.out⟩
end Go.Proofs.Ytjkaeabnjkhllaa
