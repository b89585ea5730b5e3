/-
  The checker's itself, WALKED, ref's contract being given.
-/
import Derived.Test.YtjkaeabnjkhllaaScTgt
namespace Go.Proofs.Ytjkaeabnjkhllaa
open Go.RowKit

/-- wanted, of one kind in a block of its own -/
theorem wanted_one (k at_ v b : Nat) (u : World) (hu : u.heap[b]? = some (.cells #[.int .i64 (v : Nat)] 3 (0, 0))) :
    Calls Try.prog 58 #[.agg #[.int .i64 (k : Nat), .int .i64 (at_ : Nat)], .slice (some ⟨b, 0, none⟩) 1 1] u fun e w' => e = .returned (.int .i64 (wanted k [v] : Nat)) ∧ Gr u w' :=
  wanted_any k at_ (some ⟨b, 0, none⟩) 1 [v] u (by simp) (Lib.hid (fun u' hg i0 n0 hn => by
    have : i0 = 0 := by
      rcases Nat.eq_zero_or_pos i0 with h | h
      · exact h
      · rw [List.getElem?_eq_none (by simp; omega)] at hn; cases hn
    subst this
    obtain rfl : v = n0 := by simpa using hn
    exact ⟨_, _, rfl, by rw [cell_at (hg.keep hu)]; rfl⟩))
/-- two numbers in a block of their own -/
theorem two_row {w : World} (a b : Dm) : RowC (w.alloc (.cells #[.string a.1, .int .i64 a.2, .string b.1, .int .i64 b.2] 42)) 2 (.slice (some ⟨w.heap.size, 0, none⟩) [a, b].length 2) ([a, b].map dmCells) :=
  rowc_block (new_at w _) rfl (by simp [dmCells]) rfl (by unfold maxLen; simp)

set_option maxRecDepth 100000 in
set_option maxHeartbeats 4000000 in
theorem itself_any (ms : List Mo) (i : Nat) (m : Mo) (h : Hd) (kA : Option Addr) (kn kC : Nat) (mA fA : Option Addr) (mn mC fn fC fb tb : Nat) (w : World) (hm : Hid (ms[i]? = some m)) (hkn : kn ≤ maxLen) (hck : Hid (CkAt w ms (.slice mA mn mC) fb (.slice fA fn fC) tb))
    (href : Hid (∀ u, Gr w u → Calls Try.prog 68 #[.agg #[.slice mA mn mC, .map (some fb), .slice fA fn fC, .map (some tb)], .int .i64 (i : Nat), .string h.name] u fun e w' => e = .returned (.int .i64 (refErr ms m h.name : Nat)) ∧ Gr u w')) :
    Calls Try.prog 59 #[.agg #[.slice mA mn mC, .map (some fb), .slice fA fn fC, .map (some tb)], .int .i64 (i : Nat), .agg #[.int .i64 h.op, .string h.val.1, .int .i64 h.val.2, .string h.wid.1, .int .i64 h.wid.2, .string h.hi.1, .int .i64 h.hi.2, .string h.lo.1, .int .i64 h.lo.2, .string h.name, .slice kA kn kC]] w fun e w' => e = .returned (.int .i64 (itself ms m h kn : Nat)) ∧ Gr w w' := by
  unfold maxLen at hkn
  obtain ⟨A, n, c, g, o, fg, hfv, rfl, hin, hnn, hg, cf, hcall⟩ := hck.out.find hm.out
  injection hfv with e1 e2 e3
  subst e1 e2 e3
  have HC := Lib.hid hcall
  clear hcall hnn
  have hi1 : (i : Int) < (fn : Int) := by omega
  have hi0 : (0 : Int) ≤ (i : Int) := by omega
  go_enter Try.func59, Try.ntmps59
  go_upto_region 1 with fail
  obtain ⟨W, eW, GW, B0, B1⟩ : ∃ W, (w.alloc (.cells #[.slice mA mn mC, .map (some fb), .slice (some ⟨g, o, none⟩) fn fC, .map (some tb)] 70)).alloc (.cells #[.int .i64 h.op, .string h.val.1, .int .i64 h.val.2, .string h.wid.1, .int .i64 h.wid.2, .string h.hi.1, .int .i64 h.hi.2, .string h.lo.1, .int .i64 h.lo.2, .string h.name, .slice kA kn kC] 47) = W ∧ Hid (Gr w W) ∧ Hid (W.heap[w.heap.size]? = some (.cells #[.slice mA mn mC, .map (some fb), .slice (some ⟨g, o, none⟩) fn fC, .map (some tb)] 70 (0, 0))) ∧ Hid (W.heap[w.heap.size + 1]? = some (.cells #[.int .i64 h.op, .string h.val.1, .int .i64 h.val.2, .string h.wid.1, .int .i64 h.wid.2, .string h.hi.1, .int .i64 h.hi.2, .string h.lo.1, .int .i64 h.lo.2, .string h.name, .slice kA kn kC] 47 (0, 0))) := by
    refine ⟨_, rfl, Lib.hid ((Gr.alloc _ _).trans (Gr.alloc _ _)), Lib.hid ((Gr.alloc _ _).keep (new_at w _)), Lib.hid ?_⟩
    have h := new_at (w.alloc (.cells #[.slice mA mn mC, .map (some fb), .slice (some ⟨g, o, none⟩) fn fC, .map (some tb)] 70)) (.cells #[.int .i64 h.op, .string h.val.1, .int .i64 h.val.2, .string h.wid.1, .int .i64 h.wid.2, .string h.hi.1, .int .i64 h.hi.2, .string h.lo.1, .int .i64 h.lo.2, .string h.name, .slice kA kn kC] 47)
    rw [World.size_alloc] at h
    exact h
  rw [eW]
  clear eW
  have x0 : W.cell? ⟨w.heap.size, 0, none⟩ = some (.slice mA mn mC) := by rw [cell_at B0.out]; rfl
  have x1 : W.cell? ⟨w.heap.size, 1, none⟩ = some (.map (some fb)) := by rw [cell_at B0.out]; rfl
  have x2 : W.cell? ⟨w.heap.size, 2, none⟩ = some (.slice (some ⟨g, o, none⟩) fn fC) := by rw [cell_at B0.out]; rfl
  have x3 : W.cell? ⟨w.heap.size, 3, none⟩ = some (.map (some tb)) := by rw [cell_at B0.out]; rfl
  have y0 : W.cell? ⟨w.heap.size + 1, 0, none⟩ = some (.int .i64 h.op) := by rw [cell_at B1.out]; rfl
  have y1 : W.cell? ⟨w.heap.size + 1, 1, none⟩ = some (.string h.val.1) := by rw [cell_at B1.out]; rfl
  have y2 : W.cell? ⟨w.heap.size + 1, 2, none⟩ = some (.int .i64 h.val.2) := by rw [cell_at B1.out]; rfl
  have y3 : W.cell? ⟨w.heap.size + 1, 3, none⟩ = some (.string h.wid.1) := by rw [cell_at B1.out]; rfl
  have y4 : W.cell? ⟨w.heap.size + 1, 4, none⟩ = some (.int .i64 h.wid.2) := by rw [cell_at B1.out]; rfl
  have y5 : W.cell? ⟨w.heap.size + 1, 5, none⟩ = some (.string h.hi.1) := by rw [cell_at B1.out]; rfl
  have y6 : W.cell? ⟨w.heap.size + 1, 6, none⟩ = some (.int .i64 h.hi.2) := by rw [cell_at B1.out]; rfl
  have y7 : W.cell? ⟨w.heap.size + 1, 7, none⟩ = some (.string h.lo.1) := by rw [cell_at B1.out]; rfl
  have y8 : W.cell? ⟨w.heap.size + 1, 8, none⟩ = some (.int .i64 h.lo.2) := by rw [cell_at B1.out]; rfl
  have y9 : W.cell? ⟨w.heap.size + 1, 9, none⟩ = some (.string h.name) := by rw [cell_at B1.out]; rfl
  have y10 : W.cell? ⟨w.heap.size + 1, 10, none⟩ = some (.slice kA kn kC) := by rw [cell_at B1.out]; rfl
  have f0 := gr_cell GW.out hg cf
  have lt1 : w.heap.size + 1 < W.heap.size := heap_lt B1.out
  have lt2 : g < W.heap.size := Nat.lt_of_lt_of_le hg GW.out.size
  have lt0 : w.heap.size < W.heap.size := Nat.lt_of_succ_lt lt1
  have hlk := hck.out.takes h.op W GW.out
  have LP := Lib.hid (fun (a b : Dm) => lacksParam_any ms i m [a, b] mA (some ⟨g, o, none⟩) (some ⟨W.heap.size, 0, none⟩) mn mC fn fC 2 fb tb (W.alloc (.cells #[.string a.1, .int .i64 a.2, .string b.1, .int .i64 b.2] 42)) hm (Lib.hid (hck.out.gr (GW.out.trans (Gr.alloc _ _)))) (Lib.hid (two_row a b)))
  clear cf hg
  by_cases htk : takes h.op = some kn
  case neg =>
    have HE := Lib.hid (show itself ms m h kn = 1 by rw [itself, if_pos htk])
    rcases hto : takes h.op with _ | tk
    · rw [hto] at hlk
      simp only [Option.getD_none, Option.isSome_none] at hlk
      clear hto htk
      go_wp2_with fail
      go_ret
      exact ⟨by rw [HE.out]; rfl, GW.out⟩
    · rw [hto] at hlk
      simp only [Option.getD_some, Option.isSome_some] at hlk
      have hne : ¬ tk = kn := fun e => htk (by rw [hto, e])
      have q : ((tk : Int) != (kn : Int)) = true := by simp; omega
      clear hto htk hne
      go_wp2_with fail
      go_ret
      exact ⟨by rw [HE.out]; rfl, GW.out⟩
  rw [htk] at hlk
  simp only [Option.getD_some, Option.isSome_some] at hlk
  have q : ((kn : Int) != (kn : Int)) = false := by simp
  have HTK := Lib.hid htk
  clear htk
  by_cases h1 : h.op = 1
  · have HE := Lib.hid (show itself ms m h kn = if lacks m h.wid || lacks m h.val then 40 else 0 by rw [itself, if_neg (by simp [HTK.out])]; simp [h1])
    rw [h1] at y0 hlk
    have L2 := Lib.hid (LP.out h.wid h.val)
    have hany : [h.wid, h.val].any (lacks m) = (lacks m h.wid || lacks m h.val) := by simp
    rw [hany] at L2
    clear h1 LP hany
    generalize (lacks m h.wid || lacks m h.val) = bb at L2 HE
    rcases bb with _ | _
    all_goals
      go_wp2_with (go_at_call 39; (refine L2.out.mono ?_); rintro e w2 ⟨rfl, hg2⟩; have G2 := Lib.hid hg2; clear hg2)
      go_ret
      exact ⟨by rw [HE.out]; rfl, (GW.out.trans (Gr.alloc _ _)).trans G2.out⟩
  have q1 : (h.op == 1) = false := by simpa using h1
  by_cases h18 : h.op = 18
  · have HE := Lib.hid (show itself ms m h kn = if lacks m h.hi || lacks m h.lo then 40 else 0 by rw [itself, if_neg (by simp [HTK.out])]; simp [h18])
    rw [h18] at y0 hlk
    have L2 := Lib.hid (LP.out h.hi h.lo)
    have hany : [h.hi, h.lo].any (lacks m) = (lacks m h.hi || lacks m h.lo) := by simp
    rw [hany] at L2
    clear h18 LP hany
    generalize (lacks m h.hi || lacks m h.lo) = bb at L2 HE
    rcases bb with _ | _
    all_goals
      go_wp2_with (go_at_call 39; (refine L2.out.mono ?_); rintro e w2 ⟨rfl, hg2⟩; have G2 := Lib.hid hg2; clear hg2)
      go_ret
      exact ⟨by rw [HE.out]; rfl, (GW.out.trans (Gr.alloc _ _)).trans G2.out⟩
  have q18 : (h.op == 18) = false := by simpa using h18
  clear LP
  by_cases h19 : h.op = 19
  · have HE := Lib.hid (show itself ms m h kn = wanted (kindOf m h.name).1 [6] by rw [itself, if_neg (by simp [HTK.out])]; simp [h19])
    rw [h19] at y0 hlk
    clear h19 q1 q18 h1 h18
    go_upto_region 12 with fail
    clear hlk
    go_region_with (first
      | (go_at_call 54; refine (HC.out _ h.name (by first | exact GW.out.trans (Gr.drew _) | exact (GW.out.trans (Gr.drew _)).trans (Gr.alloc _ _) | exact GW.out.trans ((Gr.alloc _ _).trans (Gr.drew _)))).mono ?_; rintro e w2 ⟨rfl, hg2⟩; have G2 := Lib.hid hg2; clear hg2)
      | (go_at_call 58; refine (wanted_one (kindOf m h.name).1 (kindOf m h.name).2 6 _ _ (by first | exact new_at _ _ | exact G2.out.keep (new_at _ _))).mono ?_; rintro e w3 ⟨rfl, hg3⟩; have G3 := Lib.hid hg3; clear hg3))
    all_goals go_wp2_with fail
    all_goals go_ret
    all_goals refine ⟨by rw [HE.out]; rfl, ?_⟩
    all_goals first
      | exact ((GW.out.trans (Gr.drew _)).trans G2.out).trans ((Gr.alloc _ _).trans G3.out)
      | exact (((GW.out.trans (Gr.drew _)).trans (Gr.alloc _ _)).trans G2.out).trans G3.out
      | exact ((GW.out.trans ((Gr.alloc _ _).trans (Gr.drew _))).trans G2.out).trans G3.out
  have q19 : (h.op == 19) = false := by simpa using h19
  by_cases h2 : h.op = 2
  · have HE := Lib.hid (show itself ms m h kn = refErr ms m h.name by rw [itself, if_neg (by simp [HTK.out])]; simp [h2])
    rw [h2] at y0 hlk
    clear h2 q1 q18 q19 h1 h18 h19
    go_wp2_with (go_at_call 68; (with_reducible refine (href.out W GW.out).mono ?_); rintro e w2 ⟨rfl, hg2⟩; have G2 := Lib.hid hg2; clear hg2)
    go_ret
    exact ⟨by rw [HE.out]; rfl, GW.out.trans G2.out⟩
  have q2 : (h.op == 2) = false := by simpa using h2
  have HE := Lib.hid (show itself ms m h kn = 0 by rw [itself, if_neg (by simp [HTK.out])]; simp [h1, h18, h19, h2])
  clear h1 h18 h19 h2
  go_wp2_with fail
  go_ret
  exact ⟨by rw [HE.out]; rfl, GW.out⟩
end Go.Proofs.Ytjkaeabnjkhllaa
