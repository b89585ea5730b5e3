/-
  The checker's ref, WALKED.
-/
import Derived.Test.YtjkaeabnjkhllaaScCut
namespace Go.Proofs.Ytjkaeabnjkhllaa
open Go.RowKit

/-- wanted, of three kinds in a block of their own -/
theorem wanted_three (k at_ a b c g : Nat) (u : World) (hu : u.heap[g]? = some (.cells #[.int .i64 (a : Nat), .int .i64 (b : Nat), .int .i64 (c : Nat)] 3 (0, 0))) :
    Calls Try.prog 58 #[.agg #[.int .i64 (k : Nat), .int .i64 (at_ : Nat)], .slice (some ⟨g, 0, none⟩) 3 3] u fun e w' => e = .returned (.int .i64 (wanted k [a, b, c] : Nat)) ∧ Gr u w' :=
  wanted_any k at_ (some ⟨g, 0, none⟩) 3 [a, b, c] u (by simp) (Lib.hid (fun u' hg i0 n0 hn => by
    match i0, hn with
    | 0, hn => cases hn; exact ⟨_, _, rfl, by rw [cell_at (hg.keep hu)]; rfl⟩
    | 1, hn => cases hn; exact ⟨_, _, rfl, by rw [cell_at (hg.keep hu)]; rfl⟩
    | 2, hn => cases hn; exact ⟨_, _, rfl, by rw [cell_at (hg.keep hu)]; rfl⟩
    | j + 3, hn => simp at hn))

set_option maxRecDepth 100000 in
set_option maxHeartbeats 4000000 in
theorem ref_any (ms : List Mo) (i : Nat) (m : Mo) (s : ByteArray) (mA fA : Option Addr) (mn mC fn fC fb tb : Nat) (w : World) (hs : s.size < 4294967281) (hm : Hid (ms[i]? = some m)) (hck : Hid (CkAt w ms (.slice mA mn mC) fb (.slice fA fn fC) tb))
    (hml : Hid (∃ x : Int, w.cell? ⟨0, 0, none⟩ = some (.int .i64 x))) :
    Calls Try.prog 68 #[.agg #[.slice mA mn mC, .map (some fb), .slice fA fn fC, .map (some tb)], .int .i64 (i : Nat), .string s] w fun e w' => e = .returned (.int .i64 (refErr ms m s : Nat)) ∧ Gr w w' := by
  obtain ⟨A, n, c, g, o, fg, hfv, rfl, hin, hnn, hg, cf, hcall⟩ := hck.out.find hm.out
  injection hfv with e1 e2 e3
  subst e1 e2 e3
  have HC := Lib.hid hcall
  clear hcall hnn
  have hi1 : (i : Int) < (fn : Int) := by omega
  have hi0 : (0 : Int) ≤ (i : Int) := by omega
  obtain ⟨ml, hml⟩ := hml.out
  have lt0 := World.block_lt_of_cell? _ _ hml
  go_enter Try.func68, Try.ntmps68
  go_upto_region 1 with fail
  obtain ⟨W, eW, GW, B0⟩ : ∃ W, (w.alloc (.cells #[.slice mA mn mC, .map (some fb), .slice (some ⟨g, o, none⟩) fn fC, .map (some tb)] 70)) = W ∧ Hid (Gr w W) ∧ Hid (W.heap[w.heap.size]? = some (.cells #[.slice mA mn mC, .map (some fb), .slice (some ⟨g, o, none⟩) fn fC, .map (some tb)] 70 (0, 0))) := ⟨_, rfl, Lib.hid (Gr.alloc _ _), Lib.hid (new_at w _)⟩
  rw [eW]
  clear eW
  have AT := Lib.hid (show ∀ u, Gr W u → (u.cell? ⟨w.heap.size, 0, none⟩ = some (.slice mA mn mC) ∧ u.cell? ⟨w.heap.size, 1, none⟩ = some (.map (some fb)) ∧ u.cell? ⟨w.heap.size, 2, none⟩ = some (.slice (some ⟨g, o, none⟩) fn fC) ∧ u.cell? ⟨w.heap.size, 3, none⟩ = some (.map (some tb)) ∧ u.cell? ⟨g, o + i, none⟩ = some (.func (.func 54) #[] #[.pointer (some ⟨fg, 0, none⟩)])) from fun u hu => ⟨by rw [cell_at (hu.keep B0.out)]; rfl, by rw [cell_at (hu.keep B0.out)]; rfl, by rw [cell_at (hu.keep B0.out)]; rfl, by rw [cell_at (hu.keep B0.out)]; rfl, gr_cell (GW.out.trans hu) hg cf⟩)
  have hmW := gr_cell GW.out lt0 hml
  clear cf hml lt0
  rcases hd : dotAt s.data.toList with _ | k
  · have HE := Lib.hid (show refErr ms m s = wanted (kindOf m s).1 [2, 4, 5] by rw [refErr, hd])
    have CN := Lib.hid (cut_none s ml W hs hmW hd)
    clear hd hmW
    go_upto_region 2 with (go_at_call 73; refine CN.out.mono ?_; rintro e V ⟨rfl, hV⟩; have GV := Lib.hid hV; clear hV)
    obtain ⟨x0, x1, x2, x3, f0⟩ := AT.out V GV.out
    clear x0 x1 x3
    go_wp2_with (first
      | (go_at_call 54; refine (HC.out V s (GW.out.trans GV.out)).mono ?_; rintro e w2 ⟨rfl, hg2⟩; have G2 := Lib.hid hg2; clear hg2)
      | (go_at_call 58; refine (wanted_three (kindOf m s).1 (kindOf m s).2 2 4 5 w2.heap.size _ (new_at _ _)).mono ?_; rintro e w3 ⟨rfl, hg3⟩; have G3 := Lib.hid hg3; clear hg3))
    go_ret
    exact ⟨by rw [HE.out]; rfl, (((GW.out.trans GV.out).trans G2.out).trans (Gr.alloc _ _)).trans G3.out⟩
  have HEQ := Lib.hid (show refErr ms m s = (if (kindOf m (s.extract 0 k)).1 ≠ 7 then 51 else match m.items[(kindOf m (s.extract 0 k)).2]? with
    | none => 51
    | some x => match modAt ms x.mod with
      | none => 51
      | some n => match ms[n]? with
        | none => 51
        | some o => if (kindOf o (s.extract (k + 1) s.size)).1 = 3 then 0 else 51) by unfold refErr; rw [hd]; rfl)
  have CN := Lib.hid (cut_some s ml k W hs hmW hd)
  clear hd hmW
  go_upto_region 2 with (go_at_call 73; refine CN.out.mono ?_; rintro e V ⟨rfl, hV⟩; have GV := Lib.hid hV; clear hV)
  obtain ⟨x0, x1, x2, x3, f0⟩ := AT.out V GV.out
  clear x0 x1 x3
  by_cases h7 : (kindOf m (s.extract 0 k)).1 = 7
  case neg =>
    have q : (((kindOf m (s.extract 0 k)).1 : Int) != 7) = true := by simp; omega
    have HE := Lib.hid (show refErr ms m s = 51 by rw [HEQ.out, if_pos h7])
    clear h7
    go_wp2_with (go_at_call 54; refine (HC.out V (s.extract 0 k) (GW.out.trans GV.out)).mono ?_; rintro e w2 ⟨rfl, hg2⟩; have G2 := Lib.hid hg2; clear hg2)
    go_ret
    exact ⟨by rw [HE.out]; rfl, ((GW.out.trans GV.out).trans G2.out).trans (Gr.alloc _ _)⟩
  obtain ⟨x, hx, _, _⟩ := kind_inst h7
  have q : (((kindOf m (s.extract 0 k)).1 : Int) != 7) = false := by rw [h7]; rfl
  have hel := (List.getElem?_eq_some_iff.1 hx).1
  have HE2 := Lib.hid (show refErr ms m s = (match modAt ms x.mod with
      | none => 51
      | some n => match ms[n]? with
        | none => 51
        | some o => if (kindOf o (s.extract (k + 1) s.size)).1 = 3 then 0 else 51) by rw [HEQ.out, if_neg (by simpa using h7), hx])
  have HX := Lib.hid hx
  clear hx h7
  go_upto_region 7 with (go_at_call 54; refine (HC.out V (s.extract 0 k) (GW.out.trans GV.out)).mono ?_; rintro e w2 ⟨rfl, hg2⟩; have G2 := Lib.hid hg2; clear hg2)
  clear f0 x2
  obtain ⟨U, eU, GU, CU⟩ : ∃ U, w2.alloc (.cells #[.int .i64 ((kindOf m (s.extract 0 k)).1 : Nat), .int .i64 ((kindOf m (s.extract 0 k)).2 : Nat)] 82) = U ∧ Hid (Gr W U) ∧ Hid (U.heap[w2.heap.size]? = some (.cells #[.int .i64 ((kindOf m (s.extract 0 k)).1 : Nat), .int .i64 ((kindOf m (s.extract 0 k)).2 : Nat)] 82 (0, 0))) := ⟨_, rfl, Lib.hid ((GV.out.trans G2.out).trans (Gr.alloc _ _)), Lib.hid (new_at _ _)⟩
  rw [eU]
  clear eU
  obtain ⟨x0, x1, x2, x3, f0⟩ := AT.out U GU.out
  have p1 : U.cell? ⟨w2.heap.size, 1, none⟩ = some (.int .i64 ((kindOf m (s.extract 0 k)).2 : Nat)) := by rw [cell_at CU.out]; rfl
  obtain ⟨g1, o1, pA, pC, qA, qC, iA, iC, rfl, hmn, hg1, hr1, hmo⟩ := mod_cells hck.out.mods hm.out
  have him : i < ms.length := (List.getElem?_eq_some_iff.1 hm.out).1
  have hi2 : (i : Int) < (mn : Int) := by omega
  have m3 := range_gr hr1 hg1 (GW.out.trans GU.out) 3 _ rfl
  obtain ⟨pv, qv, iv, e, _, _, css, r1, r2, r3⟩ := hmo
  simp at e
  obtain ⟨rfl, rfl, rfl⟩ := e
  obtain ⟨cs, y1, y2⟩ := r3 _ x HX.out
  obtain ⟨g2, o2, rfl, hg2', hr2⟩ := r1.at y1
  obtain ⟨av, bv, ce, ca, ci, hcs, _⟩ := y2
  have n6 := range_gr hr2 hg2' (GW.out.trans GU.out) 6 (.string x.mod) (by rw [hcs]; rfl)
  have he1 : ((kindOf m (s.extract 0 k)).2 : Int) < (m.items.length : Int) := by omega
  have he0 : (0 : Int) ≤ ((kindOf m (s.extract 0 k)).2 : Int) := by omega
  obtain ⟨l, hl1, hl2⟩ := hck.out.first
  have hlk : ∀ n, (Instr.lookup 66 (.map (some fb)) (.string x.mod) true).run Try.prog (U.drewN n) = _ := fun n => look_str Try.underlying66 Try.zeroValue3 (hl1.gr ((GW.out.trans GU.out).trans (Gr.drewN U n))) x.mod true
  rw [hl2] at hlk
  clear hl1 hl2 hr1 hr2 r1 r2 r3 y1 hcs hg1 hg2' x2 x3 f0 q hel
  rcases hma : modAt ms x.mod with _ | j
  · rw [hma] at hlk
    simp only [Option.map_none, Option.getD_none, Option.isSome_none, if_true] at hlk
    have HE := Lib.hid (show refErr ms m s = 51 by rw [HE2.out, hma])
    clear hma
    go_quiet (fail)
    go_wp2_with fail
    go_ret
    exact ⟨by rw [HE.out]; rfl, GW.out.trans (GU.out.trans (Gr.drewN U nq))⟩
  rw [hma] at hlk
  simp only [Option.map_some, Option.getD_some, Option.isSome_some, if_true, intV] at hlk
  have hjl := modAt_lt hma
  obtain ⟨md, hmd⟩ : ∃ md, ms[j]? = some md := ⟨_, List.getElem?_eq_getElem hjl⟩
  obtain ⟨A2, n2, c2, g3, o3, fg3, hfv, e, hj, hnn2, hg3, cf3, hcall3⟩ := hck.out.find hmd
  injection hfv with e1 e2 e3
  subst e1 e2 e3
  cases e
  have HC3 := Lib.hid hcall3
  have hj1 : (j : Int) < (fn : Int) := by omega
  have hj0 : (0 : Int) ≤ (j : Int) := by omega
  have AT3 := Lib.hid (show ∀ u, Gr U u → (u.cell? ⟨w.heap.size, 2, none⟩ = some (.slice (some ⟨g, o, none⟩) fn fC) ∧ u.cell? ⟨g, o + j, none⟩ = some (.func (.func 54) #[] #[.pointer (some ⟨fg3, 0, none⟩)])) from fun u hu => ⟨(AT.out u (GU.out.trans hu)).2.2.1, gr_cell (GW.out.trans (GU.out.trans hu)) hg3 cf3⟩)
  have HE := Lib.hid (show refErr ms m s = if (kindOf md (s.extract (k + 1) s.size)).1 = 3 then 0 else 51 by rw [HE2.out, hma]; simp only [hmd])
  clear hma hcall3 cf3 hg3 hmd hjl hnn2 hj
  go_quiet (fail)
  obtain ⟨x2, f3⟩ := AT3.out _ (Gr.drewN U nq)
  by_cases h3 : (kindOf md (s.extract (k + 1) s.size)).1 = 3
  · have q : (((kindOf md (s.extract (k + 1) s.size)).1 : Int) != 3) = false := by rw [h3]; rfl
    have HE3 := Lib.hid (show refErr ms m s = 0 by rw [HE.out, if_pos h3])
    clear h3
    have hfl := fld82
    go_wp2_with (go_at_call 54; refine (HC3.out (U.drewN nq) (s.extract (k + 1) s.size) (GW.out.trans (GU.out.trans (Gr.drewN U nq)))).mono ?_; rintro e w5 ⟨rfl, hg5⟩; have G5 := Lib.hid hg5; clear hg5)
    go_ret
    exact ⟨by rw [HE3.out]; rfl, (GW.out.trans (GU.out.trans (Gr.drewN U nq))).trans G5.out⟩
  · have q : (((kindOf md (s.extract (k + 1) s.size)).1 : Int) != 3) = true := by simp; omega
    have HE3 := Lib.hid (show refErr ms m s = 51 by rw [HE.out, if_neg h3])
    clear h3
    have hfl := fld82
    go_wp2_with (go_at_call 54; refine (HC3.out (U.drewN nq) (s.extract (k + 1) s.size) (GW.out.trans (GU.out.trans (Gr.drewN U nq)))).mono ?_; rintro e w5 ⟨rfl, hg5⟩; have G5 := Lib.hid hg5; clear hg5)
    go_ret
    exact ⟨by rw [HE3.out]; rfl, (GW.out.trans (GU.out.trans (Gr.drewN U nq))).trans G5.out⟩
end Go.Proofs.Ytjkaeabnjkhllaa
