/-
  The checker's item, WALKED.
-/
import Derived.Test.YtjkaeabnjkhllaaScExp
namespace Go.Proofs.Ytjkaeabnjkhllaa
open Go.RowKit

/-- an item's expressions are such as can be walked -/
structure ItOk (x : It) : Prop where
  names : ∀ t ∈ exprsOf x, ExAll SmallName t
  sizes : ∀ t ∈ exprsOf x, exSize t ≤ 100000
  binds : x.binds.length ≤ 1000
def ItCl (x : It) : Prop := ∀ t ∈ exprsOf x, ExAll IsCl t
/-- what item tells -/
def ItmRet (w : World) (ms : List Mo) (i : Nat) (m : Mo) (x : It) (twice : Bool) (e : Ending) (w' : World) : Prop := ∃ r : Nat, e = .returned (.int .i64 (r : Nat)) ∧ (twice = true → r = 50) ∧ (ItCl x → r = itemErr ms i m x twice) ∧ Gr w w'
theorem mergeG {P : Program} {c : Code} {Q : Exit → Act → World → Prop} {a : Act} {w : World} {S : World → Prop} {FR : Option Addr → Nat → Act} (hr : (∀ A k W', S W' → Q .normal (FR A k) W') → c.wp P (NoPanic Q) a w) (hq : ∀ A k W', S W' → Q .normal (FR A k) W') : c.wp P Q a w := wp_mono (hr hq) (fun e a w h => NoPanic.imp e a w h)
theorem exprsOf_any (x : It) (cs : List Value) (w : World) (hx : Hid (ItAt w x cs)) (hbn : x.binds.length ≤ 1000) : Calls Try.prog 44 #[.agg cs.toArray] w (ExsRet w (exprsOf x)) := by
  by_cases h7 : x.kind = 7
  · exact exprsOf_inst x cs w hx h7 hbn
  · exact exprsOf_rest x cs w hx h7

set_option maxRecDepth 100000 in
set_option maxHeartbeats 4000000 in
theorem item_any (ms : List Mo) (i : Nat) (m : Mo) (x : It) (cs : List Value) (twice : Bool) (mA fA : Option Addr) (mn mC fn fC fb tb : Nat) (w : World) (hil : i ≤ maxLen) (hm : Hid (ms[i]? = some m)) (hx : Hid (ItAt w x cs)) (hok : Hid (ItOk x)) (hck : Hid (CkAt w ms (.slice mA mn mC) fb (.slice fA fn fC) tb))
    (hml : Hid (∃ z : Int, w.cell? ⟨0, 0, none⟩ = some (.int .i64 z))) :
    Calls Try.prog 29 #[.agg #[.slice mA mn mC, .map (some fb), .slice fA fn fC, .map (some tb)], .int .i64 (i : Nat), .agg cs.toArray, .bool twice] w (ItmRet w ms i m x twice) := by
  rcases twice with _ | _
  case true =>
    go_enter Try.func29, Try.ntmps29
    go_wp2_with fail
    go_ret
    exact ⟨50, rfl, fun _ => rfl, fun _ => by simp [itemErr], (Gr.alloc _ _).trans (Gr.alloc _ _)⟩
  have HS := Lib.hid (show (Try.prog.info? 49).map (·.size) = some cs.length by rw [size49, it_len hx.out])
  go_enter Try.func29, Try.ntmps29
  go_upto_region 3 with fail
  obtain ⟨W, eW, GW, B0, B1⟩ : ∃ W, (w.alloc (.cells #[.slice mA mn mC, .map (some fb), .slice fA fn fC, .map (some tb)] 70)).alloc (.cells cs.toArray 49) = W ∧ Hid (Gr w W) ∧ Hid (W.heap[w.heap.size]? = some (.cells #[.slice mA mn mC, .map (some fb), .slice fA fn fC, .map (some tb)] 70 (0, 0))) ∧ Hid (W.heap[w.heap.size + 1]? = some (.cells cs.toArray 49 (0, 0))) := by
    refine ⟨_, rfl, Lib.hid ((Gr.alloc _ _).trans (Gr.alloc _ _)), Lib.hid ((Gr.alloc _ _).keep (new_at w _)), Lib.hid ?_⟩
    have h := new_at (w.alloc (.cells #[.slice mA mn mC, .map (some fb), .slice fA fn fC, .map (some tb)] 70)) (.cells cs.toArray 49)
    rw [World.size_alloc] at h
    exact h
  rw [eW]
  clear eW
  have HAT := Lib.hid (show ∀ u, Gr W u → (u.cell? ⟨w.heap.size, 0, none⟩ = some (.slice mA mn mC) ∧ u.cell? ⟨w.heap.size, 1, none⟩ = some (.map (some fb)) ∧ u.cell? ⟨w.heap.size, 2, none⟩ = some (.slice fA fn fC) ∧ u.cell? ⟨w.heap.size, 3, none⟩ = some (.map (some tb))) from fun u hu => ⟨by rw [cell_at (hu.keep B0.out)]; rfl, by rw [cell_at (hu.keep B0.out)]; rfl, by rw [cell_at (hu.keep B0.out)]; rfl, by rw [cell_at (hu.keep B0.out)]; rfl⟩)
  have HRG := Lib.hid (show ∀ u, Gr W u → u.rangeAt (w.heap.size + 1) 0 cs from fun u hu => range_of (hu.keep B1.out))
  have II := Lib.hid (target_any ms i m x cs mA fA mn mC fn fC fb tb W hil hm (Lib.hid (hx.out.gr GW.out)) (Lib.hid (hck.out.gr GW.out)))
  have HR0 := Lib.hid (HRG.out W (Gr.refl W))
  obtain ⟨z0, z1, z2, z3⟩ := HAT.out W (Gr.refl W)
  by_cases ht : targetErr ms i m x = 0
  case neg =>
    have q : (((targetErr ms i m x : Nat) : Int) != 0) = true := by simp; omega
    have HE := Lib.hid (show itemErr ms i m x false = targetErr ms i m x by unfold itemErr; rw [if_neg (by simp), if_pos ht])
    clear ht
    go_wp2_with (first
      | (refine wpList_load_mid (by rfl) 49 _ rfl (w.heap.size + 1) 0 rfl cs _ HR0.out Try.underlying49 rfl HS.out ?_)
      | (go_at_call 42; (with_reducible refine II.out.mono ?_); rintro e w2 ⟨rfl, hg2⟩; have G2 := Lib.hid hg2; clear hg2))
    go_ret
    exact ⟨_, rfl, (fun h => by cases h), fun _ => HE.out.symm, GW.out.trans G2.out⟩
  have q : (((targetErr ms i m x : Nat) : Int) != 0) = false := by rw [ht]; rfl
  have HT := Lib.hid ht
  clear ht
  go_upto_region 6 with (first
    | (refine wpList_load_mid (by rfl) 49 _ rfl (w.heap.size + 1) 0 rfl cs _ HR0.out Try.underlying49 rfl HS.out ?_)
    | (go_at_call 42; (with_reducible refine II.out.mono ?_); rintro e w2 ⟨rfl, hg2⟩; have G2 := Lib.hid hg2; clear hg2))
  clear q z0 z1 z2 z3 HR0 II
  have DM := Lib.hid (fun (u : World) (hu : Gr W u) => dimsOf_any x cs u (Lib.hid (hx.out.gr (GW.out.trans hu))))
  have LP := Lib.hid (fun (u : World) (A : Option Addr) (k : Nat) (hu : Gr W u) (hr : RowC u 2 (.slice A (dimsOf x).length k) ((dimsOf x).map dmCells)) => lacksParam_any ms i m (dimsOf x) mA fA A mn mC fn fC k fb tb u hm (Lib.hid (hck.out.gr (GW.out.trans hu))) (Lib.hid hr))
  obtain ⟨bl, hbl⟩ : ∃ bl, (dimsOf x).any (lacks m) = bl := ⟨_, rfl⟩
  rw [hbl] at LP
  have HBL := Lib.hid hbl
  clear hbl
  apply mergeG (S := Gr W)
  case hr =>
    intro hq
    have HQ := Lib.hid hq
    clear hq
    refine wp_region_held_drew (S := Gr W) (by kernel_rfl) (G2.out.trans (Gr.drew _)) (fun hHeld => ?_)
    generalize w2.drew = u0 at hHeld ⊢
    refine wpAnyH_take (i := 0) (v := .agg #[.slice mA mn mC, .map (some fb), .slice fA fn fC, .map (some tb)]) rfl (by kernel_rfl) (by kernel_rfl) (by kernel_rfl) (fun _ _ _ h => h) (Or.inl ⟨by rfl, by intro w hSw; have hCw := HAT.out _ hSw; obtain ⟨z0, z1, z2, z3⟩ := hCw; go_simp; try rfl⟩) hHeld ?_
    try simp only [Act.put]
    refine wpAnyH_take (i := 1) (v := .int .i64 (i : Nat)) rfl (by kernel_rfl) (by kernel_rfl) (by kernel_rfl) (fun _ _ _ h => h) (Or.inl ⟨by rfl, by intro w hSw; have hCw := HAT.out _ hSw; obtain ⟨z0, z1, z2, z3⟩ := hCw; go_simp; try rfl⟩) hHeld ?_
    try simp only [Act.put]
    refine wpAnyH_take (i := 2) (v := .agg cs.toArray) rfl (by kernel_rfl) (by kernel_rfl) (by kernel_rfl) (fun _ _ _ h => h) (yieldsIf_load_mid (by rfl) 49 _ rfl (w.heap.size + 1) 0 rfl cs _ (fun u hu => HRG.out u hu) Try.underlying49 rfl HS.out) hHeld ?_
    try simp only [Act.put]
    refine wpAnyH_ready (rs := [3]) (by kernel_rfl) (by simp) ?_
    refine AllReadyH.cons rfl (fun K hK => ?_) AllReadyH.nil
    go_simp
    refine (DM.out _ hHeld).mono ?_
    rintro e u1 ⟨A, k, rfl, hrow, hg1⟩
    have HROW := Lib.hid (And.intro hrow hg1)
    clear hrow hg1
    refine hK.out _ _ (hHeld.trans HROW.out.2) (fun hHeld2 => ?_)
    refine wpAnyH_ready (rs := [4]) (by kernel_rfl) (by simp) ?_
    refine AllReadyH.cons rfl (fun K hK => ?_) AllReadyH.nil
    go_simp
    refine (LP.out _ A k hHeld2 HROW.out.1).mono ?_
    rintro e u2 ⟨rfl, hg2⟩
    refine hK.out _ _ (hHeld2.trans hg2) (fun hHeld3 => ?_)
    refine wpAnyH_done (by kernel_rfl) ?_ _
    exact NoPanic.normal (HQ.out A k _ hHeld3)
  intro A k W2 hg2'
  have G3 := Lib.hid hg2'
  clear hg2'
  rcases bl with _ | _
  case true =>
    have HE := Lib.hid (show itemErr ms i m x false = 40 by unfold itemErr; rw [if_neg (by simp), if_neg (by rw [HT.out]; simp), if_pos HBL.out])
    go_wp2_with fail
    go_ret
    exact ⟨40, rfl, (fun h => by cases h), fun _ => HE.out.symm, GW.out.trans G3.out⟩
  have HE := Lib.hid (show itemErr ms i m x false = exsErr ms m (exprsOf x) by unfold itemErr; rw [if_neg (by simp), if_neg (by rw [HT.out]; simp), if_neg (by rw [HBL.out]; simp)])
  have EX := Lib.hid (exprsOf_any x cs W2 (Lib.hid (hx.out.gr (GW.out.trans G3.out))) hok.out.binds)
  have HR0 := Lib.hid (HRG.out W2 G3.out)
  obtain ⟨ts, hts⟩ : ∃ ts, exprsOf x = ts := ⟨_, rfl⟩
  rw [hts] at HE EX
  have HTS := Lib.hid hts
  clear hts
  go_upto_region 9 with (first
    | (refine wpList_load_mid (by rfl) 49 _ rfl (w.heap.size + 1) 0 rfl cs _ HR0.out Try.underlying49 rfl HS.out ?_)
    | (go_at_call 44; refine EX.out.mono ?_; rintro e w3 ⟨LA, lc, rfl, hex, hg4⟩; have G4 := Lib.hid (G3.out.trans hg4); have HXS := Lib.hid hex; clear hex hg4))
  clear HR0
  have hbd : ts.length ≤ maxLen := by obtain ⟨css, r1, r2, _⟩ := HXS.out; rw [← r2]; exact r1.1
  unfold maxLen at hbd
  go_loopg [29] ts.length (fun g y wr => ∃ k : Nat, k + g = ts.length ∧ y = .int .i64 (k : Nat) ∧ Hid (Gr w3 wr) ∧ Hid (ItCl x → exsErr ms m (ts.take k) = 0))
  case atStart => exact ⟨0, by omega, rfl, Lib.hid (Gr.refl _), Lib.hid (fun _ => by simp [exsErr])⟩
  case round =>
    obtain ⟨j, hjg, rfl, GL, HZ⟩ := hrel
    have HK := Lib.hid hjg
    have hkl : j ≤ ts.length := by omega
    clear hjg
    by_cases hlt : j < ts.length
    · obtain ⟨t, ht⟩ : ∃ t, ts[j]? = some t := ⟨_, List.getElem?_eq_getElem hlt⟩
      obtain ⟨css, r1, r2, r3⟩ := HXS.out
      obtain ⟨c, hc⟩ : ∃ c, css[j]? = some c := ⟨_, List.getElem?_eq_getElem (by omega)⟩
      have hat := r3 j t c ht hc
      obtain ⟨v, css2, e1, e2, e3, _⟩ := hat.open
      obtain ⟨kA, kC, rfl⟩ := e2.form
      rw [e3] at e1
      subst e1
      obtain ⟨g, o, rfl, hg, hr⟩ := r1.at hc
      have hr' := range_gr hr hg GL.out
      have c0 := hr' 0 _ rfl
      have c1 := hr' 1 _ rfl
      have c2 := hr' 2 _ rfl
      have c3 := hr' 3 _ rfl
      have c4 := hr' 4 _ rfl
      have c5 := hr' 5 _ rfl
      have c6 := hr' 6 _ rfl
      have c7 := hr' 7 _ rfl
      have c8 := hr' 8 _ rfl
      have c9 := hr' 9 _ rfl
      have c10 := hr' 10 _ rfl
      rw [Nat.add_zero] at c0
      have hmem : t ∈ exprsOf x := by rw [HTS.out]; exact List.mem_of_getElem? ht
      have GA := Lib.hid (GW.out.trans (G4.out.trans GL.out))
      have XX := Lib.hid (fun (u : World) (hu : Gr wr u) => expr_any ms i m t t.hd kA t.kids.length kC mA fA mn mC fn fC fb tb u hm (Lib.hid (hck.out.gr (GA.out.trans hu))) (Lib.hid (by obtain ⟨z, hz⟩ := hml.out; exact ⟨z, gr_cell (GA.out.trans hu) (World.block_lt_of_cell? _ _ hz) hz⟩)) (Lib.hid (hat.gr (GL.out.trans hu))) (Lib.hid (hok.out.names t hmem)) (hok.out.sizes t hmem))
      have HTJ := Lib.hid (And.intro ht hmem)
      clear ht hmem r1 r2 r3 hc hat e2 e3 hr hr' hg
      have hd1 : (j : Int) < (ts.length : Int) := by omega
      have hd0 : (0 : Int) ≤ (j : Int) := by omega
      obtain ⟨z0, z1, z2, z3⟩ := HAT.out wr (G4.out.trans GL.out)
      have lt0 := World.block_lt_of_cell? _ _ z0
      go_upto_region 12 with (go_at_call 45; (with_reducible refine (XX.out _ (Gr.alloc _ _)).mono ?_); rintro e w5 ⟨r, rfl, hcl, hg5⟩; have G5 := Lib.hid ((Gr.alloc _ _).trans hg5); have HCL := Lib.hid hcl; clear hcl hg5)
      by_cases hz : r = 0
      · subst hz
        go_wp2_with fail
        go_roundg (gk - 1)
        case measure => have := HK.out; omega
        case rel => exact ⟨j + 1, by have := HK.out; omega, by go_num, Lib.hid (GL.out.trans G5.out), Lib.hid (fun c => by
          rw [List.take_add_one, HTJ.out.1, exsErr_app, HZ.out c]
          simp only [ne_eq, not_true_eq_false, if_false, Option.toList_some, exsErr]
          rw [← HCL.out (c t HTJ.out.2)]
          simp)⟩
      · have q : ((r : Int) != 0) = true := by simp; omega
        have HRZ := Lib.hid hz
        clear hz
        go_wp2_with fail
        go_ret
        refine ⟨r, rfl, (fun h => by cases h), fun c => ?_, GA.out.trans G5.out⟩
        have h1 : ts = ts.take j ++ t :: ts.drop (j + 1) := by
          have := List.getElem?_eq_some_iff.1 HTJ.out.1
          obtain ⟨h2, h3⟩ := this
          rw [← h3, List.getElem_cons_drop h2, List.take_append_drop]
        rw [HE.out, h1, exsErr_app, HZ.out c]
        simp only [ne_eq, not_true_eq_false, if_false, exsErr]
        rw [← HCL.out (c t HTJ.out.2), if_pos HRZ.out]
    · obtain rfl : j = ts.length := by omega
      have hd1 : ¬ ((ts.length : Int) < (ts.length : Int)) := by omega
      go_wp2_with fail
      go_ret
      exact ⟨0, rfl, (fun h => by cases h), fun c => by rw [HE.out, ← HZ.out c, List.take_length], GW.out.trans (G4.out.trans GL.out)⟩
end Go.Proofs.Ytjkaeabnjkhllaa
