/-
  sim's Hit, WALKED.
-/
import Derived.Test.YtmnblcnhbafcpaaJ54
import Derived.Test.YtmnblcnhbafcpaaJ47
import Derived.WalkMore
namespace Go.Proofs.Ytmnblcnhbafcpaa
open Go.RowKit Go.Shelf
open NetM
open VecM
attribute [local go_sem] Oper.semAt_some

theorem scope_wide {m : Nat} {P : Program} {c : Code} {Q : Exit → Act → World → Prop} {a : Act} {w : World} (h : c.wpIn Fence.wide m P (Exit.noGoto Q) a w) : (Code.scope c).wpIn Fence.wide m P Q a w :=
  wpIn_wide.2 (wp_scope_straight (wpIn_wide.1 h))
/-- what Hit keeps from cycle to cycle -/
def HtK (w : World) (h : Nat) (n : Nt) (A1 A2 A3 A4 A5 At : Option Addr) (c1 c2 c3 c4 c5 tl ct : Nat) (pj : Nat) (sought : Bool) (W : World) : Prop :=
  CycAt w (h + 2) (h + 3) n A1 A2 A3 A4 A5 At c1 c2 c3 c4 c5 tl ct W ∧ BxAt W w.heap.size n A1 A2 A3 A4 A5 c1 c2 c3 c4 c5 ∧ Boxed W (w.heap.size + 1) 3 (.int .i64 (pj : Nat)) ∧ Boxed W h 4 (.bool sought) ∧ h + 4 ≤ W.heap.size
def HtR (w : World) (k : Nat) (b : Bool) (W : World) : Prop := Boxed W (w.heap.size + 2) 3 (.int .i64 (k : Nat)) ∧ Boxed W (w.heap.size + 3) 4 (.bool b)
/-- between two rounds of Hit -/
def HtI (w : World) (h : Nat) (n : Nt) (t : List (List Nat)) (A1 A2 A3 A4 A5 At : Option Addr) (c1 c2 c3 c4 c5 ct : Nat) (pj : Nat) (pr : Pr) (R : Nat × Bool) (sought : Bool) (k : Nat) (W : World) : Prop :=
  HtK w h n A1 A2 A3 A4 A5 At c1 c2 c3 c4 c5 t.length ct pj sought W ∧ HtR w 0 false W ∧ Boxed W (h + 1) 3 (.int .i64 (k : Nat)) ∧ hitF n t pr pj k (t.length - k) = R
/-- a round has left -/
def HtX (w : World) (h : Nat) (R : Nat × Bool) (c : Code) (_ : Nat) (W : World) : Prop := Gr w W ∧ h + 4 ≤ W.heap.size ∧ ((c = .ret ∧ R.2 = true ∧ HtR w R.1 true W) ∨ (c = .exit 0 ∧ R = (0, false) ∧ HtR w 0 false W))
theorem HtR.own {w W U : World} {k : Nat} {b : Bool} {row : Option Nat} (h : HtR w k b W) (hg : W.grownBy U row) (hr : ∀ r, row = some r → w.heap.size + 4 ≤ r) : HtR w k b U :=
  ⟨h.1.kept hg (fun e => by have := hr _ e.symm; omega), h.2.kept hg (fun e => by have := hr _ e.symm; omega)⟩
theorem HtK.own {w W U : World} {h : Nat} {n : Nt} {A1 A2 A3 A4 A5 At : Option Addr} {c1 c2 c3 c4 c5 tl ct pj : Nat} {sought : Bool} {row : Option Nat} (hh : w.heap.size + 4 ≤ h) (k : HtK w h n A1 A2 A3 A4 A5 At c1 c2 c3 c4 c5 tl ct pj sought W) (hg : W.grownBy U row)
    (hr : ∀ r, row = some r → w.heap.size ≤ r ∧ r ≠ w.heap.size ∧ r ≠ w.heap.size + 1 ∧ r ≠ h ∧ r ≠ h + 2 ∧ r ≠ h + 3) : HtK w h n A1 A2 A3 A4 A5 At c1 c2 c3 c4 c5 tl ct pj sought U := by
  obtain ⟨k1, k2, k3, k4, k5⟩ := k
  refine ⟨k1.own hg (fun r e => by have := hr r e; omega) (by omega) (by omega), bx_own k2 (hg.block _ (by omega) (fun e => by have := hr _ e.symm; omega)), k3.kept hg (fun e => by have := hr _ e.symm; omega), k4.kept hg (fun e => by have := hr _ e.symm; omega), Nat.le_trans k5 hg.size⟩
theorem HtR.set {w W : World} {k : Nat} {b : Bool} (k' : Nat) (b' : Bool) (h : HtR w k b W) : HtR w k' b' ((W.setCell ⟨w.heap.size + 2, 0, none⟩ (.int .i64 (k' : Nat))).setCell ⟨w.heap.size + 3, 0, none⟩ (.bool b')) :=
  ⟨(h.1.set _).other (by omega) _, (h.2.other (by omega) _).set _⟩
theorem HtI.own (w : World) (h : Nat) (hh : w.heap.size + 4 ≤ h) (n : Nt) (t : List (List Nat)) (A1 A2 A3 A4 A5 At : Option Addr) (c1 c2 c3 c4 c5 ct pj : Nat) (pr : Pr) (R : Nat × Bool) (sought : Bool) (B : Nat) (hB : h + 4 ≤ B) : OwnFrom B (HtI w h n t A1 A2 A3 A4 A5 At c1 c2 c3 c4 c5 ct pj pr R sought) := by
  rintro k W U row ⟨h1, h2, h3, h4⟩ hg hr
  exact ⟨h1.own hh hg (fun r e => by have := (hr r e).1; omega), h2.own hg (fun r e => by have := (hr r e).1; omega), h3.kept hg (fun e => by have := (hr _ e.symm).1; omega), h4⟩
theorem HtX.own (w : World) (h : Nat) (hh : w.heap.size + 4 ≤ h) (R : Nat × Bool) (c : Code) (B : Nat) (hB : h + 4 ≤ B) : OwnFrom B (HtX w h R c) := by
  rintro k W U row ⟨h1, h2, h3⟩ hg hr
  refine ⟨h1.grown hg h1.size (fun k e => by have := (hr k e).1; omega), Nat.le_trans h2 hg.size, ?_⟩
  rcases h3 with ⟨a, b, d⟩ | ⟨a, b, d⟩
  · exact .inl ⟨a, b, d.own hg (fun r e => by have := (hr r e).1; omega)⟩
  · exact .inr ⟨a, b, d.own hg (fun r e => by have := (hr r e).1; omega)⟩

/-- is it hit, by what is looked for -/
theorem hitB_eq {p : Pr} (b : Bool) (hk : p.kind = 8 ∨ p.kind = 10) : hitB p b = (b == decide (p.kind = 10)) := by
  unfold hitB
  rcases hk with h | h
  · rw [if_pos h, h]
    cases b <;> decide
  · rw [if_neg (by rw [h]; decide), h]
    cases b <;> decide
/-- one that can't be hit -/
theorem hitOf_no {n : Nt} {t : List (List Nat)} {pi : Int} (h : (hitAsB n pi).2 = false) : hitOf n t pi = (0, false) := by
  unfold hitOf
  unfold hitAsB at h
  by_cases hp : pi < 0
  · rw [if_pos hp]
  · rw [if_neg hp] at h ⊢
    cases hq : n.props[pi.toNat]? with
    | none => rfl
    | some p =>
      simp only [hq] at h
      simp at h
      exact hitF_none (hitF_clear (fun j _ _ => by unfold htA hitB; rw [if_neg h.2]; simp [h.1]))
theorem hitOf_yes {n : Nt} {pi : Int} (h : (hitAsB n pi).2 = true) : ∃ (pj : Nat) (p : Pr), pi = pj ∧ n.props[pj]? = some p ∧ (p.kind = 8 ∨ p.kind = 10) ∧ (hitAsB n pi).1 = decide (p.kind = 10) ∧ ∀ t, hitOf n t pi = hitF n t p pj 0 t.length := by
  unfold hitAsB at h
  by_cases hp : pi < 0
  · rw [if_pos hp] at h
    cases h
  · rw [if_neg hp] at h
    cases hq : n.props[pi.toNat]? with
    | none => simp only [hq] at h; cases h
    | some p =>
      simp only [hq] at h
      simp at h
      refine ⟨pi.toNat, p, by omega, hq, by omega, ?_, fun t => ?_⟩
      · unfold hitAsB
        rw [if_neg hp]
        simp only [hq]
      · unfold hitOf
        rw [if_neg hp]
        simp only [hq]

set_option maxRecDepth 100000 in
set_option maxHeartbeats 8000000 in
theorem SHit_any (n : Nt) (v tv : Value) (pi : Int) (t : List (List Nat)) (w : World) (hs : Sz n) (hn : Hid (NtAt w n v)) (hR : NRight n) (ht : TrOk n t) (htl : t.length ≤ 64) (htv : Hid (RwsR w tv (t.map ofN))) :
    Calls Try.prog 16 #[v, .int .i64 pi, tv] w fun e w' => e = .returned (.tuple #[.int .i64 ((hitOf n t pi).1 : Nat), .bool (hitOf n t pi).2]) ∧ Gr w w' := by
  obtain ⟨R, hRR⟩ : ∃ R, hitOf n t pi = R := ⟨_, rfl⟩
  rw [hRR]
  have hn' := hn
  have HLD := Lib.hid (fun (k : Nat) (r : List Nat) (hk : t[k]? = some r) (sv rv : Value) (u : World) (hu : Gr w u) (hsv : IntR u sv (ofN (stAt n t k))) (hrv : IntR u rv (ofN r)) => by
    have hkl := (List.getElem?_eq_some_iff.1 hk).1
    obtain ⟨hrl, hrk⟩ := ht r (List.mem_of_getElem? hk)
    have hok := ok_at hR ht k (by omega)
    have hz := hs
    unfold Sz at hz
    have hH := holds_any n v sv rv (evAll n (stAt n t k) r) u hs (Lib.hid (hn.out.gr hu)) (evL_len _ _ _ _ (Nat.le_refl _)) (props_in hR)
      (Lib.hid fun u2 hu2 => Eval_any n v sv rv (stAt n t k) r u2 hs (Lib.hid (hn.out.gr (Gr.trans hu hu2))) hR.1 (by rw [stAt_len]; omega) (by omega) (Lib.hid (hsv.gr hu2)) (Lib.hid (hrv.gr hu2)) (Lib.hid (evL_lim hR hok hrk)))
    rw [← bitsAt_row hk] at hH
    exact hH)
  have HA := Lib.hid (fun (u : World) (hu : Gr w u) => hitAs_any n v pi u (Lib.hid (hn.out.gr hu)))
  obtain ⟨A1, A2, A3, A4, A5, c1, c2, c3, c4, c5, rfl, hc1, h1, h2, h3, h4, h5⟩ := hn.out
  have H4 := Lib.hid h4
  clear h1 h2 h3 h4 h5 hc1
  obtain ⟨At, ct, rfl, hct, hrt⟩ := htv.out
  rw [List.length_map] at hct htv ⊢
  have HT := Lib.hid hrt
  clear hrt hct htv
  obtain ⟨W1, eW1, G1, B1, P1, Q1, Z1⟩ : ∃ W1, (((w.alloc (.cells (bxC n A1 A2 A3 A4 A5 c1 c2 c3 c4 c5) 27)).alloc (.cells #[.int .i64 pi] 3)).alloc (.cells #[.int .i64 0] 3)).alloc (.cells #[.bool false] 4) = W1 ∧ Hid (Gr w W1) ∧ Hid (BxAt W1 w.heap.size n A1 A2 A3 A4 A5 c1 c2 c3 c4 c5) ∧ Hid (Boxed W1 (w.heap.size + 1) 3 (.int .i64 pi)) ∧ Hid (HtR w 0 false W1) ∧ Hid (W1.heap.size = w.heap.size + 4) := by
    have g1 : Gr w (w.alloc (.cells (bxC n A1 A2 A3 A4 A5 c1 c2 c3 c4 c5) 27)) := bel_alloc _ _
    have b1 := bx_new w n A1 A2 A3 A4 A5 c1 c2 c3 c4 c5
    have z1 : (w.alloc (.cells (bxC n A1 A2 A3 A4 A5 c1 c2 c3 c4 c5) 27)).heap.size = w.heap.size + 1 := by simp
    generalize w.alloc (.cells (bxC n A1 A2 A3 A4 A5 c1 c2 c3 c4 c5) 27) = X1 at g1 b1 z1 ⊢
    have g2 : Gr X1 (X1.alloc (.cells #[.int .i64 pi] 3)) := bel_alloc _ _
    have b2 := Boxed.new X1 3 (.int .i64 pi)
    have z2 : (X1.alloc (.cells #[.int .i64 pi] 3)).heap.size = w.heap.size + 2 := by simp [z1]
    generalize X1.alloc (.cells #[.int .i64 pi] 3) = X2 at g2 b2 z2 ⊢
    have g3 : Gr X2 (X2.alloc (.cells #[.int .i64 0] 3)) := bel_alloc _ _
    have b3 := Boxed.new X2 3 (.int .i64 0)
    have z3 : (X2.alloc (.cells #[.int .i64 0] 3)).heap.size = w.heap.size + 3 := by simp [z2]
    generalize X2.alloc (.cells #[.int .i64 0] 3) = X3 at g3 b3 z3 ⊢
    have b4 := Boxed.new X3 4 (.bool false)
    have g4 : Gr X3 (X3.alloc (.cells #[.bool false] 4)) := bel_alloc _ _
    rw [z1] at b2
    rw [z2] at b3
    rw [z3] at b4
    exact ⟨_, rfl, Lib.hid (Gr.trans g1 (Gr.trans g2 (Gr.trans g3 g4))), Lib.hid (bx_gr b1 (by omega) (Gr.trans g2 (Gr.trans g3 g4))), Lib.hid (((Gr.trans g3 g4).block _ b2.lt).trans b2), Lib.hid ⟨(g4.block _ b3.lt).trans b3, b4⟩, Lib.hid (by simp [z3])⟩
  refine (callsIn_wide (n := 6)).1 ?_
  refine callsIn_of_wp_marks Try.func16 rfl trivial ?_ rfl
  simp only [Try.ntmps16, List.size_toArray, List.length_cons, List.length_nil, Nat.reduceAdd, Nat.reduceSub, Array.replicate_succ, Array.replicate_zero, List.push_toArray, List.append_toArray, List.nil_append, List.cons_append]
  gi_upto_region 1 with fail
  refine scope_wide ?_
  try rw [eW1]
  clear eW1
  simp only [Nat.add_assoc, Nat.reduceAdd]
  obtain ⟨e0, e1, e2, e3, e4⟩ := B1.out
  have d1 := P1.out.cell
  have HN := Lib.hid (fun (h : (hitAsB n pi).2 = false) => hRR.symm.trans (hitOf_no (t := t) h))
  have HY := Lib.hid (fun (h : (hitAsB n pi).2 = true) => hitOf_yes h)
  generalize hitAsB n pi = sk at HA HN HY
  obtain ⟨sought, ok⟩ := sk
  cases ok with
  | false =>
    obtain rfl := HN.out rfl
    gi_wp2_with (refine ⟨trivial, ?_⟩; gi_at_call 33; refine (callsIn_wide.2 (HA.out _ G1.out)).mono ?_; rintro e w2 ⟨rfl, hg1⟩; have HG2 := Lib.hid (Gr.trans hg1 (bel_alloc w2 (.cells #[.bool sought] 4))); clear hg1 e0 e1 e2 e3 e4 d1; obtain ⟨⟨d2, f2⟩, d3, f3⟩ : (((w2.alloc (.cells #[.bool sought] 4)).cell? ⟨w.heap.size + 2, 0, none⟩ = some (.int .i64 0) ∧ (w2.alloc (.cells #[.bool sought] 4)).frozen? ⟨w.heap.size + 2, 0, none⟩ = false) ∧ (w2.alloc (.cells #[.bool sought] 4)).cell? ⟨w.heap.size + 3, 0, none⟩ = some (.bool false) ∧ (w2.alloc (.cells #[.bool sought] 4)).frozen? ⟨w.heap.size + 3, 0, none⟩ = false) := (by
      have q1 : Boxed (w2.alloc (.cells #[.bool sought] 4)) (w.heap.size + 2) 3 (.int .i64 0) := (HG2.out.block _ Q1.out.1.lt).trans Q1.out.1
      have q2 : Boxed (w2.alloc (.cells #[.bool sought] 4)) (w.heap.size + 3) 4 (.bool false) := (HG2.out.block _ Q1.out.2.lt).trans Q1.out.2
      exact ⟨⟨q1.cell, q1.frozen⟩, q2.cell, q2.frozen⟩))
    obtain ⟨U, eU, HQ, HGU⟩ : ∃ U, (((w2.alloc (.cells #[.bool sought] 4)).setCell ⟨w.heap.size + 2, 0, none⟩ (.int .i64 0)).setCell ⟨w.heap.size + 3, 0, none⟩ (.bool false)) = U ∧ Hid (HtR w 0 false U) ∧ Hid (Gr w U) :=
      ⟨_, rfl, Lib.hid (HtR.set (0 : Nat) false ⟨(HG2.out.block _ Q1.out.1.lt).trans Q1.out.1, (HG2.out.block _ Q1.out.2.lt).trans Q1.out.2⟩),
        Lib.hid (Below.setCell (Below.setCell (Below.trans G1.out (HG2.out.mono G1.out.size)) (p := ⟨w.heap.size + 2, 0, none⟩) (by simp) _) (p := ⟨w.heap.size + 3, 0, none⟩) (by simp) _)⟩
    rw [eU]
    have q2 := HQ.out.1.cell
    have q3 := HQ.out.2.cell
    refine ⟨.tuple #[.int .i64 0, .bool false], ?_, rfl, HGU.out⟩
    simp [results, Try.f16, go_sem, q2, q3]
  | true =>
    obtain ⟨pj, pr, rfl, hpr, hkd, hsg, hht⟩ := HY.out rfl
    replace hsg : sought = decide (pr.kind = 10) := hsg
    have hR0 : hitF n t pr pj 0 t.length = R := (hht t).symm.trans hRR
    have HP := Lib.hid (And.intro hpr (And.intro hkd (And.intro hsg hR0)))
    clear hpr hkd hsg hht hR0 hRR HN HY
    gi_wp2_with (refine ⟨trivial, ?_⟩; gi_at_call 33; refine (callsIn_wide.2 (HA.out _ G1.out)).mono ?_; rintro e w2 ⟨rfl, hg1⟩; have HG2 := Lib.hid hg1; clear hg1 e0 e1 e2 e3 e4 d1)
    refine wpIn_label ?_
    obtain ⟨h, hh⟩ : ∃ h, w2.heap.size = h := ⟨_, rfl⟩
    have hwh : w.heap.size + 4 ≤ h := by have := HG2.out.size; have := Z1.out; omega
    obtain ⟨W3, eW3, G3, X3, Y3, Z3⟩ : ∃ W3, (w2.alloc (.cells #[.bool sought] 4)).alloc (.cells #[.int .i64 0] 3) = W3 ∧ Hid (Gr W1 W3) ∧ Hid (Boxed W3 h 4 (.bool sought)) ∧ Hid (Boxed W3 (h + 1) 3 (.int .i64 0)) ∧ Hid (W3.heap.size = h + 2) := by
      have b1 := Boxed.new w2 4 (.bool sought)
      have z1 : (w2.alloc (.cells #[.bool sought] 4)).heap.size = h + 1 := by simp [hh]
      have b2 := Boxed.new (w2.alloc (.cells #[.bool sought] 4)) 3 (.int .i64 0)
      have g2 : Gr (w2.alloc (.cells #[.bool sought] 4)) ((w2.alloc (.cells #[.bool sought] 4)).alloc (.cells #[.int .i64 0] 3)) := bel_alloc _ _
      rw [z1] at b2
      rw [hh] at b1
      exact ⟨_, rfl, Lib.hid (Gr.trans HG2.out (Gr.trans (bel_alloc _ _) g2)), Lib.hid ((g2.block _ b1.lt).trans b1), Lib.hid b2, Lib.hid (by simp [hh])⟩
    rw [eW3]
    clear eW3
    simp only [hh]
    obtain ⟨e0, e1, e2, e3, e4⟩ := bx_own B1.out (G3.out.block _ (by have := Z1.out; omega))
    gi_wp2_with (refine ⟨trivial, ?_⟩; gi_at_call 34; refine (callsIn_wide.2 (cycles_any n A1 A2 A3 A4 A5 At c1 c2 c3 c4 c5 t.length ct _)).mono ?_; rintro e w4 ⟨rfl, rfl⟩)
    clear e0 e1 e2 e3 e4
    obtain ⟨W0, eW, GW, C2, C3, HZ⟩ : ∃ W0, (W3.alloc (.cells (bxC n A1 A2 A3 A4 A5 c1 c2 c3 c4 c5) 27)).alloc (.cells #[.slice At t.length ct] 28) = W0 ∧ Hid (Gr W3 W0) ∧ Hid (BxAt W0 (h + 2) n A1 A2 A3 A4 A5 c1 c2 c3 c4 c5) ∧ Hid (W0.cell? ⟨h + 3, 0, none⟩ = some (.slice At t.length ct)) ∧ Hid (W0.heap.size = h + 4) := by
      have z2 := Z3.out
      have g3 : Gr W3 (W3.alloc (.cells (bxC n A1 A2 A3 A4 A5 c1 c2 c3 c4 c5) 27)) := bel_alloc _ _
      have b3 := bx_new W3 n A1 A2 A3 A4 A5 c1 c2 c3 c4 c5
      have z3 : (W3.alloc (.cells (bxC n A1 A2 A3 A4 A5 c1 c2 c3 c4 c5) 27)).heap.size = h + 3 := by simp [z2]
      generalize W3.alloc (.cells (bxC n A1 A2 A3 A4 A5 c1 c2 c3 c4 c5) 27) = X at g3 b3 z3 ⊢
      have b4 := Boxed.new X 28 (.slice At t.length ct)
      have g4 : Gr X (X.alloc (.cells #[.slice At t.length ct] 28)) := bel_alloc _ _
      rw [z2] at b3
      rw [z3] at b4
      exact ⟨_, rfl, Lib.hid (Gr.trans g3 g4), Lib.hid (bx_gr b3 (by omega) g4), Lib.hid b4.cell, Lib.hid (by simp [z3])⟩
    rw [eW]
    clear eW
    simp only [Z3.out, Nat.add_assoc, Nat.reduceAdd]
    have I0 := Lib.hid (show HtI w h n t A1 A2 A3 A4 A5 At c1 c2 c3 c4 c5 ct pj pr R sought 0 W0 from by
      have g5 := Gr.trans G3.out GW.out
      exact ⟨⟨⟨Gr.trans G1.out g5, C2.out, C3.out⟩, bx_own B1.out (g5.block _ (by have := Z1.out; omega)), (g5.block _ P1.out.lt).trans P1.out, (GW.out.block _ X3.out.lt).trans X3.out, by rw [HZ.out]; exact Nat.le_refl _⟩, ⟨(g5.block _ Q1.out.1.lt).trans Q1.out.1, (g5.block _ Q1.out.2.lt).trans Q1.out.2⟩, (GW.out.block _ Y3.out.lt).trans Y3.out, HP.out.2.2.2⟩)
    clear GW C2 C3 G3 X3 Y3 B1 P1 Q1 Z1 HG2 HA
    refine cyc_range 6 (by omega) n t A1 A2 A3 A4 A5 At c1 c2 c3 c4 c5 ct (h + 2) (h + 3) w hs hR ht htl hn' HT rfl rfl
      (HtI w h n t A1 A2 A3 A4 A5 At c1 c2 c3 c4 c5 ct pj pr R sought) (HtX w h R) (HtI.own _ _ hwh _ _ _ _ _ _ _ _ _ _ _ _ _ _ _ _ _ _ _ (by rw [HZ.out]; exact Nat.le_refl _)) (fun c => HtX.own w h hwh R c _ (by rw [HZ.out]; exact Nat.le_refl _)) (fun k U hU => hU.1.1)
      I0.out
      (fun sv rv => { tmps := #[ntV A1 A2 A3 A4 A5 n.nodes.length n.ins.length n.cells.length n.props.length n.names.length c1 c2 c3 c4 c5, .int .i64 (pj : Nat), .slice At t.length ct, .pointer (some ⟨w.heap.size, 0, none⟩), .pointer (some ⟨w.heap.size + 1, 0, none⟩), undef, .pointer (some ⟨w.heap.size + 2, 0, none⟩), .pointer (some ⟨w.heap.size + 3, 0, none⟩), .pointer (some ⟨h, 0, none⟩), .bool true, .pointer (some ⟨h + 1, 0, none⟩), sv, rv, undef, undef, undef, .tuple #[.bool sought, .bool true], ntV A1 A2 A3 A4 A5 n.nodes.length n.ins.length n.cells.length n.props.length n.names.length c1 c2 c3 c4 c5, .int .i64 (pj : Nat), .tuple #[.bool sought, .bool true], .bool sought, .bool true, .bool true, .bool false, ntV A1 A2 A3 A4 A5 n.nodes.length n.ins.length n.cells.length n.props.length n.names.length c1 c2 c3 c4 c5, .slice At t.length ct, .func (.func 50) #[] #[.pointer (some ⟨h + 2, 0, none⟩), .pointer (some ⟨h + 3, 0, none⟩)], sv, rv, undef, undef, undef, undef, undef, undef, undef, undef, undef, undef, undef, undef, undef, undef, undef, undef, undef, undef, undef, undef, undef, undef, undef, undef, undef, undef, undef, undef, undef, undef, undef, undef], defers := [] }) ?assign ?body ?done ?stop
    case assign =>
      intro l sv rv W K hK
      gi_wp2
      exact hK
    case done =>
      rintro D W hD hI hK
      have HO := HtI.own w h hwh n t A1 A2 A3 A4 A5 At c1 c2 c3 c4 c5 ct pj pr R sought W0.heap.size (by rw [HZ.out]; exact Nat.le_refl _)
      obtain ⟨k1, k2, -, k4⟩ := hI
      rw [Nat.sub_self] at k4
      obtain rfl : R = (0, false) := k4.symm
      have HB := Lib.hid (And.intro k1.1.1 k2)
      have d2 := k2.1.cell
      have f2 := k2.1.frozen
      have d3 := k2.2.cell
      have f3 := k2.2.frozen
      have HDD := Lib.hid hD
      have HKK := Lib.hid hK
      clear k1 k2 HO hD hK
      gi_wp2
      have hK3 := (KeepsOthers.setCell (W.setCell ⟨w.heap.size + 2, 0, none⟩ (.int .i64 0)) ⟨w.heap.size + 3, 0, none⟩ (.bool false)).same D _ ((KeepsOthers.setCell W ⟨w.heap.size + 2, 0, none⟩ (.int .i64 0)).same D _ HKK.out rfl) rfl
      obtain ⟨U, eU, HQ, HGU⟩ : ∃ U, ((W.setCell ⟨w.heap.size + 2, 0, none⟩ (.int .i64 0)).setCell ⟨w.heap.size + 3, 0, none⟩ (.bool false)) = U ∧ Hid (HtR w 0 false U) ∧ Hid (Gr w U) :=
        ⟨_, rfl, Lib.hid (HB.out.2.set (0 : Nat) false), Lib.hid (Below.setCell (Below.setCell HB.out.1 (p := ⟨w.heap.size + 2, 0, none⟩) (by simp) _) (p := ⟨w.heap.size + 3, 0, none⟩) (by simp) _)⟩
      rw [eU] at hK3 ⊢
      have hx := HQ.out.own (grownBy_putObj' U D (.deferred none)) (fun r e => by cases e; have := HDD.out; have := HZ.out; omega)
      have q2 := hx.1.cell
      have q3 := hx.2.cell
      refine ⟨by simp, .inl ⟨_, _, rfl, run_takeDeferred hK3, .tuple #[.int .i64 0, .bool false], ?_, rfl, Below.trans HGU.out (belowK_b (w := w) (Nat.le_refl _) U D _ _ (by have := HDD.out; have := HZ.out; omega) hK3 rfl rfl)⟩⟩
      simp [results, Try.f16, go_sem, q2, q3]
    case stop =>
      rintro D c k W hD hk ⟨x1, x2, x3⟩ hK
      have HDD := Lib.hid hD
      rcases x3 with ⟨rfl, hr2, hq⟩ | ⟨rfl, rfl, hq⟩
      · obtain ⟨r1, r2⟩ := R
        obtain rfl : r2 = true := hr2
        have HB := Lib.hid (And.intro x1 hq)
        have HKK := Lib.hid hK
        clear x1 hq hD hK
        gi_wp2
        have hx := HB.out.2.own (grownBy_putObj' W D (.deferred none)) (fun r e => by cases e; have := HDD.out; have := HZ.out; omega)
        have q2 := hx.1.cell
        have q3 := hx.2.cell
        refine ⟨by simp, .inl ⟨_, _, rfl, run_takeDeferred HKK.out, .tuple #[.int .i64 (r1 : Nat), .bool true], ?_, rfl, Below.trans HB.out.1 (belowK_b (w := w) (Nat.le_refl _) W D _ _ (by have := HDD.out; have := HZ.out; omega) HKK.out rfl rfl)⟩⟩
        simp [results, Try.f16, go_sem, q2, q3]
      · have HB := Lib.hid (And.intro x1 hq)
        have d2 := hq.1.cell
        have f2 := hq.1.frozen
        have d3 := hq.2.cell
        have f3 := hq.2.frozen
        have HKK := Lib.hid hK
        clear x1 hq hD hK
        gi_wp2
        have hK3 := (KeepsOthers.setCell (W.setCell ⟨w.heap.size + 2, 0, none⟩ (.int .i64 0)) ⟨w.heap.size + 3, 0, none⟩ (.bool false)).same D _ ((KeepsOthers.setCell W ⟨w.heap.size + 2, 0, none⟩ (.int .i64 0)).same D _ HKK.out rfl) rfl
        obtain ⟨U, eU, HQ, HGU⟩ : ∃ U, ((W.setCell ⟨w.heap.size + 2, 0, none⟩ (.int .i64 0)).setCell ⟨w.heap.size + 3, 0, none⟩ (.bool false)) = U ∧ Hid (HtR w 0 false U) ∧ Hid (Gr w U) :=
          ⟨_, rfl, Lib.hid (HB.out.2.set (0 : Nat) false), Lib.hid (Below.setCell (Below.setCell HB.out.1 (p := ⟨w.heap.size + 2, 0, none⟩) (by simp) _) (p := ⟨w.heap.size + 3, 0, none⟩) (by simp) _)⟩
        rw [eU] at hK3 ⊢
        have hx := HQ.out.own (grownBy_putObj' U D (.deferred none)) (fun r e => by cases e; have := HDD.out; have := HZ.out; omega)
        have q2 := hx.1.cell
        have q3 := hx.2.cell
        refine ⟨by simp, .inl ⟨_, _, rfl, run_takeDeferred hK3, .tuple #[.int .i64 0, .bool false], ?_, rfl, Below.trans HGU.out (belowK_b (w := w) (Nat.le_refl _) U D _ _ (by have := HDD.out; have := HZ.out; omega) hK3 rfl rfl)⟩⟩
        simp [results, Try.f16, go_sem, q2, q3]
    case body =>
      rintro l k r sv rv Wp W hk hl hIp hIw hKc hfr hsv hrv
      have hkl := (List.getElem?_eq_some_iff.1 hk).1
      obtain ⟨bs, hbs⟩ : ∃ bs, bitsAt n t k = bs := ⟨_, rfl⟩
      have hbl : bs.length = n.props.length := by rw [← hbs, bitsAt_len hkl]
      have hsep : ∀ b, sv.ownBlock = some b → h + 4 ≤ b := fun b hb => Nat.le_trans hIp.1.2.2.2.2 (hfr b hb)
      obtain ⟨hK, hRR0, hkb, hit⟩ := hIw
      obtain ⟨m, hm⟩ : ∃ m, t.length - k = m + 1 := ⟨t.length - k - 1, by omega⟩
      have hit2 : hitF n t pr pj k (m + 1) = R := by rw [← hm]; exact hit
      rw [hitF, hbs] at hit2
      have hm2 : t.length - (k + 1) = m := by omega
      have HW := Lib.hid (And.intro hK (And.intro hRR0 (And.intro hkb hsv)))
      have KP := Lib.hid (show ∀ u, Gr W u → BxAt u w.heap.size n A1 A2 A3 A4 A5 c1 c2 c3 c4 c5 from fun u hu => bx_own hK.2.1 (hu.block _ (by have := hK.2.2.2.2; omega)))
      have HS := Lib.hid hsep
      have HT2 := Lib.hid (And.intro hit2 (And.intro hm2 hbl))
      have HC := Lib.hid (show ∀ u, Gr W u → CallsIn Fence.wide 3 Try.prog 35 #[ntV A1 A2 A3 A4 A5 n.nodes.length n.ins.length n.cells.length n.props.length n.names.length c1 c2 c3 c4 c5, sv, rv] u (BitRet u bs) from fun u hu => callsIn_wide.2 (by have hq := HLD.out k r hk sv rv u (Below.trans hK.1.1 (hu.mono hK.1.1.size)) (hsv.gr hu) (hrv.gr hu); rw [hbs] at hq; exact hq))
      have H4W := Lib.hid (show ∀ u, Gr W u → Prs u u.heap.size A4 n.props from fun u hu => H4.out.gr (Below.trans hK.1.1 (hu.mono hK.1.1.size)))
      clear hK hRR0 hkb hit hit2 hsep hm hm2 hIp hKc hfr hsv hrv hbs HLD
      obtain ⟨e0, e1, e2, e3, e4⟩ := KP.out _ (Gr.refl W)
      gi_upto_region 9 with (refine ⟨trivial, ?_⟩; gi_at_call 35; refine (HC.out _ (Gr.refl _)).mono ?_; rintro e u1 ⟨x, rfl, hx, hg1, -⟩; obtain ⟨Ax, cx, ex, -, hxb⟩ := id hx; subst ex; have G1 := Lib.hid hg1; have HX := Lib.hid hxb; clear hx hxb hg1 e0 e1 e2 e3 e4; obtain ⟨e0, e1, e2, e3, e4⟩ := KP.out _ G1.out)
      have hz := hs
      unfold Sz at hz
      obtain ⟨-, -, -, hpl, -⟩ := hz
      gi_wp2
      clear e0 e1 e2 e3 e4
      gi_loopw [36] (fun i wr => ∃ j : Nat, j ≤ n.props.length ∧ i = .int .i64 (j : Nat) ∧ Hid (Gr u1 wr) ∧ Hid (∀ (q : Nat) (p : Pr), q < j → n.props[q]? = some p → p.kind = 9 → bs[q]? = some true)) (fun i _ => n.props.length - (intOf i).toNat)
      case atStart => exact ⟨0, Nat.zero_le _, rfl, Lib.hid (Gr.refl _), Lib.hid (fun q p hq => by omega)⟩
      case round =>
        obtain ⟨j, hj, rfl, HG, HA⟩ := hrel
        have HGW := Lib.hid (Gr.trans G1.out HG.out)
        by_cases hlt : j < n.props.length
        · have hp : n.props[j]? = some n.props[j] := List.getElem?_eq_getElem hlt
          generalize n.props[j] = p at hp
          obtain ⟨bp, op, rfl, -, d0, d1, d2⟩ := (H4W.out _ HGW.out) j p hp
          have hjb : j < bs.length := by rw [HT2.out.2.2]; exact hlt
          have hb : bs[j]? = some bs[j] := List.getElem?_eq_getElem hjb
          generalize bs[j] = b at hb
          obtain ⟨bb, ob, rfl, hbb, y0⟩ := HX.out j b hb
          have hy := cell_up HG.out hbb y0
          have HPJ := Lib.hid (And.intro hp hb)
          have j1 : (j : Int) < (n.props.length : Int) := by omega
          have j2 : (0 : Int) ≤ (j : Int) := by omega
          have j3 : (j : Int) < (bs.length : Int) := by omega
          gi_upto_region 12 with fail
          obtain ⟨V, eV, GV, k0, ky⟩ : ∃ V, wr.alloc (.cells #[.int .i64 p.kind, .string p.s, .int .i64 p.node] 47) = V ∧ Hid (Gr wr V) ∧ V.cell? ⟨wr.heap.size, 0, none⟩ = some (.int .i64 p.kind) ∧ V.cell? ⟨bb, ob + j, none⟩ = some (.bool b) :=
            ⟨_, rfl, Lib.hid (bel_alloc _ _), new_cells _ _ _ _ _ rfl, cell_up (bel_alloc _ _) (Nat.lt_of_lt_of_le hbb HG.out.size) hy⟩
          try rw [eV]
          clear eV d0 d1 d2 hp hb y0 hy
          by_cases h9 : p.kind = 9
          · rw [h9] at k0
            have H9 := Lib.hid h9
            clear h9
            cases b with
            | false =>
              have HR := Lib.hid (show R = (0, false) from by
                have hq := HT2.out.1
                rw [if_pos (legL_none HPJ.out.1 H9.out HPJ.out.2)] at hq
                exact hq.symm)
              gi_wp2
              have gW := Gr.trans HGW.out GV.out
              refine ⟨(KeepsOthers.of_grownBy (grew gW) (fun j2 o2 e2 => by cases e2)).from _, Below.trans HW.out.1.1.1 (gW.mono HW.out.1.1.1.size), Nat.le_trans HW.out.1.2.2.2.2 gW.size, .inr ⟨rfl, HR.out, HW.out.2.1.own (grew gW) (fun r e2 => by cases e2)⟩⟩
            | true =>
              gi_wp2
              go_roundw
              case rel =>
                refine ⟨j + 1, by omega, by go_num, Lib.hid (Gr.trans HG.out GV.out), Lib.hid (fun q p' hq hp' hk' => ?_)⟩
                by_cases e : q = j
                · subst e
                  exact HPJ.out.2
                · exact HA.out q p' (by omega) hp' hk'
              case measure => simp [intOf]; omega
          · have q9 : (p.kind == 9) = false := by simp [h9]
            have H9 := Lib.hid h9
            clear h9
            gi_wp2
            go_roundw
            case rel =>
              refine ⟨j + 1, by omega, by go_num, Lib.hid (Gr.trans HG.out GV.out), Lib.hid (fun q p' hq hp' hk' => ?_)⟩
              by_cases e : q = j
              · subst e
                obtain rfl := Option.some.inj (HPJ.out.1.symm.trans hp')
                exact absurd hk' H9.out
              · exact HA.out q p' (by omega) hp' hk'
            case measure => simp [intOf]; omega
        · obtain rfl : j = n.props.length := by omega
          have hd1 : ¬ ((n.props.length : Int) < (n.props.length : Int)) := by omega
          gi_upto_region 14 with fail
          have hlg : legL n.props bs = true := legL_all (fun q p hp hk9 => HA.out q p (List.getElem?_eq_some_iff.1 hp).1 hp hk9)
          have hpjl := (List.getElem?_eq_some_iff.1 HP.out.1).1
          have hb : bs[pj]? = some bs[pj] := List.getElem?_eq_getElem (by rw [HT2.out.2.2]; exact hpjl)
          generalize bs[pj]'_ = b at hb
          obtain ⟨bb, ob, rfl, hbb, y0⟩ := HX.out pj b hb
          have hy := cell_up HG.out hbb y0
          have HN := Lib.hid (show (if (b == sought) = true then (k, true) else hitF n t pr pj (k + 1) m) = R from by
            have hq := HT2.out.1
            rw [if_neg (by rw [hlg]; decide), hb] at hq
            rw [HP.out.2.2.1, ← hitB_eq b HP.out.2.1]
            exact hq)
          have HWD := Lib.hid (show HtK w h n A1 A2 A3 A4 A5 At c1 c2 c3 c4 c5 t.length ct pj sought wr ∧ HtR w 0 false wr ∧ Boxed wr (h + 1) 3 (.int .i64 (k : Nat)) from
            ⟨HW.out.1.own hwh (grew HGW.out) (fun r e2 => by cases e2), HW.out.2.1.own (grew HGW.out) (fun r e2 => by cases e2), (HGW.out.block _ HW.out.2.2.1.lt).trans HW.out.2.2.1⟩)
          have p1 := HWD.out.1.2.2.1.cell
          have s1 := HWD.out.1.2.2.2.1.cell
          have k1 := HWD.out.2.2.cell
          have k2 := HWD.out.2.2.frozen
          have r1 := HWD.out.2.1.1.cell
          have r2 := HWD.out.2.1.1.frozen
          have r3 := HWD.out.2.1.2.cell
          have r4 := HWD.out.2.1.2.frozen
          have i1 : (pj : Int) < (bs.length : Int) := by have := HT2.out.2.2; omega
          have i2 : (0 : Int) ≤ (pj : Int) := by omega
          obtain ⟨qq, hqq⟩ : ∃ qq, (b == sought) = qq := ⟨_, rfl⟩
          have HQQ := Lib.hid hqq
          have KO := Lib.hid (KeepsOthers.of_grownBy (grew HGW.out) (fun j2 o2 e2 => by cases e2))
          have GWR := Lib.hid HWD.out.1.1.1
          clear hb y0 hlg
          cases qq with
          | true =>
            have HR := Lib.hid (show ((k : Nat), true) = R from by have hq := HN.out; rw [hqq, if_pos rfl] at hq; exact hq)
            have HE := Lib.hid (show KeepsFrom W0.heap.size W ((wr.setCell ⟨w.heap.size + 2, 0, none⟩ (.int .i64 (k : Nat))).setCell ⟨w.heap.size + 3, 0, none⟩ (.bool true)).drew ∧ HtX w h R .ret (k + 1) ((wr.setCell ⟨w.heap.size + 2, 0, none⟩ (.int .i64 (k : Nat))).setCell ⟨w.heap.size + 3, 0, none⟩ (.bool true)).drew from by
              refine ⟨(((KO.out.trans (KeepsOthers.setCell _ _ _)).trans (KeepsOthers.setCell _ _ _)).trans (KeepsOthers.drew _)).from _, ((GWR.out.setCell (p := ⟨w.heap.size + 2, 0, none⟩) (by simp) _).setCell (p := ⟨w.heap.size + 3, 0, none⟩) (by simp) _).drew, ?_, .inl ⟨rfl, by rw [← HR.out], ?_⟩⟩
              · have hq := ((KeepsOthers.setCell wr ⟨w.heap.size + 2, 0, none⟩ (.int .i64 (k : Nat))).trans (KeepsOthers.setCell _ ⟨w.heap.size + 3, 0, none⟩ (.bool true))).size
                exact Nat.le_trans HWD.out.1.2.2.2.2 hq
              · rw [← HR.out]
                exact HWD.out.2.1.set k true)
            gi_region
            all_goals gi_wp2
            all_goals exact HE.out
          | false =>
            have HR := Lib.hid (show hitF n t pr pj (k + 1) (t.length - (k + 1)) = R from by have hq := HN.out; rw [hqq, if_neg (by decide)] at hq; rw [HT2.out.2.1]; exact hq)
            have HE := Lib.hid (show KeepsFrom W0.heap.size W (wr.setCell ⟨h + 1, 0, none⟩ (.int .i64 ((k : Int) + 1))).drew ∧ IntR (wr.setCell ⟨h + 1, 0, none⟩ (.int .i64 ((k : Int) + 1))).drew sv (ofN (stAt n t k)) ∧ HtI w h n t A1 A2 A3 A4 A5 At c1 c2 c3 c4 c5 ct pj pr R sought (k + 1) (wr.setCell ⟨h + 1, 0, none⟩ (.int .i64 ((k : Int) + 1))).drew from by
              have hgs := grownBy_setCell' wr (h + 1) (.int .i64 ((k : Int) + 1))
              refine ⟨((KO.out.trans (KeepsOthers.setCell _ _ _)).trans (KeepsOthers.drew _)).from _, (intr_grown (HW.out.2.2.2.gr HGW.out) hgs (fun _ b hb e2 => by cases e2; have := HS.out _ hb; omega)).gr (Gr.drew _), ?_, ?_, ?_, HR.out⟩
              · exact (HWD.out.1.own hwh hgs (fun r e2 => by cases e2; omega)).own hwh (grew (Gr.drew _)) (fun r e2 => by cases e2)
              · exact (HWD.out.2.1.own hgs (fun r e2 => by cases e2; omega)).own (grew (Gr.drew _)) (fun r e2 => by cases e2)
              · exact HWD.out.2.2.set _)
            gi_region
            all_goals gi_wp2
            all_goals exact HE.out
end Go.Proofs.Ytmnblcnhbafcpaa
