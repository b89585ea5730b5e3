/-
  FUNCTION VALUES THAT READ ONE PORT, ONE ARGUMENT, ONE BIND, WALKED.
-/
import Derived.Test.YtccjbpghpoblhaaDoorK13
/-
  PORTS, BINDS, ARGUMENTS, WALKED.
-/
namespace Go.Proofs.YtccjbpghpoblhaaDoor
open Go.RowKit

def pPortR (T : List LexM.Tk) (b : Bool) (n : Nat) : PR (Bool × List UInt8 × Dm) := thn (pName T n) fun l n1 => thn (pNeed T n1 [58]) fun _ n2 => thn (pDim T n2) fun d n3 => .ok ((b, l, d), n3)
def pPort (T : List LexM.Tk) (n : Nat) : PR (Bool × List UInt8 × Dm) := if tokIs T n [105, 110] = true then pPortR T true (n + 1) else thn (pNeed T n [111, 117, 116]) fun _ n1 => pPortR T false n1
def vPort (p : Bool × List UInt8 × Dm) (_ : World) (v : Value) : Prop := v = .agg (portCells p).toArray

theorem setCells12 (w : World) (g : Nat) (x0 x1 x2 x3 x4 x5 x6 x7 x8 x9 x10 x11 : Value) : w.setCells g 0 [x0, x1, x2, x3, x4, x5, x6, x7, x8, x9, x10, x11] = (((((((((((w.setCell ⟨g, 0, none⟩ x0).setCell ⟨g, 1, none⟩ x1).setCell ⟨g, 2, none⟩ x2).setCell ⟨g, 3, none⟩ x3).setCell ⟨g, 4, none⟩ x4).setCell ⟨g, 5, none⟩ x5).setCell ⟨g, 6, none⟩ x6).setCell ⟨g, 7, none⟩ x7).setCell ⟨g, 8, none⟩ x8).setCell ⟨g, 9, none⟩ x9).setCell ⟨g, 10, none⟩ x10).setCell ⟨g, 11, none⟩ x11 := rfl
set_option maxRecDepth 100000 in
set_option maxHeartbeats 1000000 in
theorem port_any (P : Pr) (V : Va) (n : Nat) (w : World) (h : Hid (St P V n w)) :
    Calls Tryd.prog 60 #[.pointer (some ⟨P.b, 0, none⟩)] w (Got P V w (pPort P.T n) vPort) := by
  have hlt := h.out.lt
  have hB := h.out.hB
  by_cases hT : tokIs P.T n [105, 110] = true
  · go_enter Tryd.func60, Tryd.ntmps60
    go_wp2_with fail
    refine (take_yes P V n [105, 110] _ (Lib.hid (h.out.alloc _)) hT).mono ?_
    rintro e w1 ⟨rfl, hf, hs⟩
    have F1 := Lib.hid ((Fr.alloc _ _ _).trans hf)
    have S1 := Lib.hid hs
    have B1 := Lib.hid (hf.keep (new_at w _) (by omega))
    clear hf hs
    go_wp2_with fail
    refine (name_any P V (n + 1) _ S1).mono ?_
    intro e w2 hG
    rcases hG.elim with ⟨x, m, hN, hf, hs, rfl⟩ | ⟨a2, m2, v2, hN, hf, hs, rfl, hv⟩
    · have E2 := Lib.hid hN
      have F2 := Lib.hid (F1.out.trans hf)
      have S2 := Lib.hid hs
      clear hN hf hs hG
      go_wp2_with fail
      refine ⟨rfl, ?_⟩
      exact got_bad (by unfold pPort; rw [if_pos hT]; unfold pPortR; rw [E2.out, thn_err]) F2.out S2.out rfl
    unfold vStr at hv
    subst hv
    have E2 := Lib.hid hN
    have F2 := Lib.hid (F1.out.trans hf)
    have S2 := Lib.hid hs
    have B2 := Lib.hid (hf.keep B1.out (by omega))
    clear hN hf hs hG
    go_wp2_with fail
    refine (need_any P V m2 [58] _ S2).mono ?_
    intro e w3 hG
    rcases hG.elim with ⟨x, m, hN, hf, hs, rfl⟩ | ⟨a3, m3, v3, hN, hf, hs, rfl, hv⟩
    · have E3 := Lib.hid hN
      have F3 := Lib.hid (F2.out.trans hf)
      have S3 := Lib.hid hs
      clear hN hf hs hG
      go_wp2_with fail
      refine ⟨rfl, ?_⟩
      exact got_bad (by unfold pPort; rw [if_pos hT]; unfold pPortR; rw [E2.out, thn_ok, E3.out, thn_err]) F3.out S3.out rfl
    have E3 := Lib.hid hN
    have F3 := Lib.hid (F2.out.trans hf)
    have S3 := Lib.hid hs
    have B3 := Lib.hid (hf.keep B2.out (by omega))
    clear hN hf hs hG hv
    go_wp2_with fail
    refine (dim_any P V m3 _ S3).mono ?_
    intro e w4 hG
    rcases hG.elim with ⟨x, m, hN, hf, hs, rfl⟩ | ⟨a4, m4, v4, hN, hf, hs, rfl, hv⟩
    · have E4 := Lib.hid hN
      have F4 := Lib.hid (F3.out.trans hf)
      have S4 := Lib.hid hs
      clear hN hf hs hG
      go_wp2_with fail
      refine ⟨rfl, ?_⟩
      exact got_bad (by unfold pPort; rw [if_pos hT]; unfold pPortR; rw [E2.out, thn_ok, E3.out, thn_ok, E4.out, thn_err]) F4.out S4.out rfl
    unfold vDim at hv
    subst hv
    have E4 := Lib.hid hN
    have F4 := Lib.hid (F3.out.trans hf)
    have S4 := Lib.hid hs
    have B4 := Lib.hid (hf.keep B3.out (by omega))
    clear hN hf hs hG
    have d0 := cell_at (o := 0) B4.out
    have z0 := frozen_at (o := 0) B4.out
    have d1 := cell_at (o := 1) B4.out
    have z1 := frozen_at (o := 1) B4.out
    have d2 := cell_at (o := 2) B4.out
    have z2 := frozen_at (o := 2) B4.out
    have d3 := cell_at (o := 3) B4.out
    have z3 := frozen_at (o := 3) B4.out
    go_wp2_with fail
    refine bodyPost_ret (v := .agg (portCells (true, a2, a4)).toArray) (by simp [results, Tryd.results60, go_sem, portCells, d0, d1, d2, d3]) rfl ?_
    exact got_ok (a := (true, a2, a4)) (m := m4) (by unfold pPort; rw [if_pos hT]; unfold pPortR; rw [E2.out, thn_ok, E3.out, thn_ok, E4.out, thn_ok]) (((((F4.out).put (Nat.le_refl _) _).put (Nat.le_refl _) _).put (Nat.le_refl _) _).put (Nat.le_refl _) _) ((((S4.out.put hB _).put hB _).put hB _).put hB _) rfl
  · have hT' : tokIs P.T n [105, 110] = false := by simpa using hT
    go_enter Tryd.func60, Tryd.ntmps60
    go_wp2_with fail
    refine (take_no P V n [105, 110] _ (Lib.hid (h.out.alloc _)) hT').mono ?_
    rintro e w1 ⟨rfl, hf, hs⟩
    have F1 := Lib.hid ((Fr.alloc _ _ _).trans hf)
    have S1 := Lib.hid hs
    have B1 := Lib.hid (hf.keep (new_at w _) (by omega))
    clear hf hs
    go_wp2_with fail
    refine (need_any P V n [111, 117, 116] _ S1).mono ?_
    intro e w2 hG
    rcases hG.elim with ⟨x, m, hN, hf, hs, rfl⟩ | ⟨a2, m2, v2, hN, hf, hs, rfl, hv⟩
    · have E2 := Lib.hid hN
      have F2 := Lib.hid (F1.out.trans hf)
      have S2 := Lib.hid hs
      clear hN hf hs hG
      go_wp2_with fail
      refine ⟨rfl, ?_⟩
      exact got_bad (by unfold pPort; rw [if_neg hT]; unfold pPortR; rw [E2.out, thn_err]) F2.out S2.out rfl
    have E2 := Lib.hid hN
    have F2 := Lib.hid (F1.out.trans hf)
    have S2 := Lib.hid hs
    have B2 := Lib.hid (hf.keep B1.out (by omega))
    clear hN hf hs hG hv
    go_wp2_with fail
    refine (name_any P V m2 _ S2).mono ?_
    intro e w3 hG
    rcases hG.elim with ⟨x, m, hN, hf, hs, rfl⟩ | ⟨a3, m3, v3, hN, hf, hs, rfl, hv⟩
    · have E3 := Lib.hid hN
      have F3 := Lib.hid (F2.out.trans hf)
      have S3 := Lib.hid hs
      clear hN hf hs hG
      go_wp2_with fail
      refine ⟨rfl, ?_⟩
      exact got_bad (by unfold pPort; rw [if_neg hT]; unfold pPortR; rw [E2.out, thn_ok, E3.out, thn_err]) F3.out S3.out rfl
    unfold vStr at hv
    subst hv
    have E3 := Lib.hid hN
    have F3 := Lib.hid (F2.out.trans hf)
    have S3 := Lib.hid hs
    have B3 := Lib.hid (hf.keep B2.out (by omega))
    clear hN hf hs hG
    go_wp2_with fail
    refine (need_any P V m3 [58] _ S3).mono ?_
    intro e w4 hG
    rcases hG.elim with ⟨x, m, hN, hf, hs, rfl⟩ | ⟨a4, m4, v4, hN, hf, hs, rfl, hv⟩
    · have E4 := Lib.hid hN
      have F4 := Lib.hid (F3.out.trans hf)
      have S4 := Lib.hid hs
      clear hN hf hs hG
      go_wp2_with fail
      refine ⟨rfl, ?_⟩
      exact got_bad (by unfold pPort; rw [if_neg hT]; unfold pPortR; rw [E2.out, thn_ok, E3.out, thn_ok, E4.out, thn_err]) F4.out S4.out rfl
    have E4 := Lib.hid hN
    have F4 := Lib.hid (F3.out.trans hf)
    have S4 := Lib.hid hs
    have B4 := Lib.hid (hf.keep B3.out (by omega))
    clear hN hf hs hG hv
    go_wp2_with fail
    refine (dim_any P V m4 _ S4).mono ?_
    intro e w5 hG
    rcases hG.elim with ⟨x, m, hN, hf, hs, rfl⟩ | ⟨a5, m5, v5, hN, hf, hs, rfl, hv⟩
    · have E5 := Lib.hid hN
      have F5 := Lib.hid (F4.out.trans hf)
      have S5 := Lib.hid hs
      clear hN hf hs hG
      go_wp2_with fail
      refine ⟨rfl, ?_⟩
      exact got_bad (by unfold pPort; rw [if_neg hT]; unfold pPortR; rw [E2.out, thn_ok, E3.out, thn_ok, E4.out, thn_ok, E5.out, thn_err]) F5.out S5.out rfl
    unfold vDim at hv
    subst hv
    have E5 := Lib.hid hN
    have F5 := Lib.hid (F4.out.trans hf)
    have S5 := Lib.hid hs
    have B5 := Lib.hid (hf.keep B4.out (by omega))
    clear hN hf hs hG
    have d0 := cell_at (o := 0) B5.out
    have z0 := frozen_at (o := 0) B5.out
    have d1 := cell_at (o := 1) B5.out
    have z1 := frozen_at (o := 1) B5.out
    have d2 := cell_at (o := 2) B5.out
    have z2 := frozen_at (o := 2) B5.out
    have d3 := cell_at (o := 3) B5.out
    have z3 := frozen_at (o := 3) B5.out
    go_wp2_with fail
    refine bodyPost_ret (v := .agg (portCells (false, a3, a5)).toArray) (by simp [results, Tryd.results60, go_sem, portCells, d0, d1, d2, d3]) rfl ?_
    exact got_ok (a := (false, a3, a5)) (m := m5) (by unfold pPort; rw [if_neg hT]; unfold pPortR; rw [E2.out, thn_ok, E3.out, thn_ok, E4.out, thn_ok, E5.out, thn_ok]) (((((F5.out).put (Nat.le_refl _) _).put (Nat.le_refl _) _).put (Nat.le_refl _) _).put (Nat.le_refl _) _) ((((S5.out.put hB _).put hB _).put hB _).put hB _) rfl

def pBind (T : List LexM.Tk) (n : Nat) : PR (List UInt8 × Ex) := thn (pName T n) fun l n1 => thn (pNeed T n1 [58]) fun _ n2 => thn (pExpr T n2) fun t n3 => .ok ((l, t), n3)
def vBind (w : World) (b : List UInt8 × Ex) (w' : World) (v : Value) : Prop := ∃ hd A m c, v = .agg (.string (str b.1) :: hdCells hd (.slice A m c)).toArray ∧ ExAt w' (New w) b.2 (hdCells hd (.slice A m c))
set_option maxRecDepth 100000 in
set_option maxHeartbeats 1000000 in
theorem bind_any (P : Pr) (V : Va) (n : Nat) (w : World) (h : Hid (St P V n w)) :
    Calls Tryd.prog 67 #[.pointer (some ⟨P.b, 0, none⟩)] w (Got P V w (pBind P.T n) (vBind w)) := by
  have hlt := h.out.lt
  have hB := h.out.hB
  go_enter Tryd.func67, Tryd.ntmps67
  have F0 := Lib.hid (Fr.alloc P.b w (.cells #[.string ⟨#[]⟩, .int .i64 0, .string ⟨#[]⟩, .int .i64 0, .string ⟨#[]⟩, .int .i64 0, .string ⟨#[]⟩, .int .i64 0, .string ⟨#[]⟩, .int .i64 0, .string ⟨#[]⟩, .slice none 0 0] 85))
  have S0 := Lib.hid (h.out.alloc (.cells #[.string ⟨#[]⟩, .int .i64 0, .string ⟨#[]⟩, .int .i64 0, .string ⟨#[]⟩, .int .i64 0, .string ⟨#[]⟩, .int .i64 0, .string ⟨#[]⟩, .int .i64 0, .string ⟨#[]⟩, .slice none 0 0] 85))
  have B0 := Lib.hid (new_at w (.cells #[.string ⟨#[]⟩, .int .i64 0, .string ⟨#[]⟩, .int .i64 0, .string ⟨#[]⟩, .int .i64 0, .string ⟨#[]⟩, .int .i64 0, .string ⟨#[]⟩, .int .i64 0, .string ⟨#[]⟩, .slice none 0 0] 85))
  go_wp2_with fail
  refine (name_any P V n _ S0).mono ?_
  intro e w1 hG
  rcases hG.elim with ⟨x, m, hN, hf, hs, rfl⟩ | ⟨a1, m1, v1, hN, hf, hs, rfl, hv⟩
  · have E1 := Lib.hid hN
    have F1 := Lib.hid (F0.out.trans hf)
    have S1 := Lib.hid hs
    clear hN hf hs hG
    go_wp2_with fail
    refine ⟨rfl, ?_⟩
    exact got_bad (by unfold pBind; rw [E1.out, thn_err]) F1.out S1.out rfl
  unfold vStr at hv
  subst hv
  have E1 := Lib.hid hN
  have F1 := Lib.hid (F0.out.trans hf)
  have S1 := Lib.hid hs
  have B1 := Lib.hid (hf.keep B0.out (by omega))
  clear hN hf hs hG
  go_wp2_with fail
  refine (need_any P V m1 [58] _ S1).mono ?_
  intro e w2 hG
  rcases hG.elim with ⟨x, m, hN, hf, hs, rfl⟩ | ⟨a2, m2, v2, hN, hf, hs, rfl, hv⟩
  · have E2 := Lib.hid hN
    have F2 := Lib.hid (F1.out.trans hf)
    have S2 := Lib.hid hs
    clear hN hf hs hG
    go_wp2_with fail
    refine ⟨rfl, ?_⟩
    exact got_bad (by unfold pBind; rw [E1.out, thn_ok, E2.out, thn_err]) F2.out S2.out rfl
  have E2 := Lib.hid hN
  have F2 := Lib.hid (F1.out.trans hf)
  have S2 := Lib.hid hs
  have B2 := Lib.hid (hf.keep B1.out (by omega))
  clear hN hf hs hG hv
  go_wp2_with fail
  refine (expr_ok P V m2 _ S2).mono ?_
  intro e w3 hG
  rcases hG.elim with ⟨x, m, hN, hf, hs, rfl⟩ | ⟨a3, m3, v3, hN, hf, hs, rfl, hv⟩
  · have E3 := Lib.hid hN
    have F3 := Lib.hid (F2.out.trans hf)
    have S3 := Lib.hid hs
    clear hN hf hs hG
    go_wp2_with fail
    refine ⟨rfl, ?_⟩
    exact got_bad (by unfold pBind; rw [E1.out, thn_ok, E2.out, thn_ok, E3.out, thn_err]) F3.out S3.out rfl
  have E3 := Lib.hid hN
  have F3 := Lib.hid (F2.out.trans hf)
  have S3 := Lib.hid hs
  have B3 := Lib.hid (hf.keep B2.out (by omega))
  obtain ⟨g3, rfl⟩ := ptr_ok hv
  obtain ⟨hd, A, q, r, X, t0, t1, t2, t3, t4, t5, t6, t7, t8, t9, t10⟩ := tree_cells (hv.older F2.out.size)
  have Y := Lib.hid X
  clear X hv
  clear hN hf hs hG
  have d0 := cell_at (o := 0) B3.out
  have z0 := frozen_at (o := 0) B3.out
  have d1 := cell_at (o := 1) B3.out
  have z1 := frozen_at (o := 1) B3.out
  have d2 := cell_at (o := 2) B3.out
  have z2 := frozen_at (o := 2) B3.out
  have d3 := cell_at (o := 3) B3.out
  have z3 := frozen_at (o := 3) B3.out
  have d4 := cell_at (o := 4) B3.out
  have z4 := frozen_at (o := 4) B3.out
  have d5 := cell_at (o := 5) B3.out
  have z5 := frozen_at (o := 5) B3.out
  have d6 := cell_at (o := 6) B3.out
  have z6 := frozen_at (o := 6) B3.out
  have d7 := cell_at (o := 7) B3.out
  have z7 := frozen_at (o := 7) B3.out
  have d8 := cell_at (o := 8) B3.out
  have z8 := frozen_at (o := 8) B3.out
  have d9 := cell_at (o := 9) B3.out
  have z9 := frozen_at (o := 9) B3.out
  have d10 := cell_at (o := 10) B3.out
  have z10 := frozen_at (o := 10) B3.out
  have d11 := cell_at (o := 11) B3.out
  have z11 := frozen_at (o := 11) B3.out
  go_wp2_with fail
  refine bodyPost_ret (v := .agg (.string (str a1) :: hdCells hd (.slice A q r)).toArray) (by simp [results, Tryd.results67, go_sem, hdCells, d0, d1, d2, d3, d4, d5, d6, d7, d8, d9, d10, d11]) rfl ?_
  rw [← setCells12 w3 w.heap.size]
  exact got_ok (a := (a1, a3)) (m := m3) (by unfold pBind; rw [E1.out, thn_ok, E2.out, thn_ok, E3.out, thn_ok]) (FrPuts F3.out w.heap.size (Nat.le_refl _) (.string (str a1) :: hdCells hd (.slice A q r)) 0) (StPuts S3.out w.heap.size hB (.string (str a1) :: hdCells hd (.slice A q r)) 0) ⟨hd, A, q, r, rfl, ExAt.other' B3.out (by decide) (fun k hk => heap_setCells_ne _ _ _ _ _ hk) _ _ Y.out⟩

end Go.Proofs.YtccjbpghpoblhaaDoor

namespace Go.Proofs.YtccjbpghpoblhaaDoor
open Go.RowKit

theorem port_ok {P : Pr} {V : Va} {n m : Nat} {l : Bool × List UInt8 × Dm} {w : World} (h : Hid (St P V n w)) (hd : pPort P.T n = .ok (l, m)) :
    Calls Tryd.prog 60 #[.pointer (some ⟨P.b, 0, none⟩)] w fun e w' => e = .returned (.agg #[.bool l.1, .string (str l.2.1), .string (str l.2.2.1), .int .i64 (l.2.2.2 : Nat)]) ∧ Fr P.b w w' ∧ St P V m w' :=
  (port_any P V n w h).mono fun e w' hG => by
    rw [hd] at hG
    obtain ⟨hf, hs, v, rfl, rfl⟩ := hG
    exact ⟨rfl, hf, hs⟩
theorem port_bad {P : Pr} {V : Va} {n : Nat} {x : Nat × Nat} {w : World} (h : Hid (St P V n w)) (hd : pPort P.T n = .error x) :
    Calls Tryd.prog 60 #[.pointer (some ⟨P.b, 0, none⟩)] w fun e w' => e = panicV x.1 x.2 ∧ Fr P.b w w' ∧ ∃ m, St P V m w' :=
  (port_any P V n w h).mono fun e w' hG => by
    rw [hd] at hG
    obtain ⟨hf, hs, rfl⟩ := hG
    exact ⟨rfl, hf, hs⟩

def qPort (T : List LexM.Tk) (m : Mh) (n : Nat) : PR Mh := thn (pPort T n) fun l n1 => .ok ({ m with ports := m.ports ++ [l] }, n1)

theorem info64 : (Tryd.prog.info? 64).map (fun i => (i.zero, i.size, i.bytes)) = some (some (.agg #[.bool false, .string ⟨#[]⟩, .string ⟨#[]⟩, .int .i64 0]), 4, 48) := by kernel_rfl
set_option maxRecDepth 100000 in
set_option maxHeartbeats 2000000 in
theorem portc_any (P : Pr) (V : Va) (w0 : World) (gm gp : Nat) (m : Mh) (n : Nat) (w : World) (hlt : P.b < w0.heap.size) (hB : P.B ≤ w0.heap.size) (hlen : m.ports.length ≤ 16) (h : Hid (St P V n w)) (hf0 : Hid (Fr P.b w0 w)) (hr : Hid (MhRep P w0 gm gp m w)) :
    Calls Tryd.prog 59 #[.pointer (some ⟨gm, 0, none⟩), .pointer (some ⟨gp, 0, none⟩)] w (Got P V w0 (qPort P.T m n) (vRep (MhRep P w0 gm gp))) := by
  obtain ⟨i0, hi, hz0, hz1, hz2⟩ := info_parts info64
  have HI := Lib.hid (And.intro hi (And.intro hz0 (And.intro hz1 hz2)))
  clear hi hz0 hz1 hz2
  obtain ⟨r1, r2, r3, pv, qv, r4, r5, r6⟩ := hr.out
  obtain ⟨A, c0, rfl⟩ := row_form r6
  have b0 : w.cell? ⟨gp, 0, none⟩ = some (.pointer (some ⟨P.b, 0, none⟩)) := by rw [cell_at r3]; rfl
  have b1 : w.cell? ⟨gm, 2, none⟩ = some (.slice A m.ports.length c0) := by rw [cell_at r4]; rfl
  have hgmb : gm ≠ P.b := by omega
  have hgpb : gp ≠ P.b := by omega
  have HR := Lib.hid (And.intro r3 (And.intro r4 (And.intro r5 r6)))
  clear r3 r4 r5 r6
  rcases hN : pPort P.T n with x | ⟨l, n1⟩
  · have E1 := Lib.hid hN
    clear hN
    go_enter Tryd.func59, Tryd.ntmps59
    go_wp2_with fail
    refine wp_region_any (by kernel_rfl) ?_
    change wpAny _ _ _ _ _ _ _ (World.drew _)
    refine wpAny_take (i := 0) (v := .pointer (some ⟨gm, 2, none⟩)) rfl (by kernel_rfl) (by kernel_rfl) (by kernel_rfl) (fun _ _ _ h => h) (Or.inl ⟨by rfl, by intro w; go_simp⟩) ?_
    refine wpAny_ready (rs := [1, 2]) (by kernel_rfl) (by simp) ?_
    refine AllReady.cons rfl (fun K hK => ?_) (AllReady.cons rfl (fun K hK => ?_) AllReady.nil)
    · go_simp
      refine hK _ _ ?_
      clear hK K
      refine wpAny_ready (rs := [2]) (by kernel_rfl) (by simp) ?_
      refine AllReady.cons rfl (fun K hK => ?_) AllReady.nil
      go_simp
      refine hK _ _ ?_
      clear hK K
      refine wpAny_ready (rs := [3]) (by kernel_rfl) (by simp) ?_
      refine AllReady.cons rfl (fun K hK => ?_) AllReady.nil
      go_simp
      refine (port_bad (Lib.hid h.out.drew) E1.out).mono ?_
      rintro e w3 ⟨rfl, hf3, m4, hs4⟩
      go_simp
      refine ⟨rfl, ?_⟩
      exact got_bad (by unfold qPort; rw [E1.out, thn_err]) (hf0.out.draw.trans hf3) hs4 rfl
    · go_simp
      refine hK _ _ ?_
      clear hK K
      refine wpAny_ready (rs := [1, 3]) (by kernel_rfl) (by simp) ?_
      refine AllReady.cons rfl (fun K hK => ?_) (AllReady.cons rfl (fun K hK => ?_) AllReady.nil)
      · go_simp
        refine hK _ _ ?_
        clear hK K
        refine wpAny_ready (rs := [3]) (by kernel_rfl) (by simp) ?_
        refine AllReady.cons rfl (fun K hK => ?_) AllReady.nil
        go_simp
        refine (port_bad (Lib.hid h.out.drew) E1.out).mono ?_
        rintro e w3 ⟨rfl, hf3, m4, hs4⟩
        go_simp
        refine ⟨rfl, ?_⟩
        exact got_bad (by unfold qPort; rw [E1.out, thn_err]) (hf0.out.draw.trans hf3) hs4 rfl
      · go_simp
        refine (port_bad (Lib.hid h.out.drew) E1.out).mono ?_
        rintro e w3 ⟨rfl, hf3, m4, hs4⟩
        go_simp
        refine ⟨rfl, ?_⟩
        exact got_bad (by unfold qPort; rw [E1.out, thn_err]) (hf0.out.draw.trans hf3) hs4 rfl
  · have E1 := Lib.hid hN
    clear hN
    go_enter Tryd.func59, Tryd.ntmps59
    go_wp2_with fail
    go_region_law (first
      | ((refine step_append_lies _ (by rfl) _ _ _ (by rfl) 0 64 i0 _ 4 48 Tryd.underlying45 HI.out.1 HI.out.2.1 HI.out.2.2.1 HI.out.2.2.2 rfl (by omega) (.slice A m.ports.length c0) m.ports.length (m.ports.flatMap portCells) (by rfl) (HO3.out.alloc _)
            ⟨w3.heap.size, 0, none⟩ 1 1 [.bool l.1, .string (str l.2.1), .string (str l.2.2.1), .int .i64 (l.2.2.2 : Nat)] (by rfl) (by rfl) (World.news_of_block (cs := #[.bool l.1, .string (str l.2.1), .string (str l.2.2.1), .int .i64 (l.2.2.2 : Nat)]) (t := 64) (fr := (0, 0)) (heap_alloc_new w3 _)) (by simp [Value.oneCell']) (by omega) (by unfold maxLen; omega) (by omega) (by simp) (w3.heap.size + 1) (by simp) ?_; intro g cap w5 hown5 hgrow5 hat5 hlt5;
          have R := Lib.hid (app_rep (off := 2) HS3.out HF3.out hB r1 HB3.out (by decide) HW3.out hgrow5 hown5 hat5); have K5 := app_cell HB3.out (by decide) HW3.out hgrow5; have k5 := cell_at (o := 2) K5; have z5 := frozen_at (o := 2) K5; clear K5))
      | ((go_simp; go_at_call 60; refine (port_ok (Lib.hid h.out.drew) E1.out).mono ?_; rintro e w3 ⟨rfl, hf3, hs3⟩;
          have HF3 := Lib.hid (hf0.out.draw.trans hf3); have HS3 := Lib.hid hs3; have HB3 := Lib.hid (hf3.keep (w := w.drew) HR.out.2.1 hgmb); have HW3 := Lib.hid (RowAt.keep (w := w) HR.out.2.2.2 (fun _ h => h) (fun g o hg ho => hf3.keep (w := w.drew) ho (by unfold New at hg; omega)));
          have HO3 := Lib.hid HW3.out.1; have d1 : w3.cell? ⟨gm, 2, none⟩ = some (.slice A m.ports.length c0) := (by rw [cell_at HB3.out]; rfl); have hgl3 : gm < w3.heap.size := heap_lt HB3.out)))
    all_goals
      go_wp2_with fail
      go_end0
      refine got_ok (a := { m with ports := m.ports ++ [l] }) (m := n1) (by unfold qPort; rw [E1.out, thn_ok]) R.out.1 R.out.2.1 ⟨rfl, r1, r2, ?_, pv, .slice (some ⟨g, 0, none⟩) (m.ports.length + 1) cap, ?_, ?_, ?_⟩
      · exact R.out.2.2.2.2 _ _ _ _ (hf3.keep (w := w.drew) HR.out.1 hgpb) (by decide) (by decide)
      · exact R.out.2.2.1
      · exact (RowAt.keep (w := w) HR.out.2.2.1 (fun _ h => h) (fun g o hg ho => hf3.keep (w := w.drew) ho (by unfold New at hg; omega))).ty R.out.2.2.2.2 (by decide) (by decide)
      · have := R.out.2.2.2.1
        unfold PortsAt
        simpa [portCells] using this

theorem dim_ok {P : Pr} {V : Va} {n m : Nat} {l : Dm} {w : World} (h : Hid (St P V n w)) (hd : pDim P.T n = .ok (l, m)) :
    Calls Tryd.prog 63 #[.pointer (some ⟨P.b, 0, none⟩)] w fun e w' => e = .returned (.agg #[.string (str l.1), .int .i64 (l.2 : Nat)]) ∧ Fr P.b w w' ∧ St P V m w' :=
  (dim_any P V n w h).mono fun e w' hG => by
    rw [hd] at hG
    obtain ⟨hf, hs, v, rfl, rfl⟩ := hG
    exact ⟨rfl, hf, hs⟩
theorem dim_bad {P : Pr} {V : Va} {n : Nat} {x : Nat × Nat} {w : World} (h : Hid (St P V n w)) (hd : pDim P.T n = .error x) :
    Calls Tryd.prog 63 #[.pointer (some ⟨P.b, 0, none⟩)] w fun e w' => e = panicV x.1 x.2 ∧ Fr P.b w w' ∧ ∃ m, St P V m w' :=
  (dim_any P V n w h).mono fun e w' hG => by
    rw [hd] at hG
    obtain ⟨hf, hs, rfl⟩ := hG
    exact ⟨rfl, hf, hs⟩

theorem bind_ok {P : Pr} {V : Va} {n m : Nat} {l : List UInt8 × Ex} {w : World} (h : Hid (St P V n w)) (hd : pBind P.T n = .ok (l, m)) :
    Calls Tryd.prog 67 #[.pointer (some ⟨P.b, 0, none⟩)] w fun e w' => (∃ v, e = .returned v ∧ vBind w l w' v) ∧ Fr P.b w w' ∧ St P V m w' :=
  (bind_any P V n w h).mono fun e w' hG => by
    rw [hd] at hG
    obtain ⟨hf, hs, v, rfl, hv⟩ := hG
    exact ⟨⟨v, rfl, hv⟩, hf, hs⟩
theorem bind_bad {P : Pr} {V : Va} {n : Nat} {x : Nat × Nat} {w : World} (h : Hid (St P V n w)) (hd : pBind P.T n = .error x) :
    Calls Tryd.prog 67 #[.pointer (some ⟨P.b, 0, none⟩)] w fun e w' => e = panicV x.1 x.2 ∧ Fr P.b w w' ∧ ∃ m, St P V m w' :=
  (bind_any P V n w h).mono fun e w' hG => by
    rw [hd] at hG
    obtain ⟨hf, hs, rfl⟩ := hG
    exact ⟨rfl, hf, hs⟩


end Go.Proofs.YtccjbpghpoblhaaDoor

