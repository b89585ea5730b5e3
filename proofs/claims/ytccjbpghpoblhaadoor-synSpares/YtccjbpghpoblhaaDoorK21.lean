/-
  body's function value, WALKED: one item into its variable.
-/
import Derived.Test.YtccjbpghpoblhaaDoorK20
/-
  isLast, pastItem, WALKED.
-/
namespace Go.Proofs.YtccjbpghpoblhaaDoor
open Go.RowKit

set_option maxHeartbeats 1000000 in
theorem isLast_any (P : Pr) (V : Va) (n er tk k c : Nat) (A : Option Addr) (w : World) (h : Hid (St P V n w)) (hfa : V.fa = .slice A k c) (b : Bool) (hb : (er = 21 ∨ k = 19) ↔ b = true) :
    Calls Tryd.prog 39 #[.pointer (some ⟨P.b, 0, none⟩), .agg #[.int .i64 (er : Nat), .int .i64 (tk : Nat)]] w fun e w' => e = .returned (.bool b) ∧ Fr P.b w w' ∧ St P V n w' := by
  have c6 : w.cell? ⟨P.b, 6, none⟩ = some (.slice A k c) := by rw [cell_at h.out.blk, ← hfa]; rfl
  have hlt := h.out.lt
  have hne : P.b ≠ w.heap.size := by omega
  by_cases h1 : er = 21
  · have hd : ((er : Int) == 21) = true := by simp; omega
    obtain rfl : b = true := hb.1 (.inl h1)
    clear hb h1
    go_enter Tryd.func39, Tryd.ntmps39
    go_wp2_with fail
    go_ret
    exact ⟨rfl, Fr.alloc _ _ _, h.out.alloc _⟩
  · have hd : ((er : Int) == 21) = false := by simp; omega
    by_cases h2 : k = 19
    · have hd2 : ((k : Int) == 19) = true := by simp; omega
      obtain rfl : b = true := hb.1 (.inr h2)
      clear hb h1 h2
      go_enter Tryd.func39, Tryd.ntmps39
      go_wp2_with fail
      go_ret
      exact ⟨rfl, Fr.alloc _ _ _, h.out.alloc _⟩
    · have hd2 : ((k : Int) == 19) = false := by simp; omega
      obtain rfl : b = false := by
        cases b with
        | false => rfl
        | true => exact ((hb.2 rfl).elim h1 h2).elim
      clear hb h1 h2
      go_enter Tryd.func39, Tryd.ntmps39
      go_wp2_with fail
      go_ret
      exact ⟨rfl, Fr.alloc _ _ _, h.out.alloc _⟩

theorem St.goto {P : Pr} {V : Va} {n : Nat} {w : World} (h : St P V n w) (m : Nat) (hm : m ≤ P.T.length) : Fr P.b w (w.setCell ⟨P.b, 2, none⟩ (.int .i64 (m : Nat))) ∧ St P V m (w.setCell ⟨P.b, 2, none⟩ (.int .i64 (m : Nat))) := by
  refine ⟨Fr.set w ⟨P.b, 2, none⟩ _, ?_, h.tok.same (fun g _ hb => Below.heap_setCell _ _ _ _ hb), h.opl.same (Below.heap_setCell _ _ _ _ h.ob.2), h.ob, (Below.heap_setCell _ _ _ _ h.rl.2).trans h.rul, h.rl, h.rok, h.lb, by simpa [World.setCell] using h.hB, hm, h.bd, h.tl⟩
  simp only [World.setCell, Array.getElem?_modify, h.blk]
  rfl

/-- behind a fault within an item -/
def pPast (T : List LexM.Tk) : Nat → Nat → PR Unit
  | 0, n => if tokIs T n [125] = true then .ok ((), n) else if tokIs T n [59] = true then .ok ((), n + 1) else .error (gu T n 21)
  | f + 1, n => if tokIs T n [125] = true then .ok ((), n) else if tokIs T n [59] = true then .ok ((), n + 1) else pPast T f (n + 1)

def PaRel (P : Pr) (V : Va) (w : World) (r : PR Unit) (f : Nat) (wr : World) : Prop :=
  ∃ m, m + f = P.T.length ∧ Hid (Fr P.b w wr) ∧ Hid (St P V m wr) ∧ Hid (pPast P.T f m = r)

set_option maxRecDepth 100000 in
set_option maxHeartbeats 2000000 in
theorem pastItem_any (P : Pr) (V : Va) (n er tk : Nat) (w : World) (h : Hid (St P V n w)) (htk : tk ≤ P.T.length) :
    Calls Tryd.prog 71 #[.pointer (some ⟨P.b, 0, none⟩), .agg #[.int .i64 (er : Nat), .int .i64 (tk : Nat)]] w (Got P V w (pPast P.T (P.T.length - tk) tk) vNone) := by
  have c2 := h.out.c2
  have hlt := h.out.lt
  have hne : P.b ≠ w.heap.size := by omega
  have z2 := h.out.fz 2
  have hbd := h.out.bd
  go_enter Tryd.func71, Tryd.ntmps71
  go_wp2_with fail
  have q := h.out.goto tk htk
  have F1 := Lib.hid (q.1.more (.cells #[.int .i64 (er : Nat), .int .i64 (tk : Nat)] 89))
  have S1 := Lib.hid (q.2.alloc (.cells #[.int .i64 (er : Nat), .int .i64 (tk : Nat)] 89))
  clear q c2 z2
  go_loopg [] (P.T.length - tk) (fun f wr => PaRel P V w (pPast P.T (P.T.length - tk) tk) f wr)
  case atStart => exact ⟨tk, by omega, F1, S1, Lib.hid rfl⟩
  case round =>
    obtain ⟨m, hm, FR, SR, ER⟩ := hrel
    have HM := Lib.hid hm
    clear hm
    by_cases hT : tokIs P.T m [125] = true
    · go_wp2_with fail
      refine (is_s SR hT).mono ?_
      rintro e w2 ⟨rfl, hf, hs⟩
      have F2 := Lib.hid (FR.out.trans hf)
      have S2 := Lib.hid hs
      clear hf hs
      go_wp2_with fail
      go_end0
      refine got_ok (a := ()) (m := m) ?_ F2.out S2.out rfl
      rw [← ER.out]
      cases gk with
      | zero => rw [pPast, if_pos hT]
      | succ f => rw [pPast, if_pos hT]
    have hT' : tokIs P.T m [125] = false := by simpa using hT
    by_cases hU : tokIs P.T m [59] = true
    · go_wp2_with fail
      refine (is_s SR hT').mono ?_
      rintro e w2 ⟨rfl, hf, hs⟩
      have F2 := Lib.hid (FR.out.trans hf)
      have S2 := Lib.hid hs
      clear hf hs
      go_wp2_with fail
      refine (take_yes P V m [59] w2 S2 hU).mono ?_
      rintro e w3 ⟨rfl, hf, hs⟩
      have F3 := Lib.hid (F2.out.trans hf)
      have S3 := Lib.hid hs
      clear hf hs
      go_wp2_with fail
      go_end0
      refine got_ok (a := ()) (m := m + 1) ?_ F3.out S3.out rfl
      rw [← ER.out]
      cases gk with
      | zero => rw [pPast, if_neg hT, if_pos hU]
      | succ f => rw [pPast, if_neg hT, if_pos hU]
    have hU' : tokIs P.T m [59] = false := by simpa using hU
    go_wp2_with fail
    refine (is_s SR hT').mono ?_
    rintro e w2 ⟨rfl, hf, hs⟩
    have F2 := Lib.hid (FR.out.trans hf)
    have S2 := Lib.hid hs
    clear hf hs
    go_wp2_with fail
    refine (take_no P V m [59] w2 S2 hU').mono ?_
    rintro e w3 ⟨rfl, hf, hs⟩
    have F3 := Lib.hid (F2.out.trans hf)
    have S3 := Lib.hid hs
    have hlt3 := hs.lt
    have d0 := hs.c0
    have d2 := hs.c2
    clear hf hs
    by_cases hm : m = P.T.length
    · have hd : ((m : Int) == (P.T.length : Int)) = true := by simp; omega
      obtain rfl : gk = 0 := by have := HM.out; omega
      go_wp2_with fail
      go_quiet (fail)
      have F4 := Lib.hid (F3.out.drawn nq)
      have S4 := Lib.hid (S3.out.drewN nq)
      go_wp2_with fail
      refine (giveUp_any P V m 21 _ S4).mono ?_
      rintro e w5 ⟨rfl, hf, hs⟩
      have F5 := Lib.hid (F4.out.trans hf)
      have S5 := Lib.hid hs
      clear hf hs
      go_wp2_with fail
      refine ⟨rfl, ?_⟩
      exact got_bad (by rw [← ER.out, pPast, if_neg hT, if_neg hU, hm]) F5.out S5.out rfl
    · have hd : ((m : Int) == (P.T.length : Int)) = false := by simp; omega
      obtain ⟨f, hf'⟩ : ∃ f, gk = f + 1 := ⟨gk - 1, by have := HM.out; omega⟩
      subst hf'
      have hml : m < P.T.length := by have := HM.out; omega
      go_wp2_with fail
      go_quiet (fail)
      obtain ⟨W, eW, F4, S4⟩ : ∃ W, w3.drewN nq = W ∧ Hid (Fr P.b w W) ∧ Hid (St P V m W) := ⟨_, rfl, Lib.hid (F3.out.drawn nq), Lib.hid (S3.out.drewN nq)⟩
      rw [eW]
      have k2 := S4.out.c2
      have z2 := S4.out.fz 2
      have hltW := S4.out.lt
      clear eW d0 d2
      go_wp2_with fail
      have q := next_set S4.out hml ((m : Int) + 1) (by omega)
      go_roundg f
      case measure => omega
      case rel => exact ⟨m + 1, by have := HM.out; omega, Lib.hid (F4.out.trans q.1), Lib.hid q.2, Lib.hid (by rw [← ER.out, pPast, if_neg hT, if_neg hU])⟩

end Go.Proofs.YtccjbpghpoblhaaDoor

/-
  toModule, WALKED.
-/
namespace Go.Proofs.YtccjbpghpoblhaaDoor
open Go.RowKit

def wModule : List UInt8 := [109, 111, 100, 117, 108, 101]
/-- the next module from a token on, or the end -/
def toMod (T : List LexM.Tk) : Nat → Nat → Nat
  | 0, n => n
  | f + 1, n => if tokIs T n wModule = true then n else toMod T f (n + 1)

def TmRel (P : Pr) (V : Va) (w : World) (r : Nat) (f : Nat) (wr : World) : Prop :=
  ∃ m, m + f = P.T.length ∧ Hid (Fr P.b w wr) ∧ Hid (St P V m wr) ∧ Hid (toMod P.T f m = r)

/-- where a fault outside of items lets go on -/
def pastMod (T : List LexM.Tk) (er tk : Nat) : Nat := if er = 2 then toMod T (T.length - (tk + 1)) (tk + 1) else toMod T (T.length - tk) tk

set_option maxRecDepth 100000 in
set_option maxHeartbeats 2000000 in
theorem toModule_any (P : Pr) (V : Va) (n er tk : Nat) (w : World) (h : Hid (St P V n w)) (htk : tk ≤ P.T.length) (hbig : er = 2 → tk < P.T.length) :
    Calls Tryd.prog 41 #[.pointer (some ⟨P.b, 0, none⟩), .agg #[.int .i64 (er : Nat), .int .i64 (tk : Nat)]] w fun e w' => e = .returned (.tuple #[]) ∧ Fr P.b w w' ∧ St P V (pastMod P.T er tk) w' := by
  have c2 := h.out.c2
  have hlt := h.out.lt
  have hne : P.b ≠ w.heap.size := by omega
  have z2 := h.out.fz 2
  have hbd := h.out.bd
  obtain ⟨s, hs0⟩ : ∃ s, s = if er = 2 then tk + 1 else tk := ⟨_, rfl⟩
  have hsl : s ≤ P.T.length := by
    rw [hs0]
    split
    · rename_i hx; exact hbig hx
    · exact htk
  have hpm : pastMod P.T er tk = toMod P.T (P.T.length - s) s := by rw [hs0]; unfold pastMod; split <;> rfl
  rw [hpm]
  go_enter Tryd.func41, Tryd.ntmps41
  go_upto_if 11 with fail
  go_cut [3] (fun s3 wx => Hid (Fr P.b w wx) ∧ Hid (St P V s wx))
  case first =>
    have q := (h.out.goto tk htk)
    have hltq := q.2.lt
    by_cases he : er = 2
    · have hd : ((er : Int) == 2) = true := by simp; omega
      have q2 := next_set q.2 (hbig he) ((tk : Int) + 1) (by omega)
      rw [if_pos he] at hs0
      go_wp2_with fail
      go_meet
      subst hs0
      exact ⟨Lib.hid ((q.1.trans q2.1).more _), Lib.hid (q2.2.alloc _)⟩
    · have hd : ((er : Int) == 2) = false := by simp; omega
      rw [if_neg he] at hs0
      go_wp2_with fail
      go_meet
      subst hs0
      exact ⟨Lib.hid (q.1.more _), Lib.hid (q.2.alloc _)⟩
  case rest =>
    obtain ⟨FX, SX⟩ := hcut
    clear c2 z2
    go_wp2_with fail
    go_loopg [] (P.T.length - s) (fun f wr => TmRel P V w (toMod P.T (P.T.length - s) s) f wr)
    case atStart => exact ⟨s, by omega, FX, SX, Lib.hid rfl⟩
    case round =>
      obtain ⟨m, hm, FR, SR, ER⟩ := hrel
      have HM := Lib.hid hm
      clear hm
      have d0 := SR.out.c0
      have d2 := SR.out.c2
      have hltR := SR.out.lt
      by_cases hml : m < P.T.length
      · have hd : ((m : Int) < (P.T.length : Int)) := by omega
        obtain ⟨f, hf'⟩ : ∃ f, gk = f + 1 := ⟨gk - 1, by have := HM.out; omega⟩
        subst hf'
        by_cases hT : tokIs P.T m wModule = true
        · go_wp2_with fail
          go_quiet (first | (go_at_call 52; exact Calls.quiet_of (is_b (Lib.hid (SR.out.drewN _)) hT)))
          have F4 := Lib.hid (FR.out.drawn nq)
          have S4 := Lib.hid (SR.out.drewN nq)
          go_wp2_with fail
          go_end0
          refine ⟨rfl, F4.out, ?_⟩
          rw [← ER.out, toMod, if_pos hT]
          exact S4.out
        · have hT' : tokIs P.T m wModule = false := by simpa using hT
          go_wp2_with fail
          go_quiet (first | (go_at_call 52; exact Calls.quiet_of (is_b (Lib.hid (SR.out.drewN _)) hT')))
          obtain ⟨W, eW, F4, S4⟩ : ∃ W, wr.drewN nq = W ∧ Hid (Fr P.b w W) ∧ Hid (St P V m W) := ⟨_, rfl, Lib.hid (FR.out.drawn nq), Lib.hid (SR.out.drewN nq)⟩
          rw [eW]
          have k2 := S4.out.c2
          have z2 := S4.out.fz 2
          have hltW := S4.out.lt
          clear eW d0 d2
          go_wp2_with fail
          have q := next_set S4.out hml ((m : Int) + 1) (by omega)
          go_roundg f
          case measure => omega
          case rel => exact ⟨m + 1, by have := HM.out; omega, Lib.hid (F4.out.trans q.1), Lib.hid q.2, Lib.hid (by rw [← ER.out, toMod, if_neg hT])⟩
      · have hd : ¬ ((m : Int) < (P.T.length : Int)) := by omega
        obtain rfl : gk = 0 := by have := HM.out; omega
        go_wp2_with fail
        go_quiet (fail)
        have F4 := Lib.hid (FR.out.drawn nq)
        have S4 := Lib.hid (SR.out.drewN nq)
        go_wp2_with fail
        go_end0
        refine ⟨rfl, F4.out, ?_⟩
        rw [← ER.out, toMod]
        exact S4.out

end Go.Proofs.YtccjbpghpoblhaaDoor

namespace Go.Proofs.YtccjbpghpoblhaaDoor
open Go.RowKit

set_option maxRecDepth 100000 in
set_option maxHeartbeats 2000000 in
theorem body1_any (P : Pr) (V : Va) (n gp gi : Nat) (w0 w : World) (h : Hid (St P V n w)) (hit : V.it ≤ 64) (hf0 : Hid (Fr P.b w0 w)) (hlt : P.b < w0.heap.size) (hB : P.B ≤ w0.heap.size) (hgi : w0.heap.size ≤ gi)
    (hp : Hid (w.heap[gp]? = some (.cells #[.pointer (some ⟨P.b, 0, none⟩)] 65 (0, 0)))) (hi : Hid (w.heap[gi]? = some (.cells zero59.toArray 59 (0, 0)))) :
    Calls Tryd.prog 69 #[.pointer (some ⟨gp, 0, none⟩), .pointer (some ⟨gi, 0, none⟩)] w fun e w' => Got P (begun P.T V n) w0 (pItem P.T V.it n) (vIt w0 gi) e w' ∧ ∀ (j : Nat) (o : Obj), w.heap[j]? = some o → j ≠ P.b → j ≠ gi → w'.heap[j]? = some o := by
  have b0 : w.cell? ⟨gp, 0, none⟩ = some (.pointer (some ⟨P.b, 0, none⟩)) := by rw [cell_at hp.out]; rfl
  go_enter Tryd.func69, Tryd.ntmps69
  go_wp2_with fail
  refine (item_any P V n w h hit).mono ?_
  intro e w1 hG
  rcases hG.elim with ⟨x, m, hN, hf, hs, rfl⟩ | ⟨i1, m1, v1, hN, hf, hs, rfl, hv⟩
  · have E1 := Lib.hid hN
    have F1 := Lib.hid (hf0.out.trans hf)
    have S1 := Lib.hid hs
    have K1 := Lib.hid hf
    clear hN hf hs hG
    go_wp2_with fail
    refine ⟨rfl, ?_⟩
    exact ⟨got_bad E1.out F1.out S1.out rfl, fun j o hj hb _ => K1.out.keep hj hb⟩
  obtain ⟨cs, rfl, hat⟩ := hv
  have E1 := Lib.hid hN
  have F1 := Lib.hid (hf0.out.trans hf)
  have S1 := Lib.hid hs
  have K1 := Lib.hid hf
  have R1 := Lib.hid (hf.keep hi.out (by omega))
  have hl := it_len hat
  have hsz : cs.toArray.size = 42 := by rw [List.size_toArray, hl]
  have HT := Lib.hid (show w1.there gi 0 cs.toArray.size from hsz ▸ there59 R1.out)
  have HS := Lib.hid (show (Tryd.prog.info? 59).map (·.size) = some cs.toArray.size by rw [size59, hsz])
  have HO := Lib.hid (it_one hat)
  have hsw := hf0.out.size
  have HAT := Lib.hid ((hat.keep (F' := New w0) (fun k hk => Nat.le_trans hsw hk) (fun _ _ _ h => h)).other (u := w1.setCells gi 0 cs) R1.out (fun k hk => heap_setCells_ne _ _ _ _ _ hk))
  have HW := Lib.hid (put_whole (cs := cs) R1.out hl)
  clear hN hf hs hG hat hl hsz b0
  go_wp2_with (refine wpList_store_mid rfl 59 _ _ rfl gi 0 cs.toArray rfl rfl HT.out HS.out HO.out ?_)
  go_end0
  exact ⟨got_ok E1.out (FrPuts F1.out gi hgi _ 0) (StPuts S1.out gi (by omega) _ 0) ⟨rfl, hgi, cs, HW.out, HAT.out⟩, fun j o hj hb hg => (heap_setCells_ne _ _ _ _ _ hg).trans (K1.out.keep hj hb)⟩

end Go.Proofs.YtccjbpghpoblhaaDoor

