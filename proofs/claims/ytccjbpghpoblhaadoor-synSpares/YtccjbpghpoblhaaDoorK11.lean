/-
  SIGNS BETWEEN EXPRESSIONS, WALKED.
-/
import Derived.Test.YtccjbpghpoblhaaDoorK10
/-
  READING GOES ON: whoever reads an expression leaves fewer tokens.
-/
namespace Go.Proofs.YtccjbpghpoblhaaDoor
open Go.RowKit

theorem thn_inv {α β : Type} {r : PR α} {f : α → Nat → PR β} {b : β} {m : Nat} (h : thn r f = .ok (b, m)) : ∃ a n, r = .ok (a, n) ∧ f a n = .ok (b, m) := by
  rcases r with x | ⟨a, n⟩
  · cases h
  · exact ⟨a, n, rfl, h⟩
theorem thn_thn {α β γ : Type} (r : PR α) (f : α → Nat → PR β) (g : β → Nat → PR γ) : thn (thn r f) g = thn r (fun a n => thn (f a n) g) := by
  rcases r with x | ⟨a, n⟩ <;> rfl

theorem pMk_ok {at_ op n m : Nat} {ks : List Ex} {t : Ex} (h : pMk at_ op ks n = .ok (t, m)) : m = n := by
  unfold pMk at h
  split at h
  · injection h with h; injection h with _ h; exact h.symm
  · cases h
theorem ok_inv {α : Type} {a b : α} {n m : Nat} (h : (Except.ok (a, n) : PR α) = .ok (b, m)) : a = b ∧ n = m := by
  injection h with h; injection h with h1 h2; exact ⟨h1, h2⟩

def Goes (pe : Nat → PR Ex) : Prop := ∀ n t m, pe n = .ok (t, m) → n < m

theorem pBr_ok {T : List LexM.Tk} {pe : Nat → PR Ex} (hp : Goes pe) {n m : Nat} {t : Ex} (h : pBr T pe n = .ok (t, m)) : n < m := by
  unfold pBr at h
  obtain ⟨_, n1, h1, h⟩ := thn_inv h
  obtain ⟨_, n2, h2, h⟩ := thn_inv h
  obtain ⟨_, n3, h3, h⟩ := thn_inv h
  have := pNeed_ok h1; have := hp _ _ _ h2; have := pNeed_ok h3; have := (ok_inv h).2; omega
theorem pCat_ok {T : List LexM.Tk} {pe : Nat → PR Ex} (hp : Goes pe) {a n m : Nat} {t : Ex} (h : pCat T pe a n = .ok (t, m)) : n < m := by
  unfold pCat at h
  obtain ⟨_, n1, h1, h⟩ := thn_inv h
  obtain ⟨_, n2, h2, h⟩ := thn_inv h
  obtain ⟨_, n3, h3, h⟩ := thn_inv h
  obtain ⟨_, n4, h4, h⟩ := thn_inv h
  have := hp _ _ _ h1; have := pNeed_ok h2; have := hp _ _ _ h3; have := pNeed_ok h4; have := pMk_ok h; omega
theorem pMem_ok {T : List LexM.Tk} {pe : Nat → PR Ex} (hp : Goes pe) {a n m : Nat} {t : Ex} (h : pMem T pe a n = .ok (t, m)) : n < m := by
  unfold pMem at h
  obtain ⟨_, n1, h1, h⟩ := thn_inv h
  obtain ⟨_, n2, h2, h⟩ := thn_inv h
  obtain ⟨_, n3, h3, h⟩ := thn_inv h
  obtain ⟨_, n4, h4, h⟩ := thn_inv h
  obtain ⟨_, n5, h5, h⟩ := thn_inv h
  obtain ⟨_, n6, h6, h⟩ := thn_inv h
  have := pNeed_ok h1; have := pName_ok h2; have := pNeed_ok h3; have := hp _ _ _ h4; have := pNeed_ok h5; have := pMk_ok h6; have := (ok_inv h).2; omega
theorem pLeaf_ok {T : List LexM.Tk} {n m : Nat} {t : Ex} (h : pLeaf T n = .ok (t, m)) : n < m := by
  unfold pLeaf at h
  obtain ⟨d, n1, h1, h⟩ := thn_inv h
  have := pSide_ok h1
  split at h
  · obtain ⟨_, n2, h2, h⟩ := thn_inv h
    obtain ⟨_, n3, h3, h⟩ := thn_inv h
    have := pNeed_ok h2; have := pSide_ok h3; have := (ok_inv h).2; omega
  · split at h
    · obtain ⟨_, n2, h2, h⟩ := thn_inv h
      have := pName_ok h2; have := (ok_inv h).2; omega
    · have := (ok_inv h).2; omega
theorem pPrim_ok {T : List LexM.Tk} {pe : Nat → PR Ex} (hp : Goes pe) {n m : Nat} {t : Ex} (h : pPrim T pe n = .ok (t, m)) : n < m := by
  unfold pPrim at h
  split at h
  · exact pBr_ok hp h
  split at h
  · have := pCat_ok hp h; omega
  split at h
  · obtain ⟨_, n1, h1, h⟩ := thn_inv h; have := pBr_ok hp h1; have := pMk_ok h; omega
  split at h
  · obtain ⟨_, n1, h1, h⟩ := thn_inv h; have := pBr_ok hp h1; have := pMk_ok h; omega
  split at h
  · obtain ⟨_, n1, h1, h⟩ := thn_inv h; have := pBr_ok hp h1; have := pMk_ok h; omega
  split at h
  · have := pMem_ok hp h; omega
  · exact pLeaf_ok h
theorem pSl_ok {T : List LexM.Tk} : ∀ (f : Nat) (u : Ex) (n m : Nat) (t : Ex), pSl T f u n = .ok (t, m) → n ≤ m
  | 0, u, n, m, t, h => by have := (ok_inv h).2; omega
  | f + 1, u, n, m, t, h => by
    rw [pSl] at h
    split at h
    · obtain ⟨_, n1, h1, h⟩ := thn_inv h
      obtain ⟨_, n2, h2, h⟩ := thn_inv h
      obtain ⟨_, n3, h3, h⟩ := thn_inv h
      obtain ⟨_, n4, h4, h⟩ := thn_inv h
      have := pDim_ok h1; have := pNeed_ok h3; have := pMk_ok h4; have := pSl_ok f _ _ _ _ h
      split at h2
      · have := pDim_ok h2; omega
      · have := (ok_inv h2).2; omega
    · have := (ok_inv h).2; omega
theorem pPost_ok {T : List LexM.Tk} {pe : Nat → PR Ex} (hp : Goes pe) {n m : Nat} {t : Ex} (h : pPost T pe n = .ok (t, m)) : n < m := by
  unfold pPost at h
  obtain ⟨_, n1, h1, h⟩ := thn_inv h
  have := pPrim_ok hp h1; have := pSl_ok _ _ _ _ _ h; omega
theorem pUn_ok {T : List LexM.Tk} {pe : Nat → PR Ex} (hp : Goes pe) : ∀ (f n m : Nat) (t : Ex), pUn T pe f n = .ok (t, m) → n < m
  | 0, n, m, t, h => pPost_ok hp h
  | f + 1, n, m, t, h => by
    rw [pUn] at h
    split at h
    · obtain ⟨_, n1, h1, h⟩ := thn_inv h
      have := pUn_ok hp f _ _ _ h1; have := pMk_ok h; omega
    · exact pPost_ok hp h
theorem pLoop_ok {T : List LexM.Tk} {pe : Nat → PR Ex} (hp : Goes pe) : ∀ (f a b : Nat) (l : Ex) (n m : Nat) (t : Ex), pLoop T pe f a b l n = .ok (t, m) → n ≤ m
  | 0, _, _, _, n, m, t, h => by have := (ok_inv h).2; omega
  | f + 1, a, b, l, n, m, t, h => by
    rw [pLoop] at h
    split at h
    · have := (ok_inv h).2; omega
    · obtain ⟨_, n1, h1, h⟩ := thn_inv h
      obtain ⟨_, n2, h2, h⟩ := thn_inv h
      obtain ⟨_, n3, h3, h⟩ := thn_inv h
      have := pUn_ok hp _ _ _ _ h1; have := pLoop_ok hp f _ _ _ _ _ _ h2; have := pMk_ok h3; have := pLoop_ok hp f _ _ _ _ _ _ h; omega
theorem pBet_ok {T : List LexM.Tk} {pe : Nat → PR Ex} (hp : Goes pe) {f a n m : Nat} {t : Ex} (h : pBet T pe f a n = .ok (t, m)) : n < m := by
  unfold pBet at h
  obtain ⟨_, n1, h1, h⟩ := thn_inv h
  have := pUn_ok hp _ _ _ _ h1; have := pLoop_ok hp _ _ _ _ _ _ _ h; omega
theorem pEx_goes (T : List LexM.Tk) : ∀ f, Goes (pEx T f)
  | 0 => fun n t m h => by cases h
  | f + 1 => fun n t m h => by
    rw [pEx] at h
    have hp := pEx_goes T f
    obtain ⟨_, n1, h1, h⟩ := thn_inv h
    have := pBet_ok hp h1
    split at h
    · obtain ⟨_, n2, h2, h⟩ := thn_inv h
      obtain ⟨_, n3, h3, h⟩ := thn_inv h
      obtain ⟨_, n4, h4, h⟩ := thn_inv h
      have := hp _ _ _ h2; have := pNeed_ok h3; have := hp _ _ _ h4; have := pMk_ok h; omega
    · have := (ok_inv h).2; omega
/-- the loop's next round, as between sees it -/
theorem pLoop_next {T : List LexM.Tk} {pe : Nat → PR Ex} {f least most : Nat} {left : Ex} {n : Nat} (h : ¬ ((opOf T n).1 < least ∨ most < (opOf T n).1)) :
    pLoop T pe (f + 1) least most left n = thn (pBet T pe f ((opOf T n).1 + 1) (n + 1)) fun r n2 => thn (pMk n (opOf T n).2 [left, r] n2) fun t n3 => pLoop T pe f least (if (opOf T n).1 = 4 then 3 else (opOf T n).1) t n3 := by
  rw [pLoop, if_neg h]
  unfold pBet
  rw [thn_thn]

end Go.Proofs.YtccjbpghpoblhaaDoor

namespace Go.Proofs.YtccjbpghpoblhaaDoor
open Go.RowKit

set_option maxHeartbeats 1000000 in
theorem unary_any (P : Pr) (V : Va) (pe : Nat → PR Ex) : ∀ (f n : Nat) (w : World), P.T.length < n + f → Hid (St P V n w) → Hid (ExprOk P V pe n) →
    Calls Tryd.prog 76 #[.pointer (some ⟨P.b, 0, none⟩)] w (Got P V w (pUn P.T pe f n) (vTree w)) := by
  intro f
  induction f with
  | zero => intro n w hf h _; have := h.out.le; omega
  | succ f ih =>
    intro n w hfu h he
    have hlt := h.out.lt
    have c2 := h.out.c2
    have IH := Lib.hid ih
    clear ih
    by_cases hT : tokIs P.T n [126] = true
    · go_enter Tryd.func76, Tryd.ntmps76
      go_wp2_with fail
      refine (take_yes P V n [126] w h hT).mono ?_
      rintro e w1 ⟨rfl, hf, hs⟩
      have F1 := Lib.hid hf
      have S1 := Lib.hid hs
      clear hf hs
      go_wp2_with fail
      refine (IH.out (n + 1) w1 (by omega) S1 (Lib.hid (he.out.le (Nat.le_succ n)))).mono ?_
      intro e w2 hG
      rcases hG.elim with ⟨x, m, hN, hf, hs, rfl⟩ | ⟨t2, m2, v2, hN, hf, hs, rfl, hv⟩
      · have E2 := Lib.hid hN
        have F2 := Lib.hid (F1.out.trans hf)
        have S2 := Lib.hid hs
        clear hN hf hs hG
        go_wp2_with fail
        refine ⟨rfl, ?_⟩
        exact got_bad (by rw [pUn, if_pos hT, E2.out, thn_err]) F2.out S2.out rfl
      obtain ⟨g2, rfl⟩ := ptr_ok hv
      have E2 := Lib.hid hN
      have F2 := Lib.hid (F1.out.trans hf)
      have S2 := Lib.hid hs
      have T2 := Lib.hid (hv.older F1.out.size)
      clear hN hf hs hG hv
      go_wp2_with fail
      refine (mk1 (at_ := n) (op := 3) S2.out F2.out T2.out).mono ?_
      intro e w3 hG
      rcases hG.elim with ⟨x, m, hN, hf, hs, rfl⟩ | ⟨t3, m3, v3, hN, hf, hs, rfl, hv⟩
      · have E3 := Lib.hid hN
        have F3 := Lib.hid hf
        have S3 := Lib.hid hs
        clear hN hf hs hG
        go_wp2_with fail
        refine ⟨rfl, ?_⟩
        exact got_bad (by rw [pUn, if_pos hT, E2.out, thn_ok, E3.out]) F3.out S3.out rfl
      obtain ⟨g3, rfl⟩ := ptr_ok hv
      have E3 := Lib.hid hN
      have F3 := Lib.hid hf
      have S3 := Lib.hid hs
      have T3 := Lib.hid hv
      clear hN hf hs hG hv
      go_wp2_with fail
      go_ret
      exact got_ok (by rw [pUn, if_pos hT, E2.out, thn_ok, E3.out]) F3.out S3.out T3.out
    · have hT' : tokIs P.T n [126] = false := by simpa using hT
      go_enter Tryd.func76, Tryd.ntmps76
      go_wp2_with fail
      refine (take_no P V n [126] w h hT').mono ?_
      rintro e w1 ⟨rfl, hf, hs⟩
      have F1 := Lib.hid hf
      have S1 := Lib.hid hs
      clear hf hs
      go_wp2_with fail
      refine (post_any P V pe n w1 S1 he).mono ?_
      intro e w2 hG
      rcases hG.elim with ⟨x, m, hN, hf, hs, rfl⟩ | ⟨t2, m2, v2, hN, hf, hs, rfl, hv⟩
      · have E2 := Lib.hid hN
        have F2 := Lib.hid (F1.out.trans hf)
        have S2 := Lib.hid hs
        clear hN hf hs hG
        go_wp2_with fail
        refine ⟨rfl, ?_⟩
        exact got_bad (by rw [pUn, if_neg hT, E2.out]) F2.out S2.out rfl
      obtain ⟨g2, rfl⟩ := ptr_ok hv
      have E2 := Lib.hid hN
      have F2 := Lib.hid (F1.out.trans hf)
      have S2 := Lib.hid hs
      have T2 := Lib.hid (hv.older F1.out.size)
      clear hN hf hs hG hv
      go_wp2_with fail
      go_ret
      exact got_ok (by rw [pUn, if_neg hT, E2.out]) F2.out S2.out T2.out

def opAtJ (j : Nat) : List UInt8 × Nat × Nat := opTab.getD j ([], 0, 0)
theorem op_index (j : Nat) (hj : j < 10) (w : World) : (Instr.index 124 (.agg opArr) (.int .i64 (j : Int))).run Tryd.prog w = .ok (.agg #[.string (str (opAtJ j).1), .int .i64 ((opAtJ j).2.1 : Nat), .int .i64 ((opAtJ j).2.2 : Nat)]) w := by
  iterate 10 (rcases j with _ | j; · kernel_rfl)
  omega
theorem opOf_at {T : List LexM.Tk} {n j : Nat} (hj : j < 10) (h : ∀ i, i < j → tokIs T n (opAtJ i).1 = false) (hT : tokIs T n (opAtJ j).1 = true) : opOf T n = (opAtJ j).2 := by
  have he : opTab.find? (fun t => tokIs T n t.1) = some (opAtJ j) := by
    rw [List.find?_eq_some_iff_getElem]
    refine ⟨hT, j, hj, ?_, fun i hi => ?_⟩
    · unfold opAtJ; rw [List.getD_eq_getElem?_getD, List.getElem?_eq_getElem hj]; rfl
    · have := h i hi
      unfold opAtJ at this
      rw [List.getD_eq_getElem?_getD, List.getElem?_eq_getElem (show i < opTab.length from Nat.lt_trans hi hj)] at this
      simpa using this
  unfold opOf; rw [he]
theorem opOf_none {T : List LexM.Tk} {n : Nat} (h : ∀ i, i < 10 → tokIs T n (opAtJ i).1 = false) : opOf T n = (0, 0) := by
  have he : opTab.find? (fun t => tokIs T n t.1) = none := by
    rw [List.find?_eq_none]
    intro t ht
    obtain ⟨i, hi⟩ := List.getElem?_of_mem ht
    have hil : i < 10 := (List.getElem?_eq_some_iff.1 hi).1
    have := h i hil
    unfold opAtJ at this
    rw [List.getD_eq_getElem?_getD, hi] at this
    simpa using this
  unfold opOf; rw [he]
theorem opOf_lt {T : List LexM.Tk} {n : Nat} : (opOf T n).1 ≤ 6 ∧ (opOf T n).2 ≤ 20 ∧ ((opOf T n).1 ≠ 0 → n < T.length) := by
  unfold opOf
  split
  · rename_i t h
    have h1 := List.find?_some h
    have h2 := List.mem_of_find?_eq_some h
    refine ⟨?_, ?_, fun _ => tokIs_lt h1⟩
    · revert h2; clear h1 h; revert t; decide
    · revert h2; clear h1 h; revert t; decide
  · simp

def OpRet (P : Pr) (V : Va) (n : Nat) (w : World) (e : Ending) (w' : World) : Prop :=
  e = .returned (.tuple #[.int .i64 ((opOf P.T n).1 : Nat), .int .i64 ((opOf P.T n).2 : Nat)]) ∧ Fr P.b w w' ∧ St P V n w'

set_option maxRecDepth 100000 in
set_option maxHeartbeats 1000000 in
theorem nextOperator_any (P : Pr) (V : Va) (n : Nat) (w : World) (h : Hid (St P V n w)) :
    Calls Tryd.prog 77 #[.pointer (some ⟨P.b, 0, none⟩)] w (OpRet P V n w) := by
  obtain ⟨ty, fr, ho⟩ := h.out.opl
  have HO := Lib.hid ho
  clear ho
  have hlt := h.out.lt
  go_enter Tryd.func77, Tryd.ntmps77
  go_wp2_with (first | (refine wpList_load_row rfl 124 _ rfl 1 rfl ty opArr fr _ HO.out Tryd.underlying124 rfl (by kernel_rfl) ?_))
  go_loopg [7] 10 (fun g x wr => ∃ j : Nat, j + g = 10 ∧ x = .int .i64 (j : Nat) ∧ Hid (Fr P.b w wr) ∧ Hid (St P V n wr) ∧ Hid (∀ i, i < j → tokIs P.T n (opAtJ i).1 = false))
  case atStart => exact ⟨0, rfl, rfl, Lib.hid (Fr.refl _ _), h, Lib.hid (fun i hi => by omega)⟩
  case round =>
    obtain ⟨j, hjg, rfl, FR, SR, HR⟩ := hrel
    have HJ := Lib.hid hjg
    clear hjg
    by_cases hj : j < 10
    · have hidx := op_index j hj
      have hzr := SR.out.lt
      by_cases hT : tokIs P.T n (opAtJ j).1 = true
      · have EO := Lib.hid (opOf_at hj HR.out hT)
        go_wp2_with fail
        refine (is_s (Lib.hid (SR.out.alloc _)) hT).mono ?_
        rintro e w1 ⟨rfl, hf, hs⟩
        have hb := hf.keep (new_at wr _) (by omega)
        have c1 := cell_at (o := 1) hb
        have c2 := cell_at (o := 2) hb
        have F1 := Lib.hid ((FR.out.more _).trans hf)
        have S1 := Lib.hid hs
        clear hf hs hb
        go_wp2_with fail
        go_quiet (fail)
        go_wp2_with fail
        go_ret2
        refine ⟨?_, F1.out.drawn _, S1.out.drewN _⟩
        rw [EO.out]
        rfl
      · have hT' : tokIs P.T n (opAtJ j).1 = false := by simpa using hT
        go_wp2_with fail
        refine (is_s (Lib.hid (SR.out.alloc _)) hT').mono ?_
        rintro e w1 ⟨rfl, hf, hs⟩
        have F1 := Lib.hid ((FR.out.more _).trans hf)
        have S1 := Lib.hid hs
        clear hf hs
        go_wp2_with fail
        go_roundg (gk - 1)
        case measure => have := HJ.out; omega
        case rel =>
          refine ⟨j + 1, by have := HJ.out; omega, by go_num, F1, S1, Lib.hid (fun i hi => ?_)⟩
          rcases Nat.lt_or_ge i j with h1 | h1
          · exact HR.out i h1
          · obtain rfl : i = j := by omega
            exact hT'
    · obtain rfl : j = 10 := by have := HJ.out; omega
      go_wp2_with fail
      go_ret2
      refine ⟨?_, FR.out, SR.out⟩
      rw [opOf_none HR.out]
      rfl

/-- the rest of the operators -/
def BeRel (P : Pr) (V : Va) (pe : Nat → PR Ex) (w : World) (least n : Nat) (R : PR Ex) (g : Nat) (v mo : Value) (wr : World) : Prop :=
  ∃ (f most : Nat) (left : Ex) (m : Nat), m + g = P.T.length ∧ P.T.length < m + f ∧ n < m ∧ most ≤ 6 ∧ mo = .int .i64 (most : Nat) ∧ Hid (Fr P.b w wr) ∧ Hid (St P V m wr) ∧ Hid (vTree w left wr v) ∧ Hid (pLoop P.T pe f least most left m = R)

set_option maxRecDepth 100000 in
set_option maxHeartbeats 2000000 in
theorem between_any (P : Pr) (V : Va) (pe : Nat → PR Ex) (hgo : Hid (Goes pe)) : ∀ (k n least fu : Nat) (w : World), P.T.length < n + k → P.T.length < n + fu → least ≤ 7 → 1 ≤ least → Hid (St P V n w) → Hid (ExprOk P V pe n) →
    Calls Tryd.prog 74 #[.pointer (some ⟨P.b, 0, none⟩), .int .i64 (least : Nat)] w (Got P V w (pBet P.T pe fu least n) (vTree w)) := by
  intro k
  induction k with
  | zero => intro n least fu w hf _ _ _ h _; have := h.out.le; omega
  | succ k ih =>
    intro n least fu w hk hfu hl7 hl1 h he
    have hlt := h.out.lt
    have hB := h.out.hB
    have hbd := h.out.bd
    have IH := Lib.hid ih
    clear ih
    go_enter Tryd.func74, Tryd.ntmps74
    go_wp2_with fail
    refine (unary_any P V pe (P.T.length + 1) n w (by omega) h he).mono ?_
    intro e w1 hG
    rcases hG.elim with ⟨x, m, hN, hf, hs, rfl⟩ | ⟨t1, m1, v1, hN, hf, hs, rfl, hv⟩
    · have E1 := Lib.hid hN
      have F1 := Lib.hid hf
      have S1 := Lib.hid hs
      clear hN hf hs hG
      go_wp2_with fail
      refine ⟨rfl, ?_⟩
      exact got_bad (by simp only [pBet, E1.out, thn_err]) F1.out S1.out rfl
    obtain ⟨g1, rfl⟩ := ptr_ok hv
    have hnm := pUn_ok hgo.out _ _ _ _ hN
    have E1 := Lib.hid hN
    have F1 := Lib.hid hf
    have S1 := Lib.hid hs
    have T1 := Lib.hid hv
    have hle := hs.le
    clear hN hf hs hG hv
    go_wp2_with fail
    go_loopg [5, 6] (P.T.length - m1) (fun g v mo wr => BeRel P V pe w least n (pLoop P.T pe fu least 6 t1 m1) g v mo wr)
    case atStart => exact ⟨fu, 6, t1, m1, by omega, by omega, hnm, Nat.le_refl _, rfl, F1, S1, T1, Lib.hid rfl⟩
    case round =>
      obtain ⟨f, most, left, m, hmg, hmf, hnm2, hmo, rfl, FR, SR, TR, ER⟩ := hrel
      have HM := Lib.hid (And.intro hmg hmf)
      obtain ⟨gt, rfl⟩ := ptr_ok TR.out
      have hmle := SR.out.le
      clear hmg hmf
      go_wp2_with fail
      refine (nextOperator_any P V m wr SR).mono ?_
      rintro e w2 ⟨rfl, hf, hs⟩
      have F2 := Lib.hid (FR.out.trans hf)
      have S2 := Lib.hid hs
      have T2 := Lib.hid (TR.out.fr hf hlt)
      have hop := opOf_lt (T := P.T) (n := m)
      generalize hlo : opOf P.T m = lo at *
      obtain ⟨lv, op⟩ := lo
      have HLO := Lib.hid hlo
      clear hlo hf hs
      simp only at hop
      obtain ⟨ho1, ho2, ho3⟩ := hop
      simp only
      by_cases hx : lv < least
      · have hxd : decide ((lv : Int) < (least : Int)) = true := by simp; omega
        go_wp2_with fail
        go_ret
        refine got_ok (a := left) (m := m) ?_ F2.out S2.out T2.out
        simp only [pBet, E1.out, thn_ok]
        rw [← ER.out]
        cases f with
        | zero => rfl
        | succ f => rw [pLoop, if_pos (by rw [HLO.out]; exact .inl hx)]
      · have hxd : decide ((lv : Int) < (least : Int)) = false := by simp; omega
        by_cases hy : most < lv
        · have hyd : decide ((most : Int) < (lv : Int)) = true := by simp; omega
          go_wp2_with fail
          go_ret
          refine got_ok (a := left) (m := m) ?_ F2.out S2.out T2.out
          simp only [pBet, E1.out, thn_ok]
          rw [← ER.out]
          cases f with
          | zero => rfl
          | succ f => rw [pLoop, if_pos (by rw [HLO.out]; exact .inr hy)]
        · have hyd : decide ((most : Int) < (lv : Int)) = false := by simp; omega
          have hml : m < P.T.length := ho3 (by omega)
          obtain ⟨f, rfl⟩ : ∃ f', f = f' + 1 := ⟨f - 1, by have := HM.out; omega⟩
          have c2 := S2.out.c2
          have z2 := S2.out.fz 2
          have N := Lib.hid (next_set S2.out hml ((m : Int) + 1) (by omega))
          have EL := Lib.hid (pLoop_next (T := P.T) (pe := pe) (f := f) (least := least) (most := most) (left := left) (n := m) (by rw [HLO.out]; exact fun h => h.elim hx hy))
          go_wp2_with fail
          rw [show ((lv : Int) + 1) = ((lv + 1 : Nat) : Int) from by omega]
          refine (IH.out (m + 1) (lv + 1) f _ (by omega) (by have := HM.out; omega) (by omega) (by omega) (Lib.hid N.out.2) (Lib.hid (he.out.le (by omega)))).mono ?_
          intro e w3 hG
          rcases hG.elim with ⟨x, m', hN, hf, hs, rfl⟩ | ⟨t3, m3, v3, hN, hf, hs, rfl, hv⟩
          · have E3 := Lib.hid hN
            have F3 := Lib.hid ((F2.out.trans N.out.1).trans hf)
            have S3 := Lib.hid hs
            clear hN hf hs hG
            go_wp2_with fail
            refine ⟨rfl, ?_⟩
            exact got_bad (by simp only [pBet, E1.out, thn_ok]; rw [← ER.out, EL.out, HLO.out]; simp only; rw [E3.out, thn_err]) F3.out S3.out rfl
          obtain ⟨g3, rfl⟩ := ptr_ok hv
          have hm3 := pBet_ok hgo.out hN
          have E3 := Lib.hid hN
          have F3 := Lib.hid ((F2.out.trans N.out.1).trans hf)
          have S3 := Lib.hid hs
          have T3 := Lib.hid (hv.older (F2.out.trans N.out.1).size)
          have T3l := Lib.hid ((T2.out.fr N.out.1 hlt).fr hf hlt)
          clear hN hf hs hG hv c2 z2
          go_wp2_with fail
          refine (mk2 (at_ := m) (op := op) S3.out F3.out T3l.out T3.out).mono ?_
          intro e w4 hG
          rcases hG.elim with ⟨x, m', hN, hf, hs, rfl⟩ | ⟨t4, m4, v4, hN, hf, hs, rfl, hv⟩
          · have E4 := Lib.hid hN
            have F4 := Lib.hid hf
            have S4 := Lib.hid hs
            clear hN hf hs hG
            go_wp2_with fail
            refine ⟨rfl, ?_⟩
            exact got_bad (by simp only [pBet, E1.out, thn_ok]; rw [← ER.out, EL.out, HLO.out]; simp only; rw [E3.out, thn_ok, E4.out, thn_err]) F4.out S4.out rfl
          obtain ⟨g4, rfl⟩ := ptr_ok hv
          have hm4 := pMk_ok hN
          have E4 := Lib.hid hN
          have F4 := Lib.hid hf
          have S4 := Lib.hid hs
          have T4 := Lib.hid hv
          have hm4le := hs.le
          have HM4 := Lib.hid hm4
          clear hN hf hs hG hv hm4
          by_cases h4 : lv = 4
          · have h4d : ((lv : Int) == 4) = true := by simp; omega
            have H4 := Lib.hid h4
            clear h4
            go_wp2_with fail
            go_roundg (P.T.length - m4)
            case measure => go_light; have h1 := HM.out; have h2 := HM4.out; omega
            case rel =>
              refine ⟨f, 3, t4, m4, ?_, ?_, ?_, by omega, by have := H4.out; go_light; subst this; rfl, F4, S4, T4, Lib.hid ?_⟩
              · go_light; omega
              · go_light; have h1 := HM.out; have h2 := HM4.out; omega
              · go_light; have h2 := HM4.out; omega
              · rw [← ER.out, EL.out, HLO.out]; simp only; rw [E3.out, thn_ok, E4.out, thn_ok, if_pos H4.out]
          · have h4d : ((lv : Int) == 4) = false := by simp; omega
            go_wp2_with fail
            go_roundg (P.T.length - m4)
            case measure => go_light; have h1 := HM.out; have h2 := HM4.out; omega
            case rel =>
              refine ⟨f, lv, t4, m4, ?_, ?_, ?_, by omega, rfl, F4, S4, T4, Lib.hid ?_⟩
              · go_light; omega
              · go_light; have h1 := HM.out; have h2 := HM4.out; omega
              · go_light; have h2 := HM4.out; omega
              · rw [← ER.out, EL.out, HLO.out]; simp only; rw [E3.out, thn_ok, E4.out, thn_ok, if_neg h4]

set_option maxRecDepth 100000 in
set_option maxHeartbeats 2000000 in
/-- expr, with fuel enough -/
theorem expr_any (P : Pr) (V : Va) : ∀ (f n : Nat) (w : World), P.T.length < n + f → Hid (St P V n w) →
    Calls Tryd.prog 64 #[.pointer (some ⟨P.b, 0, none⟩)] w (Got P V w (pEx P.T f n) (vTree w)) := by
  intro f
  induction f with
  | zero => intro n w hf h; have := h.out.le; omega
  | succ f ih =>
    intro n w hfu h
    have hlt := h.out.lt
    have he : Hid (ExprOk P V (pEx P.T f) n) := Lib.hid ⟨fun n' w' hn hs => ih n' w' (by omega) hs, pEx_goes P.T f⟩
    clear ih
    go_enter Tryd.func64, Tryd.ntmps64
    go_wp2_with fail
    refine (between_any P V (pEx P.T f) (Lib.hid (pEx_goes P.T f)) (P.T.length + 1) n 1 (P.T.length + 1) w (by omega) (by omega) (by omega) (by omega) h he).mono ?_
    intro e w1 hG
    rcases hG.elim with ⟨x, m, hN, hf, hs, rfl⟩ | ⟨t1, m1, v1, hN, hf, hs, rfl, hv⟩
    · have E1 := Lib.hid hN
      have F1 := Lib.hid hf
      have S1 := Lib.hid hs
      clear hN hf hs hG
      go_wp2_with fail
      refine ⟨rfl, ?_⟩
      exact got_bad (by rw [pEx, E1.out, thn_err]) F1.out S1.out rfl
    obtain ⟨g1, rfl⟩ := ptr_ok hv
    have hm1 := pBet_ok (pEx_goes P.T f) hN
    have E1 := Lib.hid hN
    have F1 := Lib.hid hf
    have S1 := Lib.hid hs
    have T1 := Lib.hid hv
    have c2 := hs.c2
    clear hN hf hs hG hv
    by_cases hT : tokIs P.T m1 [63] = true
    · go_wp2_with fail
      refine (take_yes P V m1 [63] w1 S1 hT).mono ?_
      rintro e w2 ⟨rfl, hf, hs⟩
      have F2 := Lib.hid (F1.out.trans hf)
      have S2 := Lib.hid hs
      have T2 := Lib.hid (T1.out.fr hf hlt)
      clear hf hs c2
      go_wp2_with fail
      refine (he.out.1 (m1 + 1) w2 (by omega) S2).mono ?_
      intro e w3 hG
      rcases hG.elim with ⟨x, m, hN, hf, hs, rfl⟩ | ⟨t3, m3, v3, hN, hf, hs, rfl, hv⟩
      · have E3 := Lib.hid hN
        have F3 := Lib.hid (F2.out.trans hf)
        have S3 := Lib.hid hs
        clear hN hf hs hG
        go_wp2_with fail
        refine ⟨rfl, ?_⟩
        exact got_bad (by rw [pEx, E1.out, thn_ok, if_pos hT, E3.out, thn_err]) F3.out S3.out rfl
      obtain ⟨g3, rfl⟩ := ptr_ok hv
      have hm3 := he.out.2 _ _ _ hN
      have E3 := Lib.hid hN
      have F3 := Lib.hid (F2.out.trans hf)
      have S3 := Lib.hid hs
      have T3 := Lib.hid (hv.older F2.out.size)
      have T3a := Lib.hid (T2.out.fr hf hlt)
      clear hN hf hs hG hv
      go_wp2_with fail
      refine (need_any P V m3 [58] w3 S3).mono ?_
      intro e w4 hG
      rcases hG.elim with ⟨x, m, hN, hf, hs, rfl⟩ | ⟨a4, m4, v4, hN, hf, hs, rfl, hv⟩
      · have E4 := Lib.hid hN
        have F4 := Lib.hid (F3.out.trans hf)
        have S4 := Lib.hid hs
        clear hN hf hs hG
        go_wp2_with fail
        refine ⟨rfl, ?_⟩
        exact got_bad (by rw [pEx, E1.out, thn_ok, if_pos hT, E3.out, thn_ok, E4.out, thn_err]) F4.out S4.out rfl
      have hm4 : n < m4 := by have := pNeed_ok hN; omega
      have E4 := Lib.hid hN
      have F4 := Lib.hid (F3.out.trans hf)
      have S4 := Lib.hid hs
      have T4 := Lib.hid (T3.out.fr hf hlt)
      have T4a := Lib.hid (T3a.out.fr hf hlt)
      clear hN hf hs hG hv
      go_wp2_with fail
      refine (he.out.1 m4 w4 hm4 S4).mono ?_
      intro e w5 hG
      rcases hG.elim with ⟨x, m, hN, hf, hs, rfl⟩ | ⟨t5, m5, v5, hN, hf, hs, rfl, hv⟩
      · have E5 := Lib.hid hN
        have F5 := Lib.hid (F4.out.trans hf)
        have S5 := Lib.hid hs
        clear hN hf hs hG
        go_wp2_with fail
        refine ⟨rfl, ?_⟩
        exact got_bad (by rw [pEx, E1.out, thn_ok, if_pos hT, E3.out, thn_ok, E4.out, thn_ok, E5.out, thn_err]) F5.out S5.out rfl
      obtain ⟨g5, rfl⟩ := ptr_ok hv
      have E5 := Lib.hid hN
      have F5 := Lib.hid (F4.out.trans hf)
      have S5 := Lib.hid hs
      have T5 := Lib.hid (hv.older F4.out.size)
      have T5a := Lib.hid (T4a.out.fr hf hlt)
      have T5b := Lib.hid (T4.out.fr hf hlt)
      clear hN hf hs hG hv
      go_wp2_with fail
      refine (mk3 (at_ := m1) (op := 16) S5.out F5.out T5a.out T5b.out T5.out).mono ?_
      intro e w6 hG
      rcases hG.elim with ⟨x, m, hN, hf, hs, rfl⟩ | ⟨t6, m6, v6, hN, hf, hs, rfl, hv⟩
      · have E6 := Lib.hid hN
        have F6 := Lib.hid hf
        have S6 := Lib.hid hs
        clear hN hf hs hG
        go_wp2_with fail
        refine ⟨rfl, ?_⟩
        exact got_bad (by rw [pEx, E1.out, thn_ok, if_pos hT, E3.out, thn_ok, E4.out, thn_ok, E5.out, thn_ok, E6.out]) F6.out S6.out rfl
      obtain ⟨g6, rfl⟩ := ptr_ok hv
      have E6 := Lib.hid hN
      have F6 := Lib.hid hf
      have S6 := Lib.hid hs
      have T6 := Lib.hid hv
      clear hN hf hs hG hv
      go_wp2_with fail
      go_ret
      exact got_ok (by rw [pEx, E1.out, thn_ok, if_pos hT, E3.out, thn_ok, E4.out, thn_ok, E5.out, thn_ok, E6.out]) F6.out S6.out T6.out
    · have hT' : tokIs P.T m1 [63] = false := by simpa using hT
      go_wp2_with fail
      refine (take_no P V m1 [63] w1 S1 hT').mono ?_
      rintro e w2 ⟨rfl, hf, hs⟩
      have F2 := Lib.hid (F1.out.trans hf)
      have S2 := Lib.hid hs
      have T2 := Lib.hid (T1.out.fr hf hlt)
      clear hf hs
      go_wp2_with fail
      go_ret
      exact got_ok (by rw [pEx, E1.out, thn_ok, if_neg hT]) F2.out S2.out T2.out

end Go.Proofs.YtccjbpghpoblhaaDoor

