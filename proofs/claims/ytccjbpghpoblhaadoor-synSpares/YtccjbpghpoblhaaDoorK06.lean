/-
  NAMES, NUMBERS, DIMS, WALKED.
-/
import Derived.Test.YtccjbpghpoblhaaDoorK05
namespace Go.Proofs.YtccjbpghpoblhaaDoor
open Go.RowKit

/-- the kept words -/
def words : List (List UInt8) := [[109, 111, 100, 117, 108, 101], [105, 110], [111, 117, 116], [119, 105, 114, 101], [114, 101, 103], [109, 101, 109], [105, 110, 115, 116], [97, 115, 115, 101, 114, 116], [97, 115, 115, 117, 109, 101], [99, 111, 118, 101, 114],
  [110, 101, 120, 116], [112, 117, 116], [105, 102], [97, 110, 121], [97, 108, 108], [112, 97, 115, 116], [97, 116]]
def isWord (l : List UInt8) : Bool := words.contains l

set_option maxHeartbeats 1000000 in
theorem Word_any (l : List UInt8) (w : World) : Calls Tryd.prog 19 #[.string (str l)] w fun e w' => e = .returned (.bool (isWord l)) ∧ w = w' := by
  go_enter Tryd.func19, Tryd.ntmps19
  go_wp2
  all_goals (first | (exfalso; simp_all; done) | (go_ret; exact ⟨ret_bool (by simp_all [isWord, words, str_toList]), rfl⟩))

theorem Word_b {l : List UInt8} {b : Bool} (w : World) (h : isWord l = b) : Calls Tryd.prog 19 #[.string (str l)] w fun e w' => e = .returned (.bool b) ∧ w' = w :=
  (Word_any l w).mono fun _ _ ⟨he, hw⟩ => ⟨by rw [he, h], hw.symm⟩
def tokAt (T : List LexM.Tk) (n : Nat) : LexM.Tk := T.getD n ⟨0, [], 0, 0⟩
theorem tokAt_some {T : List LexM.Tk} {n : Nat} {t : LexM.Tk} (h : T[n]? = some t) : tokAt T n = t := by unfold tokAt; rw [List.getD_eq_getElem?_getD, h]; rfl

/-- number -/
def pNumber (T : List LexM.Tk) (n : Nat) : PR Nat := if kindIs T n 2 then .ok ((tokAt T n).n, n + 1) else .error (gu T n 20)
def vNat (k : Nat) (_ : World) (v : Value) : Prop := v = .int .i64 (k : Nat)

set_option maxHeartbeats 1000000 in
theorem num_any (P : Pr) (V : Va) (n : Nat) (w : World) (h : Hid (St P V n w)) :
    Calls Tryd.prog 73 #[.pointer (some ⟨P.b, 0, none⟩)] w (Got P V w (pNumber P.T n) vNat) := by
  have hbd := h.out.bd
  by_cases hT : kindIs P.T n 2 = true
  · have hn := kindIs_lt hT
    have ht : P.T[n]? = some P.T[n] := List.getElem?_eq_getElem hn
    generalize P.T[n] = t at ht
    obtain ⟨g, off, hA, hne, hlt, k0, k1, k2, k3⟩ := h.out.tok n t ht
    have c0 := h.out.c0
    have c2 := h.out.c2
    have hfz := h.out.fz 2
    have HT := Lib.hid ht
    clear ht
    rw [hA] at c0
    have HA := Lib.hid hA
    clear hA
    have hne' : ¬ P.b = g := fun e => hne e.symm
    go_enter Tryd.func73, Tryd.ntmps73
    go_wp2_with fail
    refine (isKind_q P V n 2 w h).mono ?_
    rintro e w' ⟨rfl, k, rfl⟩
    rw [hT]
    go_wp2_with fail
    go_quiet (fail)
    go_wp2_with fail
    go_ret
    have := next_set (h.out.drewN k) hn ((n : Int) + 1) (by omega)
    refine got_ok (by unfold pNumber; rw [if_pos hT]) (((Fr.drewN _ _ _).trans this.1).trans (Fr.drewN _ _ _)) (this.2.drewN _) ?_
    unfold vNat
    first | rfl | (rw [tokAt_some HT.out]; rfl)
  · have hT' : kindIs P.T n 2 = false := by simpa using hT
    clear hT
    go_enter Tryd.func73, Tryd.ntmps73
    go_wp2_with fail
    refine (isKind_s h hT').mono ?_
    rintro e w1 ⟨rfl, hf1, hs1⟩
    go_wp2_with fail
    refine (giveUp_any P V n 20 _ (Lib.hid hs1)).mono ?_
    rintro e w2 ⟨rfl, hf2, hs2⟩
    go_wp2_with fail
    refine ⟨rfl, ?_⟩
    exact got_bad (by unfold pNumber; rw [if_neg (by rw [hT']; decide)]) (hf1.trans hf2) hs2 rfl

/-- name -/
def pName (T : List LexM.Tk) (n : Nat) : PR (List UInt8) := if kindIs T n 1 && !isWord (tokAt T n).text then .ok ((tokAt T n).text, n + 1) else .error (gu T n 20)
def vStr (l : List UInt8) (_ : World) (v : Value) : Prop := v = .string (str l)

set_option maxHeartbeats 1000000 in
theorem name_any (P : Pr) (V : Va) (n : Nat) (w : World) (h : Hid (St P V n w)) :
    Calls Tryd.prog 55 #[.pointer (some ⟨P.b, 0, none⟩)] w (Got P V w (pName P.T n) vStr) := by
  have hbd := h.out.bd
  by_cases hT : kindIs P.T n 1 = true
  · have hn := kindIs_lt hT
    have ht : P.T[n]? = some P.T[n] := List.getElem?_eq_getElem hn
    generalize P.T[n] = t at ht
    obtain ⟨g, off, hA, hne, hlt, k0, k1, k2, k3⟩ := h.out.tok n t ht
    have c0 := h.out.c0
    have c2 := h.out.c2
    have hfz := h.out.fz 2
    have HT := Lib.hid ht
    clear ht
    rw [hA] at c0
    have HA := Lib.hid hA
    clear hA
    have hne' : ¬ P.b = g := fun e => hne e.symm
    by_cases hW : isWord t.text = true
    · go_enter Tryd.func55, Tryd.ntmps55
      go_wp2_with fail
      go_quiet (first | (go_at_call 68; exact Calls.quiet_of (isKind_b (Lib.hid (h.out.drewN _)) hT)) | (go_at_call 19; exact Calls.quiet_of_same (Word_b _ hW)))
      go_wp2_with fail
      refine (giveUp_any P V n 20 _ (Lib.hid (h.out.drewN _))).mono ?_
      rintro e w2 ⟨rfl, hf2, hs2⟩
      go_wp2_with fail
      refine ⟨rfl, ?_⟩
      exact got_bad (by unfold pName; rw [tokAt_some HT.out, hW, Bool.not_true, Bool.and_false]; rfl) ((Fr.drewN _ _ _).trans hf2) hs2 rfl
    · have hW' : isWord t.text = false := by simpa using hW
      clear hW
      go_enter Tryd.func55, Tryd.ntmps55
      go_wp2_with fail
      go_quiet (first | (go_at_call 68; exact Calls.quiet_of (isKind_b (Lib.hid (h.out.drewN _)) hT)) | (go_at_call 19; exact Calls.quiet_of_same (Word_b _ hW')))
      have N := Lib.hid (next_set (h.out.drewN nq) hn ((n : Int) + 1) (by omega))
      go_wp2_with fail
      go_quiet (fail)
      go_wp2_with fail
      go_ret
      refine got_ok (by unfold pName; rw [tokAt_some HT.out, hW', hT]; rfl) (((Fr.drewN _ _ _).trans N.out.1).trans (Fr.drewN _ _ _)) (N.out.2.drewN _) ?_
      unfold vStr
      first | rfl | (rw [tokAt_some HT.out]; rfl)
  · have hT' : kindIs P.T n 1 = false := by simpa using hT
    clear hT
    go_enter Tryd.func55, Tryd.ntmps55
    go_wp2_with fail
    go_quiet (first | (go_at_call 68; exact Calls.quiet_of (isKind_b (Lib.hid (h.out.drewN _)) hT')))
    go_wp2_with fail
    refine (giveUp_any P V n 20 _ (Lib.hid (h.out.drewN _))).mono ?_
    rintro e w2 ⟨rfl, hf2, hs2⟩
    go_wp2_with fail
    refine ⟨rfl, ?_⟩
    exact got_bad (by unfold pName; rw [hT']; rfl) ((Fr.drewN _ _ _).trans hf2) hs2 rfl

/-- a dim: its name, and its number -/
abbrev Dm := List UInt8 × Nat
def vDim (d : Dm) (_ : World) (v : Value) : Prop := v = .agg #[.string (str d.1), .int .i64 (d.2 : Nat)]

def pSide (T : List LexM.Tk) (n : Nat) : PR Dm :=
  if kindIs T n 2 then (match pNumber T n with | .ok (k, m) => .ok (([], k), m) | .error x => .error x)
  else match pName T n with | .ok (l, m) => .ok ((l, 0), m) | .error x => .error x

set_option maxHeartbeats 1000000 in
theorem side_any (P : Pr) (V : Va) (n : Nat) (w : World) (h : Hid (St P V n w)) :
    Calls Tryd.prog 72 #[.pointer (some ⟨P.b, 0, none⟩)] w (Got P V w (pSide P.T n) vDim) := by
  have hbd := h.out.bd
  have hlt := h.out.lt
  have hB := h.out.hB
  by_cases hT : kindIs P.T n 2 = true
  · go_enter Tryd.func72, Tryd.ntmps72
    go_wp2_with fail
    refine (isKind_s (Lib.hid (h.out.alloc _)) hT).mono ?_
    rintro e w1 ⟨rfl, hf1, hs1⟩
    have H1 := Lib.hid (And.intro hf1 (And.intro hs1 (hf1.keep (new_at w _) (by omega))))
    clear hf1 hs1
    go_wp2_with fail
    refine (num_any P V n _ (Lib.hid H1.out.2.1)).mono ?_
    intro e w2 hG
    rcases hG.elim with ⟨x, m, hN, hf2, hs2, rfl⟩ | ⟨k, m, v, hN, hf2, hs2, rfl, hv⟩
    · have H2 := Lib.hid (And.intro hN (And.intro hf2 hs2))
      clear hN hf2 hs2 hG
      go_wp2_with fail
      refine ⟨rfl, ?_⟩
      exact got_bad (by unfold pSide; rw [if_pos hT, H2.out.1]) (((Fr.alloc _ _ _).trans H1.out.1).trans H2.out.2.1) H2.out.2.2 rfl
    · unfold vNat at hv
      subst hv
      have hb2 := hf2.keep H1.out.2.2 (by omega)
      have d0 := cell_at (o := 0) hb2
      have d1 := cell_at (o := 1) hb2
      have z0 := frozen_at (o := 0) hb2
      have z1 := frozen_at (o := 1) hb2
      have H2 := Lib.hid (And.intro hN (And.intro hf2 hs2))
      clear hN hf2 hs2 hG hb2
      go_wp2_with fail
      refine bodyPost_ret (v := .agg #[.string (str []), .int .i64 (k : Nat)]) (by simp [results, Tryd.results72, go_sem, d0, d1]; rfl) rfl ?_
      have hz1 := H1.out.1.size
      have hz2 := H2.out.2.1.size
      have hB2 := H2.out.2.2.hB
      exact got_ok (by unfold pSide; rw [if_pos hT, H2.out.1]) (((((Fr.alloc _ _ _).trans H1.out.1).trans H2.out.2.1).put (Nat.le_refl _) _).put (Nat.le_refl _) _) ((H2.out.2.2.put hB _).put hB _) (by rfl)
  · have hT' : kindIs P.T n 2 = false := by simpa using hT
    clear hT
    go_enter Tryd.func72, Tryd.ntmps72
    go_wp2_with fail
    refine (isKind_s (Lib.hid (h.out.alloc _)) hT').mono ?_
    rintro e w1 ⟨rfl, hf1, hs1⟩
    have H1 := Lib.hid (And.intro hf1 (And.intro hs1 (hf1.keep (new_at w _) (by omega))))
    clear hf1 hs1
    go_wp2_with fail
    refine (name_any P V n _ (Lib.hid H1.out.2.1)).mono ?_
    intro e w2 hG
    rcases hG.elim with ⟨x, m, hN, hf2, hs2, rfl⟩ | ⟨k, m, v, hN, hf2, hs2, rfl, hv⟩
    · have H2 := Lib.hid (And.intro hN (And.intro hf2 hs2))
      clear hN hf2 hs2 hG
      go_wp2_with fail
      refine ⟨rfl, ?_⟩
      exact got_bad (by unfold pSide; rw [if_neg (by rw [hT']; decide), H2.out.1]) (((Fr.alloc _ _ _).trans H1.out.1).trans H2.out.2.1) H2.out.2.2 rfl
    · unfold vStr at hv
      subst hv
      have hb2 := hf2.keep H1.out.2.2 (by omega)
      have d0 := cell_at (o := 0) hb2
      have d1 := cell_at (o := 1) hb2
      have z0 := frozen_at (o := 0) hb2
      have z1 := frozen_at (o := 1) hb2
      have H2 := Lib.hid (And.intro hN (And.intro hf2 hs2))
      clear hN hf2 hs2 hG hb2
      go_wp2_with fail
      refine bodyPost_ret (v := .agg #[.string (str k), .int .i64 (0 : Nat)]) (by simp [results, Tryd.results72, go_sem, d0, d1]) rfl ?_
      exact got_ok (by unfold pSide; rw [if_neg (by rw [hT']; decide), H2.out.1]) (((((Fr.alloc _ _ _).trans H1.out.1).trans H2.out.2.1).put (Nat.le_refl _) _).put (Nat.le_refl _) _) ((H2.out.2.2.put hB _).put hB _) (by rfl)

def pDim (T : List LexM.Tk) (n : Nat) : PR Dm :=
  match pSide T n with
  | .error x => .error x
  | .ok (d, m) => if d.1 ≠ [] ∧ tokIs T m [43] = true then (match pNumber T (m + 1) with | .ok (k, q) => .ok ((d.1, k), q) | .error x => .error x) else .ok (d, m)

theorem new_two (w : World) (a b : Value) (t : TypeId) : (w.alloc (.cells #[a, b] t)).heap[w.heap.size]? = some (.cells #[a, b] t (0, 0)) := new_at w _

set_option maxHeartbeats 1000000 in
theorem dim_any (P : Pr) (V : Va) (n : Nat) (w : World) (h : Hid (St P V n w)) :
    Calls Tryd.prog 63 #[.pointer (some ⟨P.b, 0, none⟩)] w (Got P V w (pDim P.T n) vDim) := by
  have hbd := h.out.bd
  have hlt := h.out.lt
  have hB := h.out.hB
  go_enter Tryd.func63, Tryd.ntmps63
  go_wp2_with fail
  refine (side_any P V n _ (Lib.hid (h.out.alloc _))).mono ?_
  intro e w1 hG
  rcases hG.elim with ⟨x, m, hN, hf1, hs1, rfl⟩ | ⟨d, m, v, hN, hf1, hs1, rfl, hv⟩
  · have H1 := Lib.hid (And.intro hN (And.intro hf1 hs1))
    clear hN hf1 hs1 hG
    go_wp2_with fail
    refine ⟨rfl, ?_⟩
    exact got_bad (by unfold pDim; rw [H1.out.1]) ((Fr.alloc _ _ _).trans H1.out.2.1) H1.out.2.2 rfl
  · unfold vDim at hv
    subst hv
    have hb1 := hf1.keep (new_at w _) (by omega)
    have hz1 := hf1.size
    have H1 := Lib.hid (And.intro hN (And.intro hf1 (And.intro hs1 hb1)))
    have hB1 := hs1.hB
    have hne : ¬ P.b = w1.heap.size := by have := hs1.lt; omega
    simp at hz1
    have hlt1 : w.heap.size < w1.heap.size := by omega
    by_cases hd : d.1 = []
    · have e1 : (str d.1).toList = [] := by rw [str_toList, hd]
      have d0 := cell_at (o := 0) hb1
      have d1 := cell_at (o := 1) hb1
      have z0 := frozen_at (o := 0) hb1
      have z1 := frozen_at (o := 1) hb1
      have HD := Lib.hid hd
      clear hN hf1 hs1 hG hb1 hd
      go_wp2_with fail
      refine bodyPost_ret (v := .agg #[.string (str d.1), .int .i64 (d.2 : Nat)]) (by simp [results, Tryd.results63, go_sem, d0, d1, hlt1]) rfl ?_
      exact got_ok (a := d) (m := m) (by unfold pDim; rw [H1.out.1]; simp [HD.out]) (((((Fr.alloc _ _ _).trans H1.out.2.1).put (Nat.le_refl _) _).put (Nat.le_refl _) _).more _) (((H1.out.2.2.1.put hB _).put hB _).alloc _) (by rfl)
    · have e1 : ¬ (str d.1).toList = [] := by rw [str_toList]; exact hd
      have e2 : (!(str d.1).toList.isEmpty) = true := by rw [str_toList]; simpa using hd
      have HD := Lib.hid hd
      clear hN hf1 hs1 hG hb1 hd
      by_cases hT : tokIs P.T m [43] = true
      · go_wp2_with fail
        refine (take_yes P V m [43] _ (Lib.hid (H1.out.2.2.1.alloc _)) hT).mono ?_
        rintro e w2 ⟨rfl, hf2, hs2⟩
        have hz2 := hf2.size
        simp at hz2
        have H2 := Lib.hid (And.intro hf2 (And.intro hs2 (And.intro (hf2.keep ((Below.heap_alloc _ _ _ hlt1).trans H1.out.2.2.2) (by omega)) (hf2.keep (new_at w1 _) (fun e => hne e.symm)))))
        clear hf2 hs2
        go_wp2_with fail
        refine (num_any P V (m + 1) _ (Lib.hid H2.out.2.1)).mono ?_
        intro e w3 hG
        rcases hG.elim with ⟨x, q, hN, hf3, hs3, rfl⟩ | ⟨k, q, v, hN, hf3, hs3, rfl, hv⟩
        · have H3 := Lib.hid (And.intro hN (And.intro hf3 hs3))
          clear hN hf3 hs3 hG
          go_wp2_with fail
          refine ⟨rfl, ?_⟩
          exact got_bad (by unfold pDim; rw [H1.out.1]; simp only []; rw [if_pos ⟨HD.out, hT⟩, H3.out.1]) (((((Fr.alloc _ _ _).trans H1.out.2.1).more _).trans H2.out.1).trans H3.out.2.1) H3.out.2.2 rfl
        · unfold vNat at hv
          subst hv
          have hb1 := hf3.keep H2.out.2.2.1 (by omega)
          have hb2 := hf3.keep H2.out.2.2.2 (fun e => hne e.symm)
          have hz3 := hf3.size
          have d0 := cell_at (o := 0) hb1
          have d1 := cell_at (o := 1) hb1
          have z0 := frozen_at (o := 0) hb1
          have z1 := frozen_at (o := 1) hb1
          have g0 := cell_at (o := 0) hb2
          have g1 := cell_at (o := 1) hb2
          have y0 := frozen_at (o := 0) hb2
          have y1 := frozen_at (o := 1) hb2
          have hq : ¬ w1.heap.size = w.heap.size := by omega
          have H3 := Lib.hid (And.intro hN (And.intro hf3 hs3))
          clear hN hf3 hs3 hG hb1 hb2
          go_wp2_with fail
          refine bodyPost_ret (v := .agg #[.string (str d.1), .int .i64 (k : Nat)]) (by simp [results, Tryd.results63, go_sem, d0, d1]) rfl ?_
          exact got_ok (by unfold pDim; rw [H1.out.1]; simp only []; rw [if_pos ⟨HD.out, hT⟩, H3.out.1]) (((((((((Fr.alloc _ _ _).trans H1.out.2.1).more _).trans H2.out.1).trans H3.out.2.1).put (by show _ ≤ w1.heap.size; omega) _).put (Nat.le_refl _) _).put (Nat.le_refl _) _)) (((H3.out.2.2.put hB1 _).put hB _).put hB _) (by rfl)
      · have hT' : tokIs P.T m [43] = false := by simpa using hT
        clear hT
        go_wp2_with fail
        refine (take_no P V m [43] _ (Lib.hid (H1.out.2.2.1.alloc _)) hT').mono ?_
        rintro e w2 ⟨rfl, hf2, hs2⟩
        have hz2 := hf2.size
        simp at hz2
        have hb1 := hf2.keep ((Below.heap_alloc _ _ _ hlt1).trans H1.out.2.2.2) (by omega)
        have hb2 := hf2.keep (new_at w1 _) (fun e => hne e.symm)
        have d0 := cell_at (o := 0) hb1
        have d1 := cell_at (o := 1) hb1
        have z0 := frozen_at (o := 0) hb1
        have z1 := frozen_at (o := 1) hb1
        have g0 := cell_at (o := 0) hb2
        have g1 := cell_at (o := 1) hb2
        have H2 := Lib.hid (And.intro hf2 hs2)
        clear hf2 hs2 hb1 hb2
        go_wp2_with fail
        refine bodyPost_ret (v := .agg #[.string (str d.1), .int .i64 (d.2 : Nat)]) (by simp [results, Tryd.results63, go_sem, d0, d1]) rfl ?_
        exact got_ok (a := d) (m := m) (by unfold pDim; rw [H1.out.1]; simp [hT']) ((((((Fr.alloc _ _ _).trans H1.out.2.1).more _).trans H2.out.1).put (Nat.le_refl _) _).put (Nat.le_refl _) _) ((H2.out.2.put hB _).put hB _) (by rfl)

end Go.Proofs.YtccjbpghpoblhaaDoor

