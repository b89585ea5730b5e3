/-
  SLICES BEHIND A PRIMARY, WALKED.
-/
import Derived.Test.YtccjbpghpoblhaaDoorK09
namespace Go.Proofs.YtccjbpghpoblhaaDoor
open Go.RowKit

theorem slice_cells {w w' : World} {at_ op n m g : Nat} {a t : Ex} (h : pMk at_ op [a] n = .ok (t, m)) (hv : vTree w t w' (.pointer (some ⟨g, 0, none⟩))) :
    w'.cell? ⟨g, 5, none⟩ = some (.string ⟨#[]⟩) ∧ w'.cell? ⟨g, 6, none⟩ = some (.int .i64 0) ∧ w'.cell? ⟨g, 7, none⟩ = some (.string ⟨#[]⟩) ∧ w'.cell? ⟨g, 8, none⟩ = some (.int .i64 0) ∧ (∀ o, w'.frozen? ⟨g, o, none⟩ = false) ∧ ∃ c, w'.heap[g]? = some (.cells c 109 (0, 0)) := by
  obtain ⟨rfl, rfl⟩ := one_kid h
  obtain ⟨cs, hb, hg, v, ca, rfl, hx⟩ := tree_block hv
  exact ⟨by rw [cell_at hb]; rfl, by rw [cell_at hb]; rfl, by rw [cell_at hb]; rfl, by rw [cell_at hb]; rfl, fun o => frozen_at hb, _, hb⟩
theorem set_slice {w w' : World} {at_ op n m g : Nat} {a t : Ex} {P : Pr} {V : Va} (h : pMk at_ op [a] n = .ok (t, m)) (hf : Fr P.b w w') (hs : St P V m w') (hv : vTree w t w' (.pointer (some ⟨g, 0, none⟩))) (hB : P.B ≤ w.heap.size) (hi lo : Dm) :
    Fr P.b w ((((w'.setCell ⟨g, 5, none⟩ (.string (str hi.1))).setCell ⟨g, 6, none⟩ (.int .i64 (hi.2 : Nat))).setCell ⟨g, 7, none⟩ (.string (str lo.1))).setCell ⟨g, 8, none⟩ (.int .i64 (lo.2 : Nat))) ∧
    St P V m ((((w'.setCell ⟨g, 5, none⟩ (.string (str hi.1))).setCell ⟨g, 6, none⟩ (.int .i64 (hi.2 : Nat))).setCell ⟨g, 7, none⟩ (.string (str lo.1))).setCell ⟨g, 8, none⟩ (.int .i64 (lo.2 : Nat))) ∧
    vTree w (setHiLo hi lo t) ((((w'.setCell ⟨g, 5, none⟩ (.string (str hi.1))).setCell ⟨g, 6, none⟩ (.int .i64 (hi.2 : Nat))).setCell ⟨g, 7, none⟩ (.string (str lo.1))).setCell ⟨g, 8, none⟩ (.int .i64 (lo.2 : Nat))) (.pointer (some ⟨g, 0, none⟩)) := by
  obtain ⟨rfl, rfl⟩ := one_kid h
  refine tree_set hv hf hs hB (fun k hk => ?_) ⟨rfl, rfl, rfl, by simp [World.setCell]⟩ (fun v D hb => ?_)
  · rw [Below.heap_setCell _ _ _ _ hk, Below.heap_setCell _ _ _ _ hk, Below.heap_setCell _ _ _ _ hk, Below.heap_setCell _ _ _ _ hk]
  · simp only [World.setCell, Array.getElem?_modify, hb]
    rfl

theorem mk1g {P : Pr} {V : Va} {n : Nat} {w0 w1 : World} {at_ op : Nat} {t : Ex} {v : Value} (hs : St P V n w1) (hf : Fr P.b w0 w1) (h1 : vTree w0 t w1 v) :
    Calls Tryd.prog 75 #[.int .i64 (at_ : Nat), .int .i64 (op : Nat), .slice (some ⟨w1.heap.size, 0, none⟩) 1 1] (w1.alloc (.cells #[v] 110)) (fun e w' => Got P V w0 (pMk at_ op [t] n) (vTree w0) e w' ∧ Gr (w1.alloc (.cells #[v] 110)) w') := by
  refine (made_any at_ op w1.heap.size 1 [t] (New w0) (w1.alloc (.cells #[v] 110)) (by simp) (by simp) ?_ (by simp) (Lib.hid ?_)).mono ?_
  · intro k hk'
    obtain rfl : k = t := by simpa using hk'
    exact h1.2
  · intro i u hu
    match i, hu with
    | 0, hu =>
      obtain rfl : t = u := by simpa using hu
      exact ⟨v, by rw [cell_at (new_at w1 _)]; rfl, (h1.alloc _).1⟩
    | i + 1, hu => simp at hu
  · rintro e w2 ⟨hg, h | h⟩
    · obtain ⟨h8, v, rfl, ht⟩ := h
      refine ⟨got_ok (a := mkEx (exZero op) [t]) (m := n) (by unfold pMk; rw [if_pos h8]) ((hf.more _).trans (Gr.fr hg)) ((hs.alloc _).gr hg) ⟨?_, ?_⟩, hg⟩
      · refine ht.keep (fun g hg' => ?_) (fun g o _ ho => ho)
        rcases hg' with h | h
        · exact h
        · have := hf.size
          simp at h
          unfold New; omega
      · rw [mkEx_deep op [t] (by simp)]; exact h8
    · obtain ⟨h8, rfl⟩ := h
      exact ⟨got_bad (x := (2, at_)) (by unfold pMk; rw [if_neg (by omega)]) ((hf.more _).trans (Gr.fr hg)) ((hs.alloc _).gr hg) rfl, hg⟩
theorem vTree.draw {w w1 : World} {t : Ex} {v : Value} (h : vTree w t w1 v) : vTree w t w1.drew v := ⟨h.1.keep (fun _ h => h) (fun _ _ _ ho => ho), h.2⟩
theorem vTree.new {w w1 : World} {t : Ex} {g : Nat} (h : vTree w t w1 (.pointer (some ⟨g, 0, none⟩))) : w.heap.size ≤ g := by
  obtain ⟨cs, hb, hg, _⟩ := tree_block h; exact hg
theorem Gr.keep {w w' : World} {g : Nat} {o : Obj} (h : Gr w w') (ho : w.heap[g]? = some o) : w'.heap[g]? = some o := (h.block g (heap_lt ho) (by simp)).trans ho

theorem pNumber_ok {T : List LexM.Tk} {n m k : Nat} (h : pNumber T n = .ok (k, m)) : m = n + 1 := by
  unfold pNumber at h
  split at h
  · injection h with h; injection h with _ h; exact h.symm
  · cases h
theorem pSide_ok {T : List LexM.Tk} {n m : Nat} {d : Dm} (h : pSide T n = .ok (d, m)) : m = n + 1 := by
  unfold pSide at h
  split at h
  · split at h
    · rename_i e; injection h with h; injection h with _ h; subst h; exact pNumber_ok e
    · cases h
  · split at h
    · rename_i e; injection h with h; injection h with _ h; subst h; exact pName_ok e
    · cases h
theorem pDim_ok {T : List LexM.Tk} {n m : Nat} {d : Dm} (h : pDim T n = .ok (d, m)) : n < m := by
  unfold pDim at h
  split at h
  · cases h
  · rename_i e
    have h1 := pSide_ok e
    split at h
    · split at h
      · rename_i e2; injection h with h; injection h with _ h; subst h; have := pNumber_ok e2; omega
      · cases h
    · injection h with h; injection h with _ h; omega
theorem put2_at {w : World} {g : Nat} {a b : Value} (h : w.heap[g]? = some (.cells #[a, b] 52 (0, 0))) (x y : Value) : ((w.setCell ⟨g, 0, none⟩ x).setCell ⟨g, 1, none⟩ y).heap[g]? = some (.cells #[x, y] 52 (0, 0)) := by
  simp only [World.setCell, Array.getElem?_modify, h]
  rfl
theorem vTree.put2 {w w1 : World} {t : Ex} {v : Value} {g : Nat} {a b : Value} (h : vTree w t w1 v) (hg : w1.heap[g]? = some (.cells #[a, b] 52 (0, 0))) (x y : Value) : vTree w t ((w1.setCell ⟨g, 0, none⟩ x).setCell ⟨g, 1, none⟩ y) v := by
  obtain ⟨⟨gt, cs, e, h1, h2, h3⟩, h4⟩ := h
  have hk : ∀ k, k ≠ g → ((w1.setCell ⟨g, 0, none⟩ x).setCell ⟨g, 1, none⟩ y).heap[k]? = w1.heap[k]? := fun k hk => by rw [Below.heap_setCell _ _ _ _ hk, Below.heap_setCell _ _ _ _ hk]
  refine ⟨⟨gt, cs, e, h1, (hk gt ?_).trans h2, ?_⟩, h4⟩
  · intro e'; subst e'; rw [hg] at h2; injection h2 with h2; injection h2 with _ h2; cases h2
  · have kk : ∀ {v n xs}, KidsAt w1 (New w) v n xs → KidsAt ((w1.setCell ⟨g, 0, none⟩ x).setCell ⟨g, 1, none⟩ y) (New w) v n xs := by
      rintro v n xs ⟨⟨hl, k1⟩, k2⟩
      refine ⟨⟨hl, ?_⟩, k2⟩
      rcases k1 with k1 | ⟨g', cap, cur, hv, hb, hh, r⟩
      · exact .inl k1
      · refine .inr ⟨g', cap, cur, hv, hb, (hk g' ?_).trans hh, r⟩
        intro e'; subst e'; rw [hg] at hh; injection hh with hh; injection hh with _ hh; cases hh
    have go : ∀ (t : Ex) (cs : List Value), ExAt w1 (New w) t cs → ExAt ((w1.setCell ⟨g, 0, none⟩ x).setCell ⟨g, 1, none⟩ y) (New w) t cs := by
      intro t
      induction t with
      | n0 h => intro cs h; exact h
      | n1 h a ih => rintro cs ⟨v, ca, e, k1, k2⟩; exact ⟨v, ca, e, kk k1, ih ca k2⟩
      | n2 h a b ih1 ih2 => rintro cs ⟨v, ca, cb, e, k1, k2, k3⟩; exact ⟨v, ca, cb, e, kk k1, ih1 ca k2, ih2 cb k3⟩
      | n3 h a b c ih1 ih2 ih3 => rintro cs ⟨v, ca, cb, cc, e, k1, k2, k3, k4⟩; exact ⟨v, ca, cb, cc, e, kk k1, ih1 ca k2, ih2 cb k3, ih3 cc k4⟩
    exact go t cs h3

/-- the rest of the slices -/
def SlRel (P : Pr) (V : Va) (w : World) (R : PR Ex) (g : Nat) (v a : Value) (wr : World) : Prop :=
  ∃ (f : Nat) (t : Ex) (m : Nat), m + g = P.T.length ∧ P.T.length < m + f ∧ a = .int .i64 (m : Nat) ∧ Hid (Fr P.b w wr) ∧ Hid (St P V m wr) ∧ Hid (vTree w t wr v) ∧ Hid (pSl P.T f t m = R)

set_option maxRecDepth 100000 in
set_option maxHeartbeats 2000000 in
theorem post_any (P : Pr) (V : Va) (pe : Nat → PR Ex) (n : Nat) (w : World) (h : Hid (St P V n w)) (he : Hid (ExprOk P V pe n)) :
    Calls Tryd.prog 78 #[.pointer (some ⟨P.b, 0, none⟩)] w (Got P V w (pPost P.T pe n) (vTree w)) := by
  have hlt := h.out.lt
  have hB := h.out.hB
  have hbd := h.out.bd
  go_enter Tryd.func78, Tryd.ntmps78
  go_wp2_with fail
  refine (primary_any P V pe n w h he).mono ?_
  intro e w1 hG
  rcases hG.elim with ⟨x, m, hN, hf, hs, rfl⟩ | ⟨t1, m1, v1, hN, hf, hs, rfl, hv⟩
  · have E1 := Lib.hid hN
    have F1 := Lib.hid hf
    have S1 := Lib.hid hs
    clear hN hf hs hG
    go_wp2_with fail
    refine ⟨rfl, ?_⟩
    exact got_bad (by simp only [pPost, E1.out, thn_err]) F1.out S1.out rfl
  obtain ⟨g1, rfl⟩ := ptr_ok hv
  have E1 := Lib.hid hN
  have F1 := Lib.hid hf
  have S1 := Lib.hid hs
  have T1 := Lib.hid hv
  have c2 := hs.c2
  have hle := hs.le
  clear hN hf hs hG hv
  go_wp2_with fail
  go_loopg [3, 4] (P.T.length - m1) (fun g v a wr => SlRel P V w (pSl P.T (P.T.length + 1) t1 m1) g v a wr)
  case atStart => exact ⟨P.T.length + 1, t1, m1, by omega, by omega, rfl, F1, S1, T1, Lib.hid rfl⟩
  case round =>
    obtain ⟨f, t, m, hmg, hmf, rfl, FR, SR, TR, ER⟩ := hrel
    have HM := Lib.hid (And.intro hmg hmf)
    have hmle := SR.out.le
    clear hmg hmf c2
    by_cases hT : tokIs P.T m [91] = true
    · have hml := tokIs_lt hT
      go_wp2_with fail
      refine (take_yes P V m [91] wr SR hT).mono ?_
      rintro e w2 ⟨rfl, hf, hs⟩
      obtain ⟨gt, rfl⟩ := ptr_ok TR.out
      have F2 := Lib.hid (FR.out.trans hf)
      have S2 := Lib.hid hs
      have T2 := Lib.hid (TR.out.fr hf hlt)
      clear hf hs
      obtain ⟨f, rfl⟩ : ∃ f', f = f' + 1 := ⟨f - 1, by have := HM.out; omega⟩
      go_wp2_with fail
      refine (dim_any P V (m + 1) w2 S2).mono ?_
      intro e w3 hG
      rcases hG.elim with ⟨x, m', hN, hf, hs, rfl⟩ | ⟨hi, m3, v3, hN, hf, hs, rfl, hv⟩
      · have E3 := Lib.hid hN
        have F3 := Lib.hid (F2.out.trans hf)
        have S3 := Lib.hid hs
        clear hN hf hs hG
        go_wp2_with fail
        refine ⟨rfl, ?_⟩
        exact got_bad (by simp only [pPost, E1.out, thn_ok]; rw [← ER.out]; unfold pSl; rw [if_pos hT, E3.out, thn_err]) F3.out S3.out rfl
      unfold vDim at hv
      subst hv
      have E3 := Lib.hid hN
      have F3 := Lib.hid (F2.out.trans hf)
      have S3 := Lib.hid hs
      have T3 := Lib.hid (T2.out.fr hf hlt)
      have hm3 : m < m3 := by have := pDim_ok hN; omega
      have hlt3 : P.b < w3.heap.size := hs.lt
      have hB3 := hs.hB
      have hz3 : w.heap.size ≤ w3.heap.size := F3.out.size
      clear hN hf hs hG
      by_cases hC : tokIs P.T m3 [58] = true
      · go_wp2_with fail
        refine (take_yes P V m3 [58] _ (Lib.hid ((S3.out.alloc _).alloc _)) hC).mono ?_
        rintro e w4 ⟨rfl, hf, hs⟩
        have F4 := Lib.hid (((F3.out.more _).more _).trans hf)
        have S4 := Lib.hid hs
        have T4 := Lib.hid (((T3.out.alloc _).alloc _).fr hf hlt)
        have B4 := Lib.hid (And.intro (hf.keep ((Below.heap_alloc _ _ _ (by simp)).trans (new_at w3 _)) (by omega)) (hf.keep (g := w3.heap.size + 1) (by have := new_at (w3.alloc (.cells #[.string (str hi.1), .int .i64 (hi.2 : Nat)] 52)) (.cells #[.string (str hi.1), .int .i64 (hi.2 : Nat)] 52); simpa using this) (by omega)))
        clear hf hs
        go_wp2_with fail
        refine (dim_any P V (m3 + 1) w4 S4).mono ?_
        intro e w5 hG
        rcases hG.elim with ⟨x, m', hN, hf, hs, rfl⟩ | ⟨lo, m5, v5, hN, hf, hs, rfl, hv⟩
        · have E5 := Lib.hid hN
          have F5 := Lib.hid (F4.out.trans hf)
          have S5 := Lib.hid hs
          clear hN hf hs hG
          go_wp2_with fail
          refine ⟨rfl, ?_⟩
          exact got_bad (by simp only [pPost, E1.out, thn_ok]; rw [← ER.out]; unfold pSl; rw [if_pos hT, E3.out, thn_ok, if_pos hC, E5.out, thn_err]) F5.out S5.out rfl
        unfold vDim at hv
        subst hv
        have b5 := hf.keep B4.out.1 (by omega)
        have b6 := hf.keep B4.out.2 (by omega)
        have i60 := cell_at (o := 0) b6
        have i61 := cell_at (o := 1) b6
        have j60 := frozen_at (o := 0) b6
        have j61 := frozen_at (o := 1) b6
        have hm5 : m < m5 := by have := pDim_ok hN; omega
        have LQ := Lib.hid ((if_pos hC : (if tokIs P.T m3 [58] = true then pDim P.T (m3 + 1) else .ok (hi, m3)) = _).trans hN)
        have FQ := Lib.hid (((F4.out.trans hf).put (a := ⟨w3.heap.size + 1, 0, none⟩) (by show _ ≤ w3.heap.size + 1; omega) (.string (str lo.1))).put (a := ⟨w3.heap.size + 1, 1, none⟩) (by show _ ≤ w3.heap.size + 1; omega) (.int .i64 (lo.2 : Nat)))
        have SQ := Lib.hid ((hs.put (a := ⟨w3.heap.size + 1, 0, none⟩) (by show _ ≤ w3.heap.size + 1; omega) (.string (str lo.1))).put (a := ⟨w3.heap.size + 1, 1, none⟩) (by show _ ≤ w3.heap.size + 1; omega) (.int .i64 (lo.2 : Nat)))
        have TQ := Lib.hid (vTree.put2 (T4.out.fr hf hlt) b6 (.string (str lo.1)) (.int .i64 (lo.2 : Nat)))
        have BQ := Lib.hid (And.intro (a := ((w5.setCell ⟨w3.heap.size + 1, 0, none⟩ (.string (str lo.1))).setCell ⟨w3.heap.size + 1, 1, none⟩ (.int .i64 (lo.2 : Nat))).heap[w3.heap.size]? = some (.cells #[.string (str hi.1), .int .i64 (hi.2 : Nat)] 52 (0, 0))) (by rw [Below.heap_setCell _ _ _ _ (by simp), Below.heap_setCell _ _ _ _ (by simp)]; exact b5) (put2_at b6 (.string (str lo.1)) (.int .i64 (lo.2 : Nat))))
        clear hN hf hs hG b5 b6
        go_wp2_with fail
        refine (need_any P V m5 [93] _ SQ).mono ?_
        intro e w6 hG
        rcases hG.elim with ⟨x, m', hN, hf, hs, rfl⟩ | ⟨u6, m6, v6, hN, hf, hs, rfl, hv⟩
        · have E6 := Lib.hid hN
          have F6 := Lib.hid (FQ.out.trans hf)
          have S6 := Lib.hid hs
          clear hN hf hs hG
          go_wp2_with fail
          refine ⟨rfl, ?_⟩
          exact got_bad (by simp only [pPost, E1.out, thn_ok]; rw [← ER.out]; unfold pSl; rw [if_pos hT, E3.out, thn_ok, LQ.out, thn_ok, E6.out, thn_err]) F6.out S6.out rfl
        have E6 := Lib.hid hN
        have F6 := Lib.hid (FQ.out.trans hf)
        have S6 := Lib.hid hs
        have T6 := Lib.hid (TQ.out.fr hf hlt)
        have B5 := Lib.hid (hf.keep BQ.out.1 (by omega))
        have B6 := Lib.hid (hf.keep BQ.out.2 (by omega))
        have hm6 : m5 < m6 := by have := pNeed_ok hN; omega
        clear hN hf hs hG hv
        go_wp2_with fail
        refine (mk1g (at_ := m) (op := 18) S6.out F6.out T6.out).mono ?_
        rintro e w7 ⟨hG, hg7⟩
        rcases hG.elim with ⟨x, m', hN, hf, hs, rfl⟩ | ⟨t7, m7, v7, hN, hf, hs, rfl, hv⟩
        · have E7 := Lib.hid hN
          have F7 := Lib.hid hf
          have S7 := Lib.hid hs
          clear hN hf hs hG hg7
          go_wp2_with fail
          refine ⟨rfl, ?_⟩
          exact got_bad (by simp only [pPost, E1.out, thn_ok]; rw [← ER.out]; unfold pSl; rw [if_pos hT, E3.out, thn_ok, LQ.out, thn_ok, E6.out, thn_ok, E7.out, thn_err]) F7.out S7.out rfl
        obtain ⟨g7, rfl⟩ := ptr_ok hv
        obtain ⟨d5, d6, d7, d8, dz, cc, dc⟩ := slice_cells hN hv
        have hm7 := (one_kid hN).2
        have n7 : ¬ g7 = P.b := by have := hv.new; omega
        have n7' : ¬ P.b = g7 := fun e' => n7 e'.symm
        have b5 := hg7.keep ((Below.heap_alloc _ _ _ (heap_lt B5.out)).trans B5.out)
        have b6 := hg7.keep ((Below.heap_alloc _ _ _ (heap_lt B6.out)).trans B6.out)
        have n5 : ¬ w3.heap.size = g7 := by
          intro e'; rw [← e', b5] at dc; injection dc with dc; injection dc with _ dc; cases dc
        have n6 : ¬ w3.heap.size + 1 = g7 := by
          intro e'; rw [← e', b6] at dc; injection dc with dc; injection dc with _ dc; cases dc
        have h50 := cell_at (o := 0) b5
        have h51 := cell_at (o := 1) b5
        have h60 := cell_at (o := 0) b6
        have h61 := cell_at (o := 1) b6
        have n5' : ¬ g7 = w3.heap.size := fun e' => n5 e'.symm
        have n6' : ¬ g7 = w3.heap.size + 1 := fun e' => n6 e'.symm
        have z5 := dz 5
        have z6 := dz 6
        have z7 := dz 7
        have z8 := dz 8
        have R7 := Lib.hid (set_slice hN hf hs hv hB hi lo)
        have E7 := Lib.hid hN
        have q2 := hs.c2
        clear hN hf hs hG hg7 hv b5 b6 dc dz
        have HM7 := Lib.hid hm7
        clear hm7
        go_wp2_with fail
        go_region
        go_wp2_with fail
        go_roundg (P.T.length - m7)
        case measure => go_light; have h1 := HM.out; have h2 := HM7.out; omega
        case rel =>
          refine ⟨f, _, m7, ?_, ?_, rfl, Lib.hid R7.out.1.draw, Lib.hid R7.out.2.1.drew, Lib.hid R7.out.2.2.draw, Lib.hid ?_⟩
          · go_light; have h2 := HM7.out; have h3 := R7.out.2.1.le; omega
          · go_light; have h1 := HM.out; have h2 := HM7.out; omega
          · rw [← ER.out, pSl, if_pos hT, E3.out, thn_ok, LQ.out, thn_ok, E6.out, thn_ok, E7.out, thn_ok]
      · have hC' : tokIs P.T m3 [58] = false := by simpa using hC
        go_wp2_with fail
        refine (take_no P V m3 [58] _ (Lib.hid ((S3.out.alloc _).alloc _)) hC').mono ?_
        rintro e w4 ⟨rfl, hf, hs⟩
        have FQ := Lib.hid (((F3.out.more _).more _).trans hf)
        have SQ := Lib.hid hs
        have TQ := Lib.hid (((T3.out.alloc _).alloc _).fr hf hlt)
        have BQ := Lib.hid (And.intro (hf.keep ((Below.heap_alloc _ _ _ (by simp)).trans (new_at w3 _)) (by omega)) (hf.keep (g := w3.heap.size + 1) (by have := new_at (w3.alloc (.cells #[.string (str hi.1), .int .i64 (hi.2 : Nat)] 52)) (.cells #[.string (str hi.1), .int .i64 (hi.2 : Nat)] 52); simpa using this) (by omega)))
        have LQ := Lib.hid (if_neg hC : (if tokIs P.T m3 [58] = true then pDim P.T (m3 + 1) else .ok (hi, m3)) = .ok (hi, m3))
        clear hf hs
        go_wp2_with fail
        refine (need_any P V m3 [93] _ SQ).mono ?_
        intro e w6 hG
        rcases hG.elim with ⟨x, m', hN, hf, hs, rfl⟩ | ⟨u6, m6, v6, hN, hf, hs, rfl, hv⟩
        · have E6 := Lib.hid hN
          have F6 := Lib.hid (FQ.out.trans hf)
          have S6 := Lib.hid hs
          clear hN hf hs hG
          go_wp2_with fail
          refine ⟨rfl, ?_⟩
          exact got_bad (by simp only [pPost, E1.out, thn_ok]; rw [← ER.out]; unfold pSl; rw [if_pos hT, E3.out, thn_ok, LQ.out, thn_ok, E6.out, thn_err]) F6.out S6.out rfl
        have E6 := Lib.hid hN
        have F6 := Lib.hid (FQ.out.trans hf)
        have S6 := Lib.hid hs
        have T6 := Lib.hid (TQ.out.fr hf hlt)
        have B5 := Lib.hid (hf.keep BQ.out.1 (by omega))
        have B6 := Lib.hid (hf.keep BQ.out.2 (by omega))
        have hm6 : m3 < m6 := by have := pNeed_ok hN; omega
        clear hN hf hs hG hv
        go_wp2_with fail
        refine (mk1g (at_ := m) (op := 18) S6.out F6.out T6.out).mono ?_
        rintro e w7 ⟨hG, hg7⟩
        rcases hG.elim with ⟨x, m', hN, hf, hs, rfl⟩ | ⟨t7, m7, v7, hN, hf, hs, rfl, hv⟩
        · have E7 := Lib.hid hN
          have F7 := Lib.hid hf
          have S7 := Lib.hid hs
          clear hN hf hs hG hg7
          go_wp2_with fail
          refine ⟨rfl, ?_⟩
          exact got_bad (by simp only [pPost, E1.out, thn_ok]; rw [← ER.out]; unfold pSl; rw [if_pos hT, E3.out, thn_ok, LQ.out, thn_ok, E6.out, thn_ok, E7.out, thn_err]) F7.out S7.out rfl
        obtain ⟨g7, rfl⟩ := ptr_ok hv
        obtain ⟨d5, d6, d7, d8, dz, cc, dc⟩ := slice_cells hN hv
        have hm7 := (one_kid hN).2
        have n7 : ¬ g7 = P.b := by have := hv.new; omega
        have n7' : ¬ P.b = g7 := fun e' => n7 e'.symm
        have b5 := hg7.keep ((Below.heap_alloc _ _ _ (heap_lt B5.out)).trans B5.out)
        have b6 := hg7.keep ((Below.heap_alloc _ _ _ (heap_lt B6.out)).trans B6.out)
        have n5 : ¬ w3.heap.size = g7 := by
          intro e'; rw [← e', b5] at dc; injection dc with dc; injection dc with _ dc; cases dc
        have n6 : ¬ w3.heap.size + 1 = g7 := by
          intro e'; rw [← e', b6] at dc; injection dc with dc; injection dc with _ dc; cases dc
        have h50 := cell_at (o := 0) b5
        have h51 := cell_at (o := 1) b5
        have h60 := cell_at (o := 0) b6
        have h61 := cell_at (o := 1) b6
        have n5' : ¬ g7 = w3.heap.size := fun e' => n5 e'.symm
        have n6' : ¬ g7 = w3.heap.size + 1 := fun e' => n6 e'.symm
        have z5 := dz 5
        have z6 := dz 6
        have z7 := dz 7
        have z8 := dz 8
        have R7 := Lib.hid (set_slice hN hf hs hv hB hi hi)
        have E7 := Lib.hid hN
        have q2 := hs.c2
        clear hN hf hs hG hg7 hv b5 b6 dc dz
        have HM7 := Lib.hid hm7
        clear hm7
        go_wp2_with fail
        go_region
        go_wp2_with fail
        go_roundg (P.T.length - m7)
        case measure => go_light; have h1 := HM.out; have h2 := HM7.out; omega
        case rel =>
          refine ⟨f, _, m7, ?_, ?_, rfl, Lib.hid R7.out.1.draw, Lib.hid R7.out.2.1.drew, Lib.hid R7.out.2.2.draw, Lib.hid ?_⟩
          · go_light; have h2 := HM7.out; have h3 := R7.out.2.1.le; omega
          · go_light; have h1 := HM.out; have h2 := HM7.out; omega
          · rw [← ER.out, pSl, if_pos hT, E3.out, thn_ok, LQ.out, thn_ok, E6.out, thn_ok, E7.out, thn_ok]
    · have hT' : tokIs P.T m [91] = false := by simpa using hT
      obtain ⟨gt, rfl⟩ := ptr_ok TR.out
      go_wp2_with fail
      refine (take_no P V m [91] wr SR hT').mono ?_
      rintro e w2 ⟨rfl, hf, hs⟩
      have F2 := Lib.hid (FR.out.trans hf)
      have S2 := Lib.hid hs
      have T2 := Lib.hid (TR.out.fr hf hlt)
      clear hf hs
      go_wp2_with fail
      go_ret
      refine got_ok (a := t) (m := m) ?_ F2.out S2.out T2.out
      simp only [pPost, E1.out, thn_ok]
      rw [← ER.out]
      cases f with
      | zero => rfl
      | succ f => unfold pSl; rw [if_neg hT]

end Go.Proofs.YtccjbpghpoblhaaDoor

