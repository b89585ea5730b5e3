/-
  ITEMS AND MODULES CUT OFF ahead of a token: the end is met there. Plain mathematics.
-/
import Derived.Test.YtccjbpghpoblhaaDoorC02synCuts
/-
  EXPRESSIONS CUT OFF ahead of a token: the end is met there, or what was read so far stands, and is not deeper. Plain mathematics.
-/
namespace Go.Proofs.YtccjbpghpoblhaaDoor

/-- the end is met at n, or something was read up to n -/
def CutY {α : Type} (n : Nat) (r : PR α) : Prop := r = .error (21, n) ∨ ∃ v, r = .ok (v, n)
/-- likewise of an expression: what was read is not deeper than v -/
def CutL (n : Nat) (r : PR Ex) (v : Ex) : Prop := r = .error (21, n) ∨ ∃ v', r = .ok (v', n) ∧ v'.deep ≤ v.deep
theorem CutL.any {n : Nat} {r : PR Ex} {v : Ex} (h : CutL n r v) : CutY n r := h.imp id fun ⟨v', h1, _⟩ => ⟨v', h1⟩

theorem sim_cut {T : List LexM.Tk} {n : Nat} (hn : n ≤ T.length) : Sim T (T.take n) 0 n :=
  ⟨hn, by simp; omega, fun k hk => by show Option.map bare (T.take n)[k]? = _; rw [List.getElem?_take, if_pos hk]⟩

section
variable {T : List LexM.Tk} {n : Nat} (hn : n ≤ T.length)
include hn
theorem cut_len : (T.take n).length = n := by simp; omega
theorem tokIs_e (l : List UInt8) : tokIs (T.take n) n l = false := tokIs_none (by rw [cut_len hn]; omega) l
theorem kindIs_e (k : Nat) : kindIs (T.take n) n k = false := kindIs_none (by rw [cut_len hn]; omega) k
theorem gu_e (er : Nat) : gu (T.take n) n er = (21, n) := by unfold gu; rw [if_pos (cut_len hn).symm]
theorem pNeed_e (l : List UInt8) : pNeed (T.take n) n l = .error (21, n) := by unfold pNeed; rw [tokIs_e hn, gu_e hn]; rfl
theorem pNumber_e : pNumber (T.take n) n = .error (21, n) := by unfold pNumber; rw [kindIs_e hn, gu_e hn]; rfl
theorem pName_e : pName (T.take n) n = .error (21, n) := by unfold pName; rw [kindIs_e hn, gu_e hn]; rfl
theorem pSide_e : pSide (T.take n) n = .error (21, n) := by unfold pSide; rw [kindIs_e hn, pName_e hn]; rfl
theorem pDim_e : pDim (T.take n) n = .error (21, n) := by unfold pDim; rw [pSide_e hn]
theorem pBr_e (pe : Nat → PR Ex) : pBr (T.take n) pe n = .error (21, n) := by unfold pBr; rw [pNeed_e hn]; rfl
theorem pLeaf_e : pLeaf (T.take n) n = .error (21, n) := by unfold pLeaf; rw [pSide_e hn]; rfl
theorem pPrim_e (pe : Nat → PR Ex) : pPrim (T.take n) pe n = .error (21, n) := by
  unfold pPrim
  rw [tokIs_e hn, tokIs_e hn, tokIs_e hn, tokIs_e hn, tokIs_e hn, tokIs_e hn]
  exact pLeaf_e hn
theorem pSl_e : ∀ (f : Nat) (t : Ex), pSl (T.take n) f t n = .ok (t, n)
  | 0, t => rfl
  | f + 1, t => by rw [pSl, tokIs_e hn]; rfl
theorem pPost_e (pe : Nat → PR Ex) : pPost (T.take n) pe n = .error (21, n) := by unfold pPost; rw [pPrim_e hn]; rfl
theorem pUn_e (pe : Nat → PR Ex) : ∀ f, pUn (T.take n) pe f n = .error (21, n)
  | 0 => pPost_e hn pe
  | f + 1 => by rw [pUn, tokIs_e hn]; exact pPost_e hn pe
theorem opOf_e : opOf (T.take n) n = (0, 0) := by
  unfold opOf
  have : opTab.find? (fun t => tokIs (T.take n) n t.1) = none := by
    rw [List.find?_eq_none]
    intro t _
    rw [tokIs_e hn]
    simp
  rw [this]
theorem pLoop_e (pe : Nat → PR Ex) : ∀ (f l q : Nat) (t : Ex), 1 ≤ l → pLoop (T.take n) pe f l q t n = .ok (t, n)
  | 0, l, q, t, _ => rfl
  | f + 1, l, q, t, h => by rw [pLoop, opOf_e hn, if_pos (.inl h)]
theorem pBet_e (pe : Nat → PR Ex) (f l : Nat) : pBet (T.take n) pe f l n = .error (21, n) := by unfold pBet; rw [pUn_e hn]; rfl
theorem pEx_e (f : Nat) : pEx (T.take n) (f + 1) n = .error (21, n) := by rw [pEx, pBet_e hn]; rfl
end

/-- depth -/
theorem deeps1 (a : Ex) : deeps [a] = a.deep + 1 := by simp [deeps]
theorem deeps2 (a b : Ex) : deeps [a, b] = max (a.deep + 1) (b.deep + 1) := by simp [deeps]
theorem deeps3 (a b c : Ex) : deeps [a, b, c] = max (max (a.deep + 1) (b.deep + 1)) (c.deep + 1) := by simp [deeps]
theorem pMk_1 {a op i j : Nat} {x : Ex} {t : Ex} (h : pMk a op [x] i = .ok (t, j)) {x' : Ex} (hx : x'.deep ≤ x.deep) (b n : Nat) : x.deep ≤ t.deep ∧ ∃ t', pMk b op [x'] n = .ok (t', n) ∧ t'.deep ≤ t.deep := by
  unfold pMk at h ⊢
  rw [deeps1] at h ⊢
  split at h
  · obtain ⟨rfl, _⟩ := ok_inv h
    rw [if_pos (by omega)]
    exact ⟨by simp [mkEx, Ex.deep], _, rfl, by simp [mkEx, Ex.deep]; omega⟩
  · cases h
theorem pMk_2 {a op i j : Nat} {x y : Ex} {t : Ex} (h : pMk a op [x, y] i = .ok (t, j)) {y' : Ex} (hy : y'.deep ≤ y.deep) (b n : Nat) : x.deep ≤ t.deep ∧ ∃ t', pMk b op [x, y'] n = .ok (t', n) ∧ t'.deep ≤ t.deep := by
  unfold pMk at h ⊢
  rw [deeps2] at h ⊢
  split at h
  · obtain ⟨rfl, _⟩ := ok_inv h
    rw [if_pos (by omega)]
    exact ⟨by simp [mkEx, Ex.deep]; omega, _, rfl, by simp [mkEx, Ex.deep]; omega⟩
  · cases h
theorem pMk_3 {a op i j : Nat} {x y z : Ex} {t : Ex} (h : pMk a op [x, y, z] i = .ok (t, j)) {z' : Ex} (hz : z'.deep ≤ z.deep) (b n : Nat) : x.deep ≤ t.deep ∧ ∃ t', pMk b op [x, y, z'] n = .ok (t', n) ∧ t'.deep ≤ t.deep := by
  unfold pMk at h ⊢
  rw [deeps3] at h ⊢
  split at h
  · obtain ⟨rfl, _⟩ := ok_inv h
    rw [if_pos (by omega)]
    exact ⟨by simp [mkEx, Ex.deep]; omega, _, rfl, by simp [mkEx, Ex.deep]; omega⟩
  · cases h
theorem setHiLo_deep (hi lo : Dm) (t : Ex) : (setHiLo hi lo t).deep = t.deep := by cases t <;> rfl
theorem setName_deep (l : List UInt8) (t : Ex) : (setName l t).deep = t.deep := by cases t <;> rfl
theorem pSl_deep {T : List LexM.Tk} : ∀ (f : Nat) (u : Ex) (i j : Nat) (t : Ex), pSl T f u i = .ok (t, j) → u.deep ≤ t.deep
  | 0, u, i, j, t, h => by rw [(ok_inv h).1]; exact Nat.le_refl _
  | f + 1, u, i, j, t, h => by
    rw [pSl] at h
    split at h
    · obtain ⟨hi, n1, h1, h⟩ := thn_inv h
      obtain ⟨lo, n2, h2, h⟩ := thn_inv h
      obtain ⟨_, n3, h3, h⟩ := thn_inv h
      obtain ⟨u', n4, h4, h⟩ := thn_inv h
      have := pSl_deep f _ _ _ _ h
      rw [setHiLo_deep] at this
      have := (pMk_1 h4 (Nat.le_refl _) 0 0).1
      omega
    · rw [(ok_inv h).1]; exact Nat.le_refl _
theorem pLoop_deep {T : List LexM.Tk} {pe : Nat → PR Ex} : ∀ (f l q : Nat) (u : Ex) (i j : Nat) (t : Ex), pLoop T pe f l q u i = .ok (t, j) → u.deep ≤ t.deep
  | 0, l, q, u, i, j, t, h => by rw [(ok_inv h).1]; exact Nat.le_refl _
  | f + 1, l, q, u, i, j, t, h => by
    rw [pLoop] at h
    split at h
    · rw [(ok_inv h).1]; exact Nat.le_refl _
    · obtain ⟨r0, n1, h1, h⟩ := thn_inv h
      obtain ⟨r, n2, h2, h⟩ := thn_inv h
      obtain ⟨t', n3, h3, h⟩ := thn_inv h
      have := pLoop_deep f _ _ _ _ _ _ h
      have := (pMk_2 h3 (Nat.le_refl _) 0 0).1
      omega

section
variable {T : List LexM.Tk} {n : Nat} (hn : n ≤ T.length)
include hn
theorem pNeed_c {i j : Nat} {l : List UInt8} {u : Unit} (hr : pNeed T i l = .ok (u, j)) (hi : i ≤ n) (hj : n < j) : pNeed (T.take n) i l = .error (21, n) := by
  have := pNeed_ok hr
  obtain rfl : i = n := by omega
  exact pNeed_e hn l
theorem pName_c {i j : Nat} {l : List UInt8} (hr : pName T i = .ok (l, j)) (hi : i ≤ n) (hj : n < j) : pName (T.take n) i = .error (21, n) := by
  have := pName_ok hr
  obtain rfl : i = n := by omega
  exact pName_e hn
theorem pDim_c {i j : Nat} {x : Dm} (hr : pDim T i = .ok (x, j)) (hi : i ≤ n) (hj : n ≤ j) : CutY n (pDim (T.take n) i) := by
  rcases Nat.eq_or_lt_of_le hi with rfl | hi
  · exact .inl (pDim_e hn)
  have S := sim_cut hn
  unfold pDim at hr ⊢
  rcases hq : pSide T i with y | ⟨e, q⟩
  · rw [hq] at hr; cases hr
  · rw [hq] at hr
    have l1 := pSide_ok hq
    have e1 : pSide (T.take n) i = .ok (e, q) := pSide_s S hq (by omega)
    rw [e1]
    simp only [] at hr ⊢
    rcases Nat.eq_or_lt_of_le (show q ≤ n by omega) with rfl | hq2
    · rw [tokIs_e hn, if_neg (by simp)]
      exact .inr ⟨_, rfl⟩
    · have e2 : tokIs (T.take n) q [43] = tokIs T q [43] := tokIs_s S hq2 _
      rw [e2]
      split at hr
      · rename_i hT
        rw [if_pos hT]
        rcases hq3 : pNumber T (q + 1) with y | ⟨k, q2⟩
        · rw [hq3] at hr; cases hr
        · rw [hq3] at hr
          obtain ⟨_, rfl⟩ := ok_inv hr
          have l2 := pNumber_ok hq3
          rcases Nat.eq_or_lt_of_le (show q + 1 ≤ n by omega) with e | e
          · rw [e, pNumber_e hn]
            exact .inl rfl
          · have e3 : pNumber (T.take n) (q + 1) = .ok (k, q2) := pNumber_s S hq3 (by omega)
            rw [e3]
            obtain rfl : q2 = n := by omega
            exact .inr ⟨_, rfl⟩
      · obtain ⟨_, rfl⟩ := ok_inv hr
        omega

/-- expressions from k on are cut alike -/
def CutEx (n k : Nat) (pe pu : Nat → PR Ex) : Prop := ∀ i t j, k ≤ i → i ≤ n → n ≤ j → pe i = .ok (t, j) → CutL n (pu i) t
variable {k : Nat} {pe pu : Nat → PR Ex} (hG : Goes pe) (hp : SimE n 0 k pe pu) (hc : CutEx n k pe pu)
include hG hp hc
theorem pBr_c {i j : Nat} {t : Ex} (hk : k ≤ i + 1) (hr : pBr T pe i = .ok (t, j)) (hi : i ≤ n) (hj : n < j) : pBr (T.take n) pu i = .error (21, n) := by
  rcases Nat.eq_or_lt_of_le hi with rfl | hi
  · exact pBr_e hn pu
  have S := sim_cut hn
  unfold pBr at hr ⊢
  obtain ⟨_, n1, h1, hr⟩ := thn_inv hr
  obtain ⟨t2, n2, h2, hr⟩ := thn_inv hr
  obtain ⟨_, n3, h3, hr⟩ := thn_inv hr
  obtain ⟨rfl, rfl⟩ := ok_inv hr
  have l1 := pNeed_ok h1; have l2 := hG _ _ _ h2; have l3 := pNeed_ok h3
  have e1 : pNeed (T.take n) i [40] = .ok ((), n1) := pNeed_s S h1 (by omega)
  rw [e1, thn_ok]
  rcases hc n1 _ _ (by omega) (by omega) (by omega) h2 with e | ⟨v, e, _⟩
  · rw [e]; rfl
  · rw [e, thn_ok, pNeed_e hn]; rfl
theorem pCat_c {a b i j : Nat} {t : Ex} (hk : k ≤ i) (hr : pCat T pe a i = .ok (t, j)) (hi : i ≤ n) (hj : n < j) : pCat (T.take n) pu b i = .error (21, n) := by
  have S := sim_cut hn
  unfold pCat at hr ⊢
  obtain ⟨x1, n1, h1, hr⟩ := thn_inv hr
  obtain ⟨_, n2, h2, hr⟩ := thn_inv hr
  obtain ⟨x3, n3, h3, hr⟩ := thn_inv hr
  obtain ⟨_, n4, h4, hr⟩ := thn_inv hr
  have l1 := hG _ _ _ h1; have l2 := pNeed_ok h2; have l3 := hG _ _ _ h3; have l4 := pNeed_ok h4; have l5 := pMk_ok hr
  by_cases q1 : n ≤ n1
  · rcases hc i _ _ hk hi q1 h1 with e | ⟨v, e, _⟩
    · rw [e]; rfl
    · rw [e, thn_ok, pNeed_e hn]; rfl
  have e1 : pu i = .ok (x1, n1) := hp i _ _ hk h1 (by omega)
  have e2 : pNeed (T.take n) n1 [44] = .ok ((), n2) := pNeed_s S h2 (by omega)
  rw [e1, thn_ok, e2, thn_ok]
  rcases hc n2 _ _ (by omega) (by omega) (by omega) h3 with e | ⟨v, e, _⟩
  · rw [e]; rfl
  · rw [e, thn_ok, pNeed_e hn]; rfl
omit hp in
theorem pMem_c {a b i j : Nat} {t : Ex} (hk : k ≤ i) (hr : pMem T pe a i = .ok (t, j)) (hi : i ≤ n) (hj : n < j) : pMem (T.take n) pu b i = .error (21, n) := by
  have S := sim_cut hn
  unfold pMem at hr ⊢
  obtain ⟨_, n1, h1, hr⟩ := thn_inv hr
  obtain ⟨x2, n2, h2, hr⟩ := thn_inv hr
  obtain ⟨_, n3, h3, hr⟩ := thn_inv hr
  obtain ⟨x4, n4, h4, hr⟩ := thn_inv hr
  obtain ⟨_, n5, h5, hr⟩ := thn_inv hr
  obtain ⟨_, n6, h6, hr⟩ := thn_inv hr
  obtain ⟨rfl, rfl⟩ := ok_inv hr
  have l1 := pNeed_ok h1; have l2 := pName_ok h2; have l3 := pNeed_ok h3; have l4 := hG _ _ _ h4; have l5 := pNeed_ok h5; have l6 := pMk_ok h6
  by_cases q1 : n < n1
  · rw [pNeed_c hn h1 hi q1]; rfl
  have e1 : pNeed (T.take n) i [40] = .ok ((), n1) := pNeed_s S h1 (by omega)
  rw [e1, thn_ok]
  by_cases q2 : n < n2
  · rw [pName_c hn h2 (by omega) q2]; rfl
  have e2 : pName (T.take n) n1 = .ok (x2, n2) := pName_s S h2 (by omega)
  rw [e2, thn_ok]
  by_cases q3 : n < n3
  · rw [pNeed_c hn h3 (by omega) q3]; rfl
  have e3 : pNeed (T.take n) n2 [44] = .ok ((), n3) := pNeed_s S h3 (by omega)
  rw [e3, thn_ok]
  rcases hc n3 _ _ (by omega) (by omega) (by omega) h4 with e | ⟨v, e, _⟩
  · rw [e]; rfl
  · rw [e, thn_ok, pNeed_e hn]; rfl
omit hG hp hc in
theorem pLeaf_c {i j : Nat} {t : Ex} (hr : pLeaf T i = .ok (t, j)) (hi : i ≤ n) (hj : n ≤ j) : CutL n (pLeaf (T.take n) i) t := by
  rcases Nat.eq_or_lt_of_le hi with rfl | hi
  · exact .inl (pLeaf_e hn)
  have S := sim_cut hn
  unfold pLeaf at hr ⊢
  obtain ⟨x, n1, h1, hr⟩ := thn_inv hr
  have l1 := pSide_ok h1
  have e1 : pSide (T.take n) i = .ok (x, n1) := pSide_s S h1 (by omega)
  rw [e1, thn_ok]
  rcases Nat.eq_or_lt_of_le (show n1 ≤ n by omega) with rfl | hq
  · rw [tokIs_e hn, tokIs_e hn]
    by_cases hx : x.1 = []
    · rw [if_pos (.inl hx), pNeed_e hn]; exact .inl rfl
    · rw [if_neg (by simp [hx]), if_neg (by simp)]
      exact .inr ⟨_, rfl, Nat.zero_le _⟩
  · have e2 : ∀ l, tokIs (T.take n) n1 l = tokIs T n1 l := fun l => tokIs_s S hq l
    rw [e2, e2]
    split at hr
    · rename_i c
      rw [if_pos c]
      obtain ⟨_, n2, h2, hr⟩ := thn_inv hr
      obtain ⟨x3, n3, h3, hr⟩ := thn_inv hr
      obtain ⟨rfl, rfl⟩ := ok_inv hr
      have l2 := pNeed_ok h2; have l3 := pSide_ok h3
      have e3 : pNeed (T.take n) n1 [39] = .ok ((), n2) := pNeed_s S h2 (by omega)
      rw [e3, thn_ok]
      rcases Nat.eq_or_lt_of_le (show n2 ≤ n by omega) with rfl | hq2
      · rw [pSide_e hn]; exact .inl rfl
      · have e4 : pSide (T.take n) n2 = .ok (x3, n3) := pSide_s S h3 (by omega)
        rw [e4, thn_ok]
        obtain rfl : n3 = n := by omega
        exact .inr ⟨_, rfl, Nat.zero_le _⟩
    · rename_i c
      rw [if_neg c]
      split at hr
      · rename_i c2
        rw [if_pos c2]
        obtain ⟨x2, n2, h2, hr⟩ := thn_inv hr
        obtain ⟨rfl, rfl⟩ := ok_inv hr
        have l2 := pName_ok h2
        rcases Nat.eq_or_lt_of_le (show n1 + 1 ≤ n by omega) with e | hq2
        · rw [e, pName_e hn]; exact .inl rfl
        · have e4 : pName (T.take n) (n1 + 1) = .ok (x2, n2) := pName_s S h2 (by omega)
          rw [e4, thn_ok]
          obtain rfl : n2 = n := by omega
          exact .inr ⟨_, rfl, Nat.zero_le _⟩
      · obtain ⟨_, rfl⟩ := ok_inv hr
        omega
theorem pPrim_c {i j : Nat} {t : Ex} (hk : k ≤ i + 1) (hr : pPrim T pe i = .ok (t, j)) (hi : i ≤ n) (hj : n ≤ j) : CutL n (pPrim (T.take n) pu i) t := by
  rcases Nat.eq_or_lt_of_le hi with rfl | hi
  · exact .inl (pPrim_e hn pu)
  have S := sim_cut hn
  have e2 : ∀ l, tokIs (T.take n) i l = tokIs T i l := fun l => tokIs_s S hi l
  unfold pPrim at hr ⊢
  rw [e2, e2, e2, e2, e2, e2]
  have red : ∀ op, (thn (pBr T pe (i + 1)) fun t m => pMk i op [t] m) = .ok (t, j) → CutL n (thn (pBr (T.take n) pu (i + 1)) fun t m => pMk i op [t] m) t := fun op hr => by
    obtain ⟨x, m, h1, hr⟩ := thn_inv hr
    have l1 := pMk_ok hr
    by_cases q : n < m
    · rw [pBr_c hn hG hp hc (by omega) h1 (by omega) q]; exact .inl rfl
    · have e : pBr (T.take n) pu (i + 1) = .ok (x, m) := pBr_s S hG hp (by omega) h1 (by omega)
      rw [e, thn_ok]
      obtain rfl : m = n := by omega
      rw [l1] at hr
      exact .inr ⟨_, hr, Nat.le_refl _⟩
  split at hr
  · rename_i c
    rw [if_pos c]
    by_cases q : n < j
    · exact .inl (pBr_c hn hG hp hc hk hr (by omega) q)
    · have e : pBr (T.take n) pu i = .ok (t, j) := pBr_s S hG hp hk hr (by omega)
      obtain rfl : j = n := by omega
      exact .inr ⟨_, e, Nat.le_refl _⟩
  rename_i c1
  rw [if_neg c1]
  split at hr
  · rename_i c
    rw [if_pos c]
    by_cases q : n < j
    · exact .inl (pCat_c hn hG hp hc hk hr (by omega) q)
    · have e : pCat (T.take n) pu i (i + 1) = .ok (t, j) := pCat_s S hG hp hk hr (by omega)
      obtain rfl : j = n := by omega
      exact .inr ⟨_, e, Nat.le_refl _⟩
  rename_i c2
  rw [if_neg c2]
  split at hr
  · rename_i c; rw [if_pos c]; exact red 4 hr
  rename_i c3
  rw [if_neg c3]
  split at hr
  · rename_i c; rw [if_pos c]; exact red 5 hr
  rename_i c4
  rw [if_neg c4]
  split at hr
  · rename_i c; rw [if_pos c]; exact red 20 hr
  rename_i c5
  rw [if_neg c5]
  split at hr
  · rename_i c
    rw [if_pos c]
    by_cases q : n < j
    · exact .inl (pMem_c hn hG hc hk hr (by omega) q)
    · have e : pMem (T.take n) pu i (i + 1) = .ok (t, j) := pMem_s S hG hp hk hr (by omega)
      obtain rfl : j = n := by omega
      exact .inr ⟨_, e, Nat.le_refl _⟩
  rename_i c6
  rw [if_neg c6]
  exact pLeaf_c hn hr (by omega) hj
omit hG hp hc in
theorem pSl_c : ∀ (f g : Nat) (u : Ex) (i j : Nat) (t : Ex), T.length < i + f → n < i + g → pSl T f u i = .ok (t, j) → i ≤ n → n ≤ j → CutL n (pSl (T.take n) g u i) t
  | f, g, u, i, j, t, hf, hg, hr, hi, hj => by
    rcases Nat.eq_or_lt_of_le hi with rfl | hi
    · exact .inr ⟨_, pSl_e hn g u, pSl_deep _ _ _ _ _ hr⟩
    match f, g with
    | 0, _ => omega
    | _ + 1, 0 => omega
    | f + 1, g + 1 =>
      have S := sim_cut hn
      have e2 : ∀ l, tokIs (T.take n) i l = tokIs T i l := fun l => tokIs_s S hi l
      rw [pSl] at hr ⊢
      rw [e2]
      split at hr
      · rename_i c
        rw [if_pos c]
        obtain ⟨hiD, n1, h1, hr⟩ := thn_inv hr
        obtain ⟨lo, n2, h2, hr⟩ := thn_inv hr
        obtain ⟨_, n3, h3, hr⟩ := thn_inv hr
        obtain ⟨u', n4, h4, hr⟩ := thn_inv hr
        have l1 := pDim_ok h1
        have l3 := pNeed_ok h3
        have l4 := pMk_ok h4
        have l5 := pSl_ok _ _ _ _ _ hr
        have l2 : n1 ≤ n2 := by
          split at h2
          · have := pDim_ok h2; omega
          · have := (ok_inv h2).2; omega
        by_cases q1 : n ≤ n1
        · rcases pDim_c hn h1 (by omega) q1 with e | ⟨v, e⟩
          · rw [e]; exact .inl rfl
          · rw [e, thn_ok, tokIs_e hn, if_neg (by simp), thn_ok, pNeed_e hn]; exact .inl rfl
        have e1 : pDim (T.take n) (i + 1) = .ok (hiD, n1) := pDim_s S h1 (by omega)
        rw [e1, thn_ok]
        have e3 : tokIs (T.take n) n1 [58] = tokIs T n1 [58] := tokIs_s S (by omega) _
        rw [e3]
        have e4 : (if tokIs T n1 [58] = true then pDim (T.take n) (n1 + 1) else .ok (hiD, n1)) = .ok (lo, n2) ∧ n2 < n ∨ CutY n (if tokIs T n1 [58] = true then pDim (T.take n) (n1 + 1) else .ok (hiD, n1)) := by
          split at h2
          · rename_i c2
            rw [if_pos c2]
            by_cases q2 : n ≤ n2
            · exact .inr (pDim_c hn h2 (by omega) q2)
            · exact .inl ⟨pDim_s S h2 (by omega), by omega⟩
          · rename_i c2
            rw [if_neg c2]
            have := (ok_inv h2)
            rw [this.1, this.2]
            exact .inl ⟨rfl, by omega⟩
        rcases e4 with ⟨e4, q2⟩ | e4
        · rw [e4, thn_ok]
          have e5 : pNeed (T.take n) n2 [93] = .ok ((), n3) := pNeed_s S h3 (by omega)
          rw [e5, thn_ok, h4, thn_ok]
          exact pSl_c f g _ n4 j t (by omega) (by omega) hr (by omega) hj
        · rcases e4 with e | ⟨v, e⟩
          · rw [e]; exact .inl rfl
          · rw [e, thn_ok, pNeed_e hn]; exact .inl rfl
      · obtain ⟨_, rfl⟩ := ok_inv hr
        omega
theorem pPost_c {i j : Nat} {t : Ex} (hk : k ≤ i + 1) (hr : pPost T pe i = .ok (t, j)) (hi : i ≤ n) (hj : n ≤ j) : CutL n (pPost (T.take n) pu i) t := by
  have S := sim_cut hn
  unfold pPost at hr ⊢
  obtain ⟨x, n1, h1, hr⟩ := thn_inv hr
  have l1 := pSl_ok _ _ _ _ _ hr
  by_cases q : n ≤ n1
  · rcases pPrim_c hn hG hp hc hk h1 hi q with e | ⟨v, e, hv⟩
    · rw [e]; exact .inl rfl
    · rw [e, thn_ok, pSl_e hn]
      exact .inr ⟨_, rfl, Nat.le_trans hv (pSl_deep _ _ _ _ _ hr)⟩
  · have e : pPrim (T.take n) pu i = .ok (x, n1) := pPrim_s S hG hp hk h1 (by omega)
    rw [e, thn_ok]
    exact pSl_c hn _ _ _ _ _ _ (by omega) (by rw [cut_len hn]; omega) hr (by omega) hj
theorem pUn_c : ∀ (f g i j : Nat) (t : Ex), k ≤ i + 1 → T.length < i + f → n < i + g → pUn T pe f i = .ok (t, j) → i ≤ n → n ≤ j → CutL n (pUn (T.take n) pu g i) t
  | f, g, i, j, t, hk, hf, hg, hr, hi, hj => by
    rcases Nat.eq_or_lt_of_le hi with rfl | hi
    · exact .inl (pUn_e hn pu g)
    match f, g with
    | 0, _ => omega
    | _ + 1, 0 => omega
    | f + 1, g + 1 =>
      have S := sim_cut hn
      have e2 : ∀ l, tokIs (T.take n) i l = tokIs T i l := fun l => tokIs_s S hi l
      rw [pUn] at hr ⊢
      rw [e2]
      split at hr
      · rename_i c
        rw [if_pos c]
        obtain ⟨x, m, h1, hr⟩ := thn_inv hr
        have l1 := pMk_ok hr
        rcases pUn_c f g (i + 1) m x (by omega) (by omega) (by omega) h1 (by omega) (by omega) with e | ⟨v, e, hv⟩
        · rw [e]; exact .inl rfl
        · rw [e, thn_ok]
          obtain ⟨_, t', e', ht'⟩ := pMk_1 hr hv i n
          exact .inr ⟨t', e', ht'⟩
      · rename_i c
        rw [if_neg c]
        exact pPost_c hn hG hp hc hk hr (by omega) hj
theorem pLoop_c : ∀ (f g l q : Nat) (u : Ex) (i j : Nat) (t : Ex), 1 ≤ l → k ≤ i + 1 → T.length < i + f → n < i + g → pLoop T pe f l q u i = .ok (t, j) → i ≤ n → n ≤ j → CutL n (pLoop (T.take n) pu g l q u i) t
  | f, g, l, q, u, i, j, t, hl, hk, hf, hg, hr, hi, hj => by
    rcases Nat.eq_or_lt_of_le hi with rfl | hi
    · exact .inr ⟨_, pLoop_e hn pu g l q u hl, pLoop_deep _ _ _ _ _ _ _ hr⟩
    match f, g with
    | 0, _ => omega
    | _ + 1, 0 => omega
    | f + 1, g + 1 =>
      have S := sim_cut hn
      have hcl := cut_len hn
      rw [pLoop] at hr ⊢
      have eo : opOf (T.take n) i = opOf T i := opOf_s S hi
      rw [eo]
      split at hr
      · obtain ⟨_, rfl⟩ := ok_inv hr
        omega
      · rename_i c
        rw [if_neg c]
        obtain ⟨r0, n1, h1, hr⟩ := thn_inv hr
        obtain ⟨r, n2, h2, hr⟩ := thn_inv hr
        obtain ⟨t', n3, h3, hr⟩ := thn_inv hr
        have l1 := pUn_ok hG _ _ _ _ h1
        have l2 := pLoop_ok hG _ _ _ _ _ _ _ h2
        have l3 := pMk_ok h3
        have l4 := pLoop_ok hG _ _ _ _ _ _ _ hr
        have d2 := pLoop_deep _ _ _ _ _ _ _ h2
        have d4 := pLoop_deep _ _ _ _ _ _ _ hr
        have fin : ∀ v : Ex, v.deep ≤ r.deep → CutL n (thn (pMk i (opOf T i).2 [u, v] n) fun t n3 => pLoop (T.take n) pu g l (if (opOf T i).1 = 4 then 3 else (opOf T i).1) t n3) t := fun v hv => by
          obtain ⟨_, t2, e2, ht2⟩ := pMk_2 h3 hv i n
          rw [e2, thn_ok, pLoop_e hn pu g l _ t2 hl]
          exact .inr ⟨_, rfl, by omega⟩
        by_cases q1 : n ≤ n1
        · rcases pUn_c hn hG hp hc _ ((T.take n).length + 1) (i + 1) n1 r0 (by omega) (by omega) (by omega) h1 (by omega) q1 with e | ⟨v, e, hv⟩
          · rw [e]; exact .inl rfl
          · rw [e, thn_ok, pLoop_e hn pu g _ _ v (by omega), thn_ok]
            exact fin v (by omega)
        have e1 : pUn (T.take n) pu ((T.take n).length + 1) (i + 1) = .ok (r0, n1) := pUn_s S hG hp _ _ (i + 1) n1 r0 (by omega) (by omega) (by omega) (by omega) h1 (by omega)
        rw [e1, thn_ok]
        by_cases q2 : n ≤ n2
        · rcases pLoop_c f g _ _ r0 n1 n2 r (by omega) (by omega) (by omega) (by omega) h2 (by omega) q2 with e | ⟨v, e, hv⟩
          · rw [e]; exact .inl rfl
          · rw [e, thn_ok]
            exact fin v hv
        have e2 : pLoop (T.take n) pu g ((opOf T i).1 + 1) 6 r0 n1 = .ok (r, n2) := pLoop_s S hG hp f g _ _ r0 n1 n2 r (by omega) (by omega) (by omega) (by omega) h2 (by omega)
        rw [e2, thn_ok, h3, thn_ok]
        exact pLoop_c f g _ _ t' n3 j t hl (by omega) (by omega) (by omega) hr (by omega) hj
theorem pBet_c {f g l i j : Nat} {t : Ex} (hl : 1 ≤ l) (hk : k ≤ i + 1) (hf : T.length < i + f) (hg : n < i + g) (hr : pBet T pe f l i = .ok (t, j)) (hi : i ≤ n) (hj : n ≤ j) : CutL n (pBet (T.take n) pu g l i) t := by
  have S := sim_cut hn
  have hcl := cut_len hn
  unfold pBet at hr ⊢
  obtain ⟨x, n1, h1, hr⟩ := thn_inv hr
  have l1 := pUn_ok hG _ _ _ _ h1
  have l2 := pLoop_ok hG _ _ _ _ _ _ _ hr
  have d2 := pLoop_deep _ _ _ _ _ _ _ hr
  by_cases q1 : n ≤ n1
  · rcases pUn_c hn hG hp hc _ ((T.take n).length + 1) i n1 x hk (by omega) (by omega) h1 hi q1 with e | ⟨v, e, hv⟩
    · rw [e]; exact .inl rfl
    · rw [e, thn_ok, pLoop_e hn pu g l 6 v hl]
      exact .inr ⟨_, rfl, by omega⟩
  have e1 : pUn (T.take n) pu ((T.take n).length + 1) i = .ok (x, n1) := pUn_s S hG hp _ _ i n1 x hk hi (by omega) (by omega) h1 (by omega)
  rw [e1, thn_ok]
  exact pLoop_c hn hG hp hc _ _ _ _ _ _ _ _ hl (by omega) (by omega) (by omega) hr (by omega) hj
end

theorem pEx_c {T : List LexM.Tk} {n : Nat} (hn : n ≤ T.length) : ∀ (f g i j : Nat) (t : Ex), T.length < i + f → n < i + g → pEx T f i = .ok (t, j) → i ≤ n → n ≤ j → CutL n (pEx (T.take n) g i) t
  | 0, g, i, j, t, hf, hg, hr, hi, hj => by cases hr
  | f + 1, 0, i, j, t, hf, hg, hr, hi, hj => by omega
  | f + 1, g + 1, i, j, t, hf, hg, hr, hi, hj => by
    have S := sim_cut hn
    have hcl := cut_len hn
    have hG := pEx_goes T f
    have hp : SimE n 0 (i + 1) (pEx T f) (pEx (T.take n) g) := fun q t' j' hq hr' hj' => by
      have := hG _ _ _ hr'
      exact pEx_s S f g q j' t' (by omega) (by omega) (by omega) hr' hj'
    have hc : CutEx n (i + 1) (pEx T f) (pEx (T.take n) g) := fun q t' j' hq hqn hj' hr' => pEx_c hn f g q j' t' (by omega) (by omega) hr' hqn hj'
    rw [pEx] at hr ⊢
    obtain ⟨a, n1, h1, hr⟩ := thn_inv hr
    have l1 := pBet_ok hG h1
    have da : a.deep ≤ t.deep := by
      split at hr
      · obtain ⟨_, n2, h2, hr⟩ := thn_inv hr
        obtain ⟨_, n3, h3, hr⟩ := thn_inv hr
        obtain ⟨_, n4, h4, hr⟩ := thn_inv hr
        exact (pMk_3 hr (Nat.le_refl _) 0 0).1
      · rw [(ok_inv hr).1]; exact Nat.le_refl _
    by_cases q1 : n ≤ n1
    · rcases pBet_c hn hG hp hc (g := (T.take n).length + 1) (Nat.le_refl 1) (Nat.le_refl _) (by omega) (by omega) h1 hi q1 with e | ⟨v, e, hv⟩
      · rw [e]; exact .inl rfl
      · rw [e, thn_ok, tokIs_e hn, if_neg (by simp)]
        exact .inr ⟨_, rfl, by omega⟩
    have e1 : pBet (T.take n) (pEx (T.take n) g) ((T.take n).length + 1) 1 i = .ok (a, n1) := pBet_s S hG hp (Nat.le_refl _) hi (by omega) (by omega) h1 (by omega)
    rw [e1, thn_ok]
    have e2 : tokIs (T.take n) n1 [63] = tokIs T n1 [63] := tokIs_s S (by omega) _
    rw [e2]
    split at hr
    · rename_i c
      rw [if_pos c]
      obtain ⟨b, n2, h2, hr⟩ := thn_inv hr
      obtain ⟨_, n3, h3, hr⟩ := thn_inv hr
      obtain ⟨x4, n4, h4, hr⟩ := thn_inv hr
      have l2 := hG _ _ _ h2; have l3 := pNeed_ok h3; have l4 := hG _ _ _ h4; have l5 := pMk_ok hr
      by_cases q2 : n ≤ n2
      · rcases hc (n1 + 1) _ _ (by omega) (by omega) q2 h2 with e | ⟨v, e, hv⟩
        · rw [e]; exact .inl rfl
        · rw [e, thn_ok, pNeed_e hn]; exact .inl rfl
      have e3 : pEx (T.take n) g (n1 + 1) = .ok (b, n2) := hp _ _ _ (by omega) h2 (by omega)
      have e4 : pNeed (T.take n) n2 [58] = .ok ((), n3) := pNeed_s S h3 (by omega)
      rw [e3, thn_ok, e4, thn_ok]
      rcases hc n3 _ _ (by omega) (by omega) (by omega) h4 with e | ⟨v, e, hv⟩
      · rw [e]; exact .inl rfl
      · rw [e, thn_ok]
        obtain ⟨_, t', e', ht'⟩ := pMk_3 hr hv n1 n
        exact .inr ⟨t', e', ht'⟩
    · obtain ⟨_, rfl⟩ := ok_inv hr
      omega
theorem pExpr_c {T : List LexM.Tk} {n : Nat} (hn : n ≤ T.length) {i j : Nat} {t : Ex} (hr : pExpr T i = .ok (t, j)) (hi : i ≤ n) (hj : n ≤ j) : CutY n (pExpr (T.take n) i) :=
  (pEx_c hn _ _ i j t (by omega) (by rw [cut_len hn]; omega) hr hi hj).any
theorem pExpr_e {T : List LexM.Tk} {n : Nat} (hn : n ≤ T.length) : pExpr (T.take n) n = .error (21, n) := pEx_e hn _
end Go.Proofs.YtccjbpghpoblhaaDoor

namespace Go.Proofs.YtccjbpghpoblhaaDoor

section
variable {T : List LexM.Tk} {n : Nat} (hn : n ≤ T.length)
include hn
theorem pWire_c {i j : Nat} {x x' : It} (hr : pWire T x i = .ok (x', j)) (hi : i ≤ n) (hj : n ≤ j) : CutY n (pWire (T.take n) x i) := by
  have S := sim_cut hn
  unfold pWire at hr ⊢
  obtain ⟨_, n1, h1, hr⟩ := thn_inv hr
  obtain ⟨d, n2, h2, hr⟩ := thn_inv hr
  obtain ⟨_, n3, h3, hr⟩ := thn_inv hr
  obtain ⟨t, n4, h4, hr⟩ := thn_inv hr
  obtain ⟨rfl, rfl⟩ := ok_inv hr
  have l1 := pNeed_ok h1; have l2 := pDim_ok h2; have l3 := pNeed_ok h3; have l4 := pEx_goes T _ _ _ _ h4
  by_cases q1 : n < n1
  · rw [pNeed_c hn h1 hi q1]; exact .inl rfl
  rw [show pNeed (T.take n) i [58] = .ok ((), n1) from pNeed_s S h1 (by omega), thn_ok]
  by_cases q2 : n ≤ n2
  · rcases pDim_c hn h2 (by omega) q2 with e | ⟨v, e⟩
    · rw [e]; exact .inl rfl
    · rw [e, thn_ok, pNeed_e hn]; exact .inl rfl
  rw [show pDim (T.take n) n1 = .ok (d, n2) from pDim_s S h2 (by omega), thn_ok, show pNeed (T.take n) n2 [61] = .ok ((), n3) from pNeed_s S h3 (by omega), thn_ok]
  rcases pExpr_c hn h4 (by omega) hj with e | ⟨v, e⟩
  · rw [e]; exact .inl rfl
  · rw [e, thn_ok]; exact .inr ⟨_, rfl⟩
theorem pReg_c {i j : Nat} {x x' : It} (hr : pReg T x i = .ok (x', j)) (hi : i ≤ n) (hj : n ≤ j) : CutY n (pReg (T.take n) x i) := by
  have S := sim_cut hn
  unfold pReg at hr ⊢
  obtain ⟨_, n1, h1, hr⟩ := thn_inv hr
  obtain ⟨d, n2, h2, hr⟩ := thn_inv hr
  obtain ⟨_, n3, h3, hr⟩ := thn_inv hr
  obtain ⟨t, n4, h4, hr⟩ := thn_inv hr
  obtain ⟨rfl, rfl⟩ := ok_inv hr
  have l1 := pNeed_ok h1; have l2 := pDim_ok h2; have l3 := pNeed_ok h3; have l4 := pDim_ok h4
  by_cases q1 : n < n1
  · rw [pNeed_c hn h1 hi q1]; exact .inl rfl
  rw [show pNeed (T.take n) i [58] = .ok ((), n1) from pNeed_s S h1 (by omega), thn_ok]
  by_cases q2 : n ≤ n2
  · rcases pDim_c hn h2 (by omega) q2 with e | ⟨v, e⟩
    · rw [e]; exact .inl rfl
    · rw [e, thn_ok, pNeed_e hn]; exact .inl rfl
  rw [show pDim (T.take n) n1 = .ok (d, n2) from pDim_s S h2 (by omega), thn_ok, show pNeed (T.take n) n2 [61] = .ok ((), n3) from pNeed_s S h3 (by omega), thn_ok]
  rcases pDim_c hn h4 (by omega) hj with e | ⟨v, e⟩
  · rw [e]; exact .inl rfl
  · rw [e, thn_ok]; exact .inr ⟨_, rfl⟩
theorem pMemo_c {i j : Nat} {x x' : It} (hr : pMemo T x i = .ok (x', j)) (hi : i ≤ n) (hj : n ≤ j) : CutY n (pMemo (T.take n) x i) := by
  have S := sim_cut hn
  unfold pMemo at hr ⊢
  obtain ⟨_, n1, h1, hr⟩ := thn_inv hr
  obtain ⟨d, n2, h2, hr⟩ := thn_inv hr
  obtain ⟨_, n3, h3, hr⟩ := thn_inv hr
  obtain ⟨_, n4, h4, hr⟩ := thn_inv hr
  obtain ⟨t, n5, h5, hr⟩ := thn_inv hr
  obtain ⟨rfl, rfl⟩ := ok_inv hr
  have l1 := pNeed_ok h1; have l2 := pDim_ok h2; have l3 := pNeed_ok h3; have l4 := pNeed_ok h4; have l5 := pDim_ok h5
  by_cases q1 : n < n1
  · rw [pNeed_c hn h1 hi q1]; exact .inl rfl
  rw [show pNeed (T.take n) i [91] = .ok ((), n1) from pNeed_s S h1 (by omega), thn_ok]
  by_cases q2 : n ≤ n2
  · rcases pDim_c hn h2 (by omega) q2 with e | ⟨v, e⟩
    · rw [e]; exact .inl rfl
    · rw [e, thn_ok, pNeed_e hn]; exact .inl rfl
  rw [show pDim (T.take n) n1 = .ok (d, n2) from pDim_s S h2 (by omega), thn_ok, show pNeed (T.take n) n2 [93] = .ok ((), n3) from pNeed_s S h3 (by omega), thn_ok]
  by_cases q4 : n < n4
  · rw [pNeed_c hn h4 (by omega) q4]; exact .inl rfl
  rw [show pNeed (T.take n) n3 [58] = .ok ((), n4) from pNeed_s S h4 (by omega), thn_ok]
  rcases pDim_c hn h5 (by omega) hj with e | ⟨v, e⟩
  · rw [e]; exact .inl rfl
  · rw [e, thn_ok]; exact .inr ⟨_, rfl⟩
theorem pProp_c {i j : Nat} {x x' : It} (hr : pProp T x i = .ok (x', j)) (hi : i ≤ n) (hj : n ≤ j) : CutY n (pProp (T.take n) x i) := by
  have S := sim_cut hn
  unfold pProp at hr ⊢
  obtain ⟨_, n1, h1, hr⟩ := thn_inv hr
  obtain ⟨t, n2, h2, hr⟩ := thn_inv hr
  obtain ⟨rfl, rfl⟩ := ok_inv hr
  have l1 := pNeed_ok h1; have l2 := pEx_goes T _ _ _ _ h2
  by_cases q1 : n < n1
  · rw [pNeed_c hn h1 hi q1]; exact .inl rfl
  rw [show pNeed (T.take n) i [58] = .ok ((), n1) from pNeed_s S h1 (by omega), thn_ok]
  rcases pExpr_c hn h2 (by omega) hj with e | ⟨v, e⟩
  · rw [e]; exact .inl rfl
  · rw [e, thn_ok]; exact .inr ⟨_, rfl⟩
theorem pValue_c {i j : Nat} {x x' : It} (hr : pValue T x i = .ok (x', j)) (hi : i ≤ n) (hj : n ≤ j) : CutY n (pValue (T.take n) x i) := by
  have S := sim_cut hn
  unfold pValue at hr ⊢
  obtain ⟨_, n1, h1, hr⟩ := thn_inv hr
  obtain ⟨t, n2, h2, hr⟩ := thn_inv hr
  obtain ⟨rfl, rfl⟩ := ok_inv hr
  have l1 := pNeed_ok h1; have l2 := pEx_goes T _ _ _ _ h2
  by_cases q1 : n < n1
  · rw [pNeed_c hn h1 hi q1]; exact .inl rfl
  rw [show pNeed (T.take n) i [61] = .ok ((), n1) from pNeed_s S h1 (by omega), thn_ok]
  rcases pExpr_c hn h2 (by omega) hj with e | ⟨v, e⟩
  · rw [e]; exact .inl rfl
  · rw [e, thn_ok]; exact .inr ⟨_, rfl⟩
theorem pPut_c {i j : Nat} {x x' : It} (hr : pPut T x i = .ok (x', j)) (hi : i ≤ n) (hj : n ≤ j) : CutY n (pPut (T.take n) x i) := by
  have S := sim_cut hn
  unfold pPut at hr ⊢
  obtain ⟨_, n1, h1, hr⟩ := thn_inv hr
  obtain ⟨a2, n2, h2, hr⟩ := thn_inv hr
  obtain ⟨_, n3, h3, hr⟩ := thn_inv hr
  obtain ⟨_, n4, h4, hr⟩ := thn_inv hr
  obtain ⟨a5, n5, h5, hr⟩ := thn_inv hr
  obtain ⟨_, n6, h6, hr⟩ := thn_inv hr
  obtain ⟨a7, n7, h7, hr⟩ := thn_inv hr
  obtain ⟨rfl, rfl⟩ := ok_inv hr
  have l1 := pNeed_ok h1; have l2 := pEx_goes T _ _ _ _ h2; have l3 := pNeed_ok h3; have l4 := pNeed_ok h4; have l5 := pEx_goes T _ _ _ _ h5; have l6 := pNeed_ok h6; have l7 := pEx_goes T _ _ _ _ h7
  by_cases q1 : n < n1
  · rw [pNeed_c hn h1 hi q1]; exact .inl rfl
  rw [show pNeed (T.take n) i _ = .ok ((), n1) from pNeed_s S h1 (by omega), thn_ok]
  by_cases q2 : n ≤ n2
  · rcases pExpr_c hn h2 (by omega) q2 with e | ⟨v, e⟩
    · rw [e]; exact .inl rfl
    · rw [e, thn_ok, pNeed_e hn]; exact .inl rfl
  rw [show pExpr (T.take n) n1 = .ok (a2, n2) from pExpr_s S h2 (by omega), thn_ok, show pNeed (T.take n) n2 _ = .ok ((), n3) from pNeed_s S h3 (by omega), thn_ok]
  by_cases q4 : n < n4
  · rw [pNeed_c hn h4 (by omega) q4]; exact .inl rfl
  rw [show pNeed (T.take n) n3 _ = .ok ((), n4) from pNeed_s S h4 (by omega), thn_ok]
  by_cases q5 : n ≤ n5
  · rcases pExpr_c hn h5 (by omega) q5 with e | ⟨v, e⟩
    · rw [e]; exact .inl rfl
    · rw [e, thn_ok, pNeed_e hn]; exact .inl rfl
  rw [show pExpr (T.take n) n4 = .ok (a5, n5) from pExpr_s S h5 (by omega), thn_ok, show pNeed (T.take n) n5 _ = .ok ((), n6) from pNeed_s S h6 (by omega), thn_ok]
  rcases pExpr_c hn h7 (by omega) hj with e | ⟨v, e⟩
  · rw [e]; exact .inl rfl
  · rw [e, thn_ok]; exact .inr ⟨_, rfl⟩

/-- a list's element is cut so -/
def CutQ {σ : Type} (n : Nat) (q p : σ → Nat → PR σ) : Prop := ∀ s i s' j, q s i = .ok (s', j) → i ≤ n → n ≤ j → CutY n (p s i)
theorem pMore_e {σ : Type} (p : σ → Nat → PR σ) : ∀ (f : Nat) (s : σ), pMore (T.take n) p f s n = .ok (s, n)
  | 0, s => by rw [pMore, tokIs_e hn]; rfl
  | f + 1, s => by rw [pMore, tokIs_e hn]; rfl
theorem pMore_c {σ : Type} {q p : σ → Nat → PR σ} (hq : SimQ n 0 q p) (hc : CutQ n q p) : ∀ (f : Nat) (s : σ) (i : Nat) (s' : σ) (j : Nat), pMore T q f s i = .ok (s', j) → i ≤ n → n ≤ j → CutY n (pMore (T.take n) p f s i)
  | f, s, i, s', j, hr, hi, hj => by
    rcases Nat.eq_or_lt_of_le hi with rfl | hi
    · exact .inr ⟨_, pMore_e hn p f s⟩
    have S := sim_cut hn
    have e2 : ∀ l, tokIs (T.take n) i l = tokIs T i l := fun l => tokIs_s S hi l
    match f with
    | 0 =>
      rw [pMore] at hr
      split at hr
      · cases hr
      · obtain ⟨_, rfl⟩ := ok_inv hr
        omega
    | f + 1 =>
      rw [pMore] at hr ⊢
      rw [e2]
      split at hr
      · rename_i c
        rw [if_pos c]
        obtain ⟨s1, n1, h1, hr⟩ := thn_inv hr
        by_cases q1 : n ≤ n1
        · rcases hc _ _ _ _ h1 (by omega) q1 with e | ⟨v, e⟩
          · rw [e]; exact .inl rfl
          · rw [e, thn_ok]; exact .inr ⟨_, pMore_e hn p f v⟩
        · rw [show p s (i + 1) = .ok (s1, n1) from (hq _ _ _ _ h1).2 (by omega), thn_ok]
          exact pMore_c hq hc f s1 n1 s' j hr (by omega) hj
      · obtain ⟨_, rfl⟩ := ok_inv hr
        omega
theorem pList_c {σ : Type} {q p : σ → Nat → PR σ} (hq : SimQ n 0 q p) (hc : CutQ n q p) {most : Nat} {s s' : σ} {i j : Nat} (hr : pList T q most s i = .ok (s', j)) (hi : i ≤ n) (hj : n ≤ j) : CutY n (pList (T.take n) p most s i) := by
  unfold pList at hr ⊢
  obtain ⟨s1, n1, h1, hr⟩ := thn_inv hr
  by_cases q1 : n ≤ n1
  · rcases hc _ _ _ _ h1 hi q1 with e | ⟨v, e⟩
    · rw [e]; exact .inl rfl
    · rw [e, thn_ok]; exact .inr ⟨_, pMore_e hn p _ v⟩
  · rw [show p s i = .ok (s1, n1) from (hq _ _ _ _ h1).2 (by omega), thn_ok]
    exact pMore_c hn hq hc _ _ _ _ _ hr (by omega) hj
theorem pBind_c {i j : Nat} {x : List UInt8 × Ex} (hr : pBind T i = .ok (x, j)) (hi : i ≤ n) (hj : n ≤ j) : CutY n (pBind (T.take n) i) := by
  have S := sim_cut hn
  unfold pBind at hr ⊢
  obtain ⟨a1, n1, h1, hr⟩ := thn_inv hr
  obtain ⟨_, n2, h2, hr⟩ := thn_inv hr
  obtain ⟨a3, n3, h3, hr⟩ := thn_inv hr
  obtain ⟨rfl, rfl⟩ := ok_inv hr
  have l1 := pName_ok h1; have l2 := pNeed_ok h2; have l3 := pEx_goes T _ _ _ _ h3
  by_cases q1 : n < n1
  · rw [pName_c hn h1 hi q1]; exact .inl rfl
  rw [show pName (T.take n) i = .ok (a1, n1) from pName_s S h1 (by omega), thn_ok]
  by_cases q2 : n < n2
  · rw [pNeed_c hn h2 (by omega) q2]; exact .inl rfl
  rw [show pNeed (T.take n) n1 _ = .ok ((), n2) from pNeed_s S h2 (by omega), thn_ok]
  rcases pExpr_c hn h3 (by omega) hj with e | ⟨v, e⟩
  · rw [e]; exact .inl rfl
  · rw [e, thn_ok]; exact .inr ⟨_, rfl⟩
theorem pPortR_c {b : Bool} {i j : Nat} {x : Bool × List UInt8 × Dm} (hr : pPortR T b i = .ok (x, j)) (hi : i ≤ n) (hj : n ≤ j) : CutY n (pPortR (T.take n) b i) := by
  have S := sim_cut hn
  unfold pPortR at hr ⊢
  obtain ⟨a1, n1, h1, hr⟩ := thn_inv hr
  obtain ⟨_, n2, h2, hr⟩ := thn_inv hr
  obtain ⟨a3, n3, h3, hr⟩ := thn_inv hr
  obtain ⟨rfl, rfl⟩ := ok_inv hr
  have l1 := pName_ok h1; have l2 := pNeed_ok h2; have l3 := pDim_ok h3
  by_cases q1 : n < n1
  · rw [pName_c hn h1 hi q1]; exact .inl rfl
  rw [show pName (T.take n) i = .ok (a1, n1) from pName_s S h1 (by omega), thn_ok]
  by_cases q2 : n < n2
  · rw [pNeed_c hn h2 (by omega) q2]; exact .inl rfl
  rw [show pNeed (T.take n) n1 _ = .ok ((), n2) from pNeed_s S h2 (by omega), thn_ok]
  rcases pDim_c hn h3 (by omega) hj with e | ⟨v, e⟩
  · rw [e]; exact .inl rfl
  · rw [e, thn_ok]; exact .inr ⟨_, rfl⟩
theorem pPort_c {i j : Nat} {x : Bool × List UInt8 × Dm} (hr : pPort T i = .ok (x, j)) (hi : i ≤ n) (hj : n ≤ j) : CutY n (pPort (T.take n) i) := by
  have S := sim_cut hn
  unfold pPort at hr ⊢
  rcases Nat.eq_or_lt_of_le hi with rfl | hi
  · rw [tokIs_e hn, if_neg (by simp), pNeed_e hn]; exact .inl rfl
  rw [show tokIs (T.take n) i _ = tokIs T i _ from tokIs_s S hi _]
  split at hr
  · rename_i c
    rw [if_pos c]
    exact pPortR_c hn hr (by omega) hj
  · rename_i c
    rw [if_neg c]
    obtain ⟨_, n1, h1, hr⟩ := thn_inv hr
    have l0 := pNeed_ok h1
    rw [show pNeed (T.take n) i _ = .ok ((), n1) from pNeed_s S h1 (by omega), thn_ok]
    exact pPortR_c hn hr (by omega) hj
theorem qArg_c : CutQ n (qArg T) (qArg (T.take n)) := fun s i s' j hr hi hj => by
  unfold qArg at hr ⊢
  obtain ⟨_, n1, h1, hr⟩ := thn_inv hr
  obtain ⟨rfl, rfl⟩ := ok_inv hr
  rcases pDim_c hn h1 hi hj with e | ⟨v, e⟩
  · rw [e]; exact .inl rfl
  · rw [e, thn_ok]; exact .inr ⟨_, rfl⟩
theorem qBind_c : CutQ n (qBind T) (qBind (T.take n)) := fun s i s' j hr hi hj => by
  unfold qBind at hr ⊢
  obtain ⟨_, n1, h1, hr⟩ := thn_inv hr
  obtain ⟨rfl, rfl⟩ := ok_inv hr
  rcases pBind_c hn h1 hi hj with e | ⟨v, e⟩
  · rw [e]; exact .inl rfl
  · rw [e, thn_ok]; exact .inr ⟨_, rfl⟩
theorem qParam_c : CutQ n (qParam T) (qParam (T.take n)) := fun s i s' j hr hi hj => by
  unfold qParam at hr ⊢
  obtain ⟨x, n1, h1, hr⟩ := thn_inv hr
  obtain ⟨rfl, rfl⟩ := ok_inv hr
  by_cases q1 : n < n1
  · rw [pName_c hn h1 hi q1]; exact .inl rfl
  · rw [show pName (T.take n) i = .ok (x, n1) from pName_s (sim_cut hn) h1 (by omega), thn_ok]
    obtain rfl : n1 = n := by omega
    exact .inr ⟨_, rfl⟩
theorem qPort_c : CutQ n (qPort T) (qPort (T.take n)) := fun s i s' j hr hi hj => by
  unfold qPort at hr ⊢
  obtain ⟨_, n1, h1, hr⟩ := thn_inv hr
  obtain ⟨rfl, rfl⟩ := ok_inv hr
  rcases pPort_c hn h1 hi hj with e | ⟨v, e⟩
  · rw [e]; exact .inl rfl
  · rw [e, thn_ok]; exact .inr ⟨_, rfl⟩
theorem pArgs_e (x : It) : pArgs (T.take n) x n = .ok (x, n) := by unfold pArgs; rw [tokIs_e hn]; rfl
theorem pArgs_c {i j : Nat} {x x' : It} (hr : pArgs T x i = .ok (x', j)) (hi : i ≤ n) (hj : n ≤ j) : CutY n (pArgs (T.take n) x i) := by
  rcases Nat.eq_or_lt_of_le hi with rfl | hi
  · exact .inr ⟨_, pArgs_e hn x⟩
  have S := sim_cut hn
  unfold pArgs at hr ⊢
  rw [show tokIs (T.take n) i _ = tokIs T i _ from tokIs_s S hi _]
  split at hr
  · rename_i c
    rw [if_pos c]
    obtain ⟨a1, n1, h1, hr⟩ := thn_inv hr
    obtain ⟨_, n2, h2, hr⟩ := thn_inv hr
    obtain ⟨rfl, rfl⟩ := ok_inv hr
    have l2 := pNeed_ok h2
    by_cases q1 : n ≤ n1
    · rcases pList_c hn (qArg_s S) (qArg_c hn) h1 (by omega) q1 with e | ⟨v, e⟩
      · rw [e]; exact .inl rfl
      · rw [e, thn_ok, pNeed_e hn]; exact .inl rfl
    · rw [show pList (T.take n) (qArg (T.take n)) 4 x (i + 1) = .ok (a1, n1) from (pList_s S (qArg_s S) h1).2 (by omega), thn_ok, show pNeed (T.take n) n1 _ = .ok ((), n2) from pNeed_s S h2 (by omega), thn_ok]
      obtain rfl : n2 = n := by omega
      exact .inr ⟨_, rfl⟩
  · obtain ⟨_, rfl⟩ := ok_inv hr
    omega
theorem pInst_c {i j : Nat} {x x' : It} (hr : pInst T x i = .ok (x', j)) (hi : i ≤ n) (hj : n ≤ j) : CutY n (pInst (T.take n) x i) := by
  have S := sim_cut hn
  unfold pInst at hr ⊢
  obtain ⟨a1, n1, h1, hr⟩ := thn_inv hr
  obtain ⟨a2, n2, h2, hr⟩ := thn_inv hr
  obtain ⟨_, n3, h3, hr⟩ := thn_inv hr
  obtain ⟨a4, n4, h4, hr⟩ := thn_inv hr
  obtain ⟨_, n5, h5, hr⟩ := thn_inv hr
  obtain ⟨rfl, rfl⟩ := ok_inv hr
  have l1 := pName_ok h1; have l3 := pNeed_ok h3; have l5 := pNeed_ok h5
  have l2 := (pArgs_s S h2).1
  have l4 := (pBinds_s S h4).1
  by_cases q1 : n < n1
  · rw [pName_c hn h1 hi q1]; exact .inl rfl
  rw [show pName (T.take n) i = .ok (a1, n1) from pName_s S h1 (by omega), thn_ok]
  by_cases q2 : n ≤ n2
  · rcases pArgs_c hn h2 (by omega) q2 with e | ⟨v, e⟩
    · rw [e]; exact .inl rfl
    · rw [e, thn_ok, pNeed_e hn]; exact .inl rfl
  rw [show pArgs (T.take n) _ n1 = .ok (a2, n2) from (pArgs_s S h2).2 (by omega), thn_ok, show pNeed (T.take n) n2 _ = .ok ((), n3) from pNeed_s S h3 (by omega), thn_ok]
  by_cases q4 : n ≤ n4
  · have hb : CutY n (pBinds (T.take n) a2 n3) := by
      unfold pBinds at h4 ⊢
      rcases Nat.eq_or_lt_of_le (show n3 ≤ n by omega) with e3 | e3
      · rw [e3, tokIs_e hn, if_neg (by simp)]
        have : pList (T.take n) (qBind (T.take n)) 16 a2 n = .error (21, n) := by
          unfold pList qBind pBind
          rw [pName_e hn]
          rfl
        exact .inl this
      · rw [show tokIs (T.take n) n3 _ = tokIs T n3 _ from tokIs_s S e3 _]
        split at h4
        · obtain ⟨_, rfl⟩ := ok_inv h4
          omega
        · rename_i c
          rw [if_neg c]
          exact pList_c hn (qBind_s S) (qBind_c hn) h4 (by omega) q4
    rcases hb with e | ⟨v, e⟩
    · rw [e]; exact .inl rfl
    · rw [e, thn_ok, pNeed_e hn]; exact .inl rfl
  rw [show pBinds (T.take n) a2 n3 = .ok (a4, n4) from (pBinds_s S h4).2 (by omega), thn_ok]
  rw [show pNeed (T.take n) n4 _ = .ok ((), n5) from pNeed_s S h5 (by omega), thn_ok]
  obtain rfl : n5 = n := by omega
  exact .inr ⟨_, rfl⟩
theorem restOf_c {F i j : Nat} {x x' : It} (hr : restOf F T x i = .ok (x', j)) (hi : i ≤ n) (hj : n ≤ j) : CutY n (restOf F (T.take n) x i) := by
  unfold restOf at hr ⊢
  split at hr
  · rename_i c; rw [if_pos c]; exact pWire_c hn hr hi hj
  rename_i c
  rw [if_neg c]
  split at hr
  · rename_i c; rw [if_pos c]; exact pReg_c hn hr hi hj
  rename_i c
  rw [if_neg c]
  split at hr
  · rename_i c; rw [if_pos c]; exact pMemo_c hn hr hi hj
  rename_i c
  rw [if_neg c]
  split at hr
  · rename_i c; rw [if_pos c]; exact pInst_c hn hr hi hj
  rename_i c
  rw [if_neg c]
  split at hr
  · rename_i c; rw [if_pos c]; exact pProp_c hn hr hi hj
  rename_i c
  rw [if_neg c]
  split at hr
  · rename_i c; rw [if_pos c]; exact pValue_c hn hr hi hj
  rename_i c
  rw [if_neg c]
  exact pPut_c hn hr hi hj
theorem pItemR_c {F kind i j : Nat} {x : It} (hr : pItemR T (restOf F) kind i = .ok (x, j)) (hi : i ≤ n) (hj : n < j) : pItemR (T.take n) (restOf F) kind i = .error (21, n) := by
  have S := sim_cut hn
  unfold pItemR at hr ⊢
  obtain ⟨a1, n1, h1, hr⟩ := thn_inv hr
  obtain ⟨a2, n2, h2, hr⟩ := thn_inv hr
  obtain ⟨_, n3, h3, hr⟩ := thn_inv hr
  obtain ⟨rfl, rfl⟩ := ok_inv hr
  have l1 := pName_ok h1; have l3 := pNeed_ok h3
  by_cases q1 : n < n1
  · rw [pName_c hn h1 hi q1]; rfl
  rw [show pName (T.take n) i = .ok (a1, n1) from pName_s S h1 (by omega), thn_ok]
  rcases restOf_c hn h2 (by omega) (by omega) with e | ⟨v, e⟩
  · rw [e]; rfl
  · rw [e, thn_ok, pNeed_e hn]; rfl
theorem pItem_e (k : Nat) : pItem (T.take n) k n = .error (21, n) := by
  unfold pItem
  rw [if_pos (cut_len hn).symm, gu_e hn]
theorem pItem_c {k i j : Nat} {x : It} (hr : pItem T k i = .ok (x, j)) (hi : i ≤ n) (hj : n < j) : pItem (T.take n) k i = .error (21, n) := by
  rcases Nat.eq_or_lt_of_le hi with rfl | hi
  · exact pItem_e hn k
  have S := sim_cut hn
  unfold pItem at hr ⊢
  split at hr
  · cases hr
  · split at hr
    · cases hr
    · rename_i t kind F hrule
      split at hr
      · cases hr
      · rename_i c2
        rw [if_neg (by rw [cut_len hn]; omega), show (tokAt (T.take n) i).text = (tokAt T i).text from text_s S hi, hrule]
        simp only []
        rw [if_neg c2]
        exact pItemR_c hn hr (by omega) hj
theorem pHead_c {i j : Nat} {x : Mh} (hr : pHead T i = .ok (x, j)) (hi : i ≤ n) (hj : n < j) : pHead (T.take n) i = .error (21, n) := by
  have S := sim_cut hn
  unfold pHead at hr ⊢
  obtain ⟨l, n1, h1, hr⟩ := thn_inv hr
  obtain ⟨m1, n4, h4, hr⟩ := thn_inv hr
  obtain ⟨_, n5, h5, hr⟩ := thn_inv hr
  obtain ⟨m2, n6, h6, hr⟩ := thn_inv hr
  obtain ⟨_, n7, h7, hr⟩ := thn_inv hr
  obtain ⟨_, n8, h8, hr⟩ := thn_inv hr
  obtain ⟨rfl, rfl⟩ := ok_inv hr
  have l1 := pName_ok h1; have l5 := pNeed_ok h5; have l7 := pNeed_ok h7; have l8 := pNeed_ok h8
  by_cases q1 : n < n1
  · rw [pName_c hn h1 hi q1]; rfl
  rw [show pName (T.take n) i = .ok (l, n1) from pName_s S h1 (by omega), thn_ok]
  -- the params
  have e4 : ((if tokIs (T.take n) n1 [60] = true then thn (pList (T.take n) (qParam (T.take n)) 4 ⟨l, [], []⟩ (n1 + 1)) fun m n2 => thn (pNeed (T.take n) n2 [62]) fun _ n3 => .ok (m, n3) else .ok (⟨l, [], []⟩, n1)) = (.ok (m1, n4) : PR Mh) ∧ n4 < n) ∨ CutY n (if tokIs (T.take n) n1 [60] = true then thn (pList (T.take n) (qParam (T.take n)) 4 ⟨l, [], []⟩ (n1 + 1)) fun m n2 => thn (pNeed (T.take n) n2 [62]) fun _ n3 => .ok (m, n3) else .ok (⟨l, [], []⟩, n1)) := by
    rcases Nat.eq_or_lt_of_le (show n1 ≤ n by omega) with e1 | e1
    · rw [e1, tokIs_e hn, if_neg (by simp)]; exact .inr (.inr ⟨_, rfl⟩)
    rw [show tokIs (T.take n) n1 _ = tokIs T n1 _ from tokIs_s S e1 _]
    split at h4
    · rename_i c
      rw [if_pos c]
      obtain ⟨a1, q1, g1, h4⟩ := thn_inv h4
      obtain ⟨_, q2, g2, h4⟩ := thn_inv h4
      obtain ⟨rfl, rfl⟩ := ok_inv h4
      have a2 := pNeed_ok g2
      by_cases c1 : n ≤ q1
      · rcases pList_c hn (qParam_s S) (qParam_c hn) g1 (by omega) c1 with e | ⟨v, e⟩
        · rw [e]; exact .inr (.inl rfl)
        · rw [e, thn_ok, pNeed_e hn]; exact .inr (.inl rfl)
      rw [show pList (T.take n) (qParam (T.take n)) 4 ⟨l, [], []⟩ (n1 + 1) = .ok (a1, q1) from (pList_s S (qParam_s S) g1).2 (by omega), thn_ok, show pNeed (T.take n) q1 _ = .ok ((), q2) from pNeed_s S g2 (by omega), thn_ok]
      rcases Nat.eq_or_lt_of_le (show q2 ≤ n by omega) with e2 | e2
      · rw [e2]; exact .inr (.inr ⟨_, rfl⟩)
      · exact .inl ⟨rfl, e2⟩
    · rename_i c
      rw [if_neg c]
      obtain ⟨rfl, rfl⟩ := ok_inv h4
      exact .inl ⟨rfl, e1⟩
  rcases e4 with ⟨e4, q4⟩ | e4
  · rw [e4, thn_ok]
    rw [show pNeed (T.take n) n4 _ = .ok ((), n5) from pNeed_s S h5 (by omega), thn_ok]
    have e6 : ((if tokIs (T.take n) n5 [41] = true then .ok (m1, n5) else pList (T.take n) (qPort (T.take n)) 16 m1 n5) = (.ok (m2, n6) : PR Mh) ∧ n6 < n) ∨ CutY n (if tokIs (T.take n) n5 [41] = true then .ok (m1, n5) else pList (T.take n) (qPort (T.take n)) 16 m1 n5) := by
      rcases Nat.eq_or_lt_of_le (show n5 ≤ n by omega) with e1 | e1
      · rw [e1, tokIs_e hn, if_neg (by simp)]
        have : pList (T.take n) (qPort (T.take n)) 16 m1 n = .error (21, n) := by
          unfold pList qPort pPort
          rw [tokIs_e hn, if_neg (by simp), pNeed_e hn]
          rfl
        exact .inr (.inl this)
      rw [show tokIs (T.take n) n5 _ = tokIs T n5 _ from tokIs_s S e1 _]
      split at h6
      · rename_i c
        rw [if_pos c]
        obtain ⟨rfl, rfl⟩ := ok_inv h6
        exact .inl ⟨rfl, e1⟩
      · rename_i c
        rw [if_neg c]
        by_cases c1 : n ≤ n6
        · exact .inr (pList_c hn (qPort_s S) (qPort_c hn) h6 (by omega) c1)
        · exact .inl ⟨(pList_s S (qPort_s S) h6).2 (by omega), by omega⟩
    rcases e6 with ⟨e6, q6⟩ | e6
    · rw [e6, thn_ok]
      rw [show pNeed (T.take n) n6 _ = .ok ((), n7) from pNeed_s S h7 (by omega), thn_ok]
      rw [pNeed_c hn h8 (by omega) hj]
      rfl
    · rcases e6 with e | ⟨v, e⟩
      · rw [e]; rfl
      · rw [e, thn_ok, pNeed_e hn]; rfl
  · rcases e4 with e | ⟨v, e⟩
    · rw [e]; rfl
    · rw [e, thn_ok, pNeed_e hn]; rfl
theorem pBody_c : ∀ (f g k : Nat) (is : List It) (i : Nat) (is' : List It) (j : Nat), i ≤ T.length → T.length < i + f → n < i + g → pBody T f k is [] i = (.ok (is', j), []) → i ≤ n → n < j → pBody (T.take n) g k is [] i = (.error (21, n), [])
  | 0, g, k, is, i, is', j, hl, hf, hg, hr, hi, hj => by omega
  | f + 1, 0, k, is, i, is', j, hl, hf, hg, hr, hi, hj => by omega
  | f + 1, g + 1, k, is, i, is', j, hl, hf, hg, hr, hi, hj => by
    have S := sim_cut hn
    rcases Nat.eq_or_lt_of_le hi with e | hi
    · rw [pBody, e, tokIs_e hn, pItem_e hn]
      rfl
    rw [pBody] at hr ⊢
    rw [show tokIs (T.take n) i _ = tokIs T i _ from tokIs_s S hi _]
    split at hr
    · simp only [Prod.mk.injEq, and_true] at hr
      obtain ⟨rfl, rfl⟩ := ok_inv hr
      omega
    · rename_i c
      rw [if_neg c]
      rcases hI : pItem T k i with x | ⟨x, q⟩
      · rw [hI] at hr
        simp only [] at hr
        split at hr
        · cases hr
        · rcases hp : pPast T (T.length - x.2) x.2 with y | ⟨_, q⟩
          · rw [hp] at hr; cases hr
          · rw [hp] at hr
            simp only [] at hr
            have := pBody_pre T f (bk T k i) is ([] ++ [x]) q
            rw [hr] at this
            simp at this
      · rw [hI] at hr
        simp only [] at hr
        have hq : q ≤ T.length := by
          have := pItem_g (T := T) (k := k) hl
          rw [hI] at this
          exact this.2
        have hnq := pItem_goes hl hI
        by_cases c1 : n < q
        · rw [pItem_c hn hI (by omega) c1]
          rfl
        · rw [show pItem (T.take n) k i = .ok (x, q) from (pItem_s S hl hI (by omega)).2]
          simp only []
          rw [show bk (T.take n) k i = bk T k i from bk_s S hi]
          exact pBody_c f g _ _ q is' j hq (by omega) (by omega) hr (by omega) hj
theorem pModule_c {mo mo1 i j : Nat} {x : Mo} (hr : pModule T mo [] i = (.ok (x, j), [], mo1)) (hi : i < n) (hj : n < j) : pModule (T.take n) mo [] i = (.error (21, n), [], mo + 1) := by
  have S := sim_cut hn
  unfold pModule at hr ⊢
  rw [show tokIs (T.take n) i _ = tokIs T i _ from tokIs_s S hi _]
  split at hr
  · rename_i c
    rw [if_pos c]
    split at hr
    · cases hr
    · rename_i c2
      rw [if_neg c2]
      rcases hh : pHead T (i + 1) with y | ⟨q, n1⟩
      · rw [hh] at hr; cases hr
      · rw [hh] at hr
        simp only [] at hr
        have hg := pHead_g (T := T) (b := i + 1) (n := i + 1) (Nat.le_refl _) (tokIs_lt c)
        rw [hh] at hg
        have hg2 : i + 1 ≤ n1 ∧ n1 ≤ T.length := hg
        rcases hb : pBody T (T.length + 1) 0 [] [] n1 with ⟨y | ⟨is, n2⟩, fs2⟩
        · rw [hb] at hr; cases hr
        · rw [hb] at hr
          simp only [Prod.mk.injEq] at hr
          obtain ⟨hr, rfl, rfl⟩ := hr
          obtain ⟨rfl, rfl⟩ := ok_inv hr
          by_cases c1 : n < n1
          · rw [pHead_c hn hh (by omega) c1]
          · rw [show pHead (T.take n) (i + 1) = .ok (q, n1) from (pHead_s S hh (by omega)).2]
            simp only []
            rw [pBody_c hn _ ((T.take n).length + 1) _ _ _ _ _ hg2.2 (by omega) (by rw [cut_len hn]; omega) hb (by omega) hj]
  · cases hr
end
end Go.Proofs.YtccjbpghpoblhaaDoor

