/-
  WITHIN A MODULE no token is the word that begins one; a text without faults, cut off ahead of a token. Plain mathematics.
-/
import Derived.Test.YtccjbpghpoblhaaDoorC03synCuts
namespace Go.Proofs.YtccjbpghpoblhaaDoor

/-- no token from i to j is that word -/
def NM (T : List LexM.Tk) (i j : Nat) : Prop := ∀ k, i ≤ k → k < j → tokIs T k wModule = false
theorem NM.trans {T : List LexM.Tk} {i k j : Nat} (a : NM T i k) (b : NM T k j) : NM T i j := fun x hx hj => by
  rcases Nat.lt_or_ge x k with h | h
  · exact a x hx h
  · exact b x h hj
theorem NM.nil (T : List LexM.Tk) (i : Nat) : NM T i i := fun x hx hj => by omega
theorem nm_tok {T : List LexM.Tk} {i : Nat} {l : List UInt8} (h : tokIs T i l = true) (hl : l ≠ wModule) : NM T i (i + 1) := fun x hx hj => by
  obtain rfl : x = i := by omega
  unfold tokIs at h ⊢
  have h1 : textAt T x = some l := by simpa using h
  rw [h1]
  simpa using hl
/-- numbers are not that word -/
def NumOk (T : List LexM.Tk) : Prop := ∀ k, kindIs T k 2 = true → tokIs T k wModule = false

section
variable {T : List LexM.Tk} (hT : NumOk T)
theorem pNeed_n {i j : Nat} {l : List UInt8} {u : Unit} (hr : pNeed T i l = .ok (u, j)) (hl : l ≠ wModule) : NM T i j := by
  unfold pNeed at hr
  split at hr
  · rename_i c
    obtain ⟨_, rfl⟩ := ok_inv hr
    exact nm_tok c hl
  · cases hr
theorem pName_n {i j : Nat} {l : List UInt8} (hr : pName T i = .ok (l, j)) : NM T i j := by
  unfold pName at hr
  split at hr
  · rename_i c
    obtain ⟨_, rfl⟩ := ok_inv hr
    simp only [Bool.and_eq_true, Bool.not_eq_true'] at c
    intro x hx hj
    obtain rfl : x = i := by omega
    rcases hq : T[x]? with _ | t
    · unfold tokIs textAt; rw [hq]; rfl
    · rw [tokAt_some hq] at c
      unfold tokIs textAt
      rw [hq]
      have : t.text ≠ wModule := fun e => by
        have h2 := c.2
        rw [e] at h2
        exact absurd h2 (by decide)
      simpa using this
  · cases hr
include hT
theorem pNumber_n {i j k : Nat} (hr : pNumber T i = .ok (k, j)) : NM T i j := by
  unfold pNumber at hr
  split at hr
  · rename_i c
    obtain ⟨_, rfl⟩ := ok_inv hr
    intro x hx hj
    obtain rfl : x = i := by omega
    exact hT x c
  · cases hr
theorem pSide_n {i j : Nat} {x : Dm} (hr : pSide T i = .ok (x, j)) : NM T i j := by
  unfold pSide at hr
  split at hr
  · rcases hq : pNumber T i with y | ⟨k, q⟩
    · rw [hq] at hr; cases hr
    · rw [hq] at hr
      obtain ⟨_, rfl⟩ := ok_inv hr
      exact pNumber_n hT hq
  · rcases hq : pName T i with y | ⟨k, q⟩
    · rw [hq] at hr; cases hr
    · rw [hq] at hr
      obtain ⟨_, rfl⟩ := ok_inv hr
      exact pName_n hq
theorem pDim_n {i j : Nat} {x : Dm} (hr : pDim T i = .ok (x, j)) : NM T i j := by
  unfold pDim at hr
  rcases hq : pSide T i with y | ⟨e, q⟩
  · rw [hq] at hr; cases hr
  · rw [hq] at hr
    simp only [] at hr
    split at hr
    · rename_i c
      rcases hq2 : pNumber T (q + 1) with y | ⟨k, q2⟩
      · rw [hq2] at hr; cases hr
      · rw [hq2] at hr
        obtain ⟨_, rfl⟩ := ok_inv hr
        exact (pSide_n hT hq).trans ((nm_tok c.2 (by decide)).trans (pNumber_n hT hq2))
    · obtain ⟨_, rfl⟩ := ok_inv hr
      exact pSide_n hT hq
omit hT in
theorem pMk_n {a op i j : Nat} {ks : List Ex} {t : Ex} (hr : pMk a op ks i = .ok (t, j)) : NM T i j := by
  rw [pMk_ok hr]; exact NM.nil _ _
/-- expressions pass over no such word -/
def NMe (T : List LexM.Tk) (pe : Nat → PR Ex) : Prop := ∀ i t j, pe i = .ok (t, j) → NM T i j
variable {pe : Nat → PR Ex} (hp : NMe T pe)
include hp
omit hT in
theorem pBr_n {i j : Nat} {t : Ex} (hr : pBr T pe i = .ok (t, j)) : NM T i j := by
  unfold pBr at hr
  obtain ⟨_, n1, h1, hr⟩ := thn_inv hr
  obtain ⟨_, n2, h2, hr⟩ := thn_inv hr
  obtain ⟨_, n3, h3, hr⟩ := thn_inv hr
  obtain ⟨_, rfl⟩ := ok_inv hr
  exact (pNeed_n h1 (by decide)).trans ((hp _ _ _ h2).trans (pNeed_n h3 (by decide)))
omit hT in
theorem pCat_n {a i j : Nat} {t : Ex} (hr : pCat T pe a i = .ok (t, j)) : NM T i j := by
  unfold pCat at hr
  obtain ⟨_, n1, h1, hr⟩ := thn_inv hr
  obtain ⟨_, n2, h2, hr⟩ := thn_inv hr
  obtain ⟨_, n3, h3, hr⟩ := thn_inv hr
  obtain ⟨_, n4, h4, hr⟩ := thn_inv hr
  exact (hp _ _ _ h1).trans ((pNeed_n h2 (by decide)).trans ((hp _ _ _ h3).trans ((pNeed_n h4 (by decide)).trans (pMk_n hr))))
omit hT in
theorem pMem_n {a i j : Nat} {t : Ex} (hr : pMem T pe a i = .ok (t, j)) : NM T i j := by
  unfold pMem at hr
  obtain ⟨_, n1, h1, hr⟩ := thn_inv hr
  obtain ⟨_, n2, h2, hr⟩ := thn_inv hr
  obtain ⟨_, n3, h3, hr⟩ := thn_inv hr
  obtain ⟨_, n4, h4, hr⟩ := thn_inv hr
  obtain ⟨_, n5, h5, hr⟩ := thn_inv hr
  obtain ⟨_, n6, h6, hr⟩ := thn_inv hr
  obtain ⟨_, rfl⟩ := ok_inv hr
  exact (pNeed_n h1 (by decide)).trans ((pName_n h2).trans ((pNeed_n h3 (by decide)).trans ((hp _ _ _ h4).trans ((pNeed_n h5 (by decide)).trans (pMk_n h6)))))
omit hp in
theorem pLeaf_n {i j : Nat} {t : Ex} (hr : pLeaf T i = .ok (t, j)) : NM T i j := by
  unfold pLeaf at hr
  obtain ⟨x, n1, h1, hr⟩ := thn_inv hr
  split at hr
  · obtain ⟨_, n2, h2, hr⟩ := thn_inv hr
    obtain ⟨_, n3, h3, hr⟩ := thn_inv hr
    obtain ⟨_, rfl⟩ := ok_inv hr
    exact (pSide_n hT h1).trans ((pNeed_n h2 (by decide)).trans (pSide_n hT h3))
  · split at hr
    · rename_i c
      obtain ⟨_, n2, h2, hr⟩ := thn_inv hr
      obtain ⟨_, rfl⟩ := ok_inv hr
      exact (pSide_n hT h1).trans ((nm_tok c (by decide)).trans (pName_n h2))
    · obtain ⟨_, rfl⟩ := ok_inv hr
      exact pSide_n hT h1
theorem pPrim_n {i j : Nat} {t : Ex} (hr : pPrim T pe i = .ok (t, j)) : NM T i j := by
  unfold pPrim at hr
  split at hr
  · exact pBr_n hp hr
  split at hr
  · rename_i c; exact (nm_tok c (by decide)).trans (pCat_n hp hr)
  split at hr
  · rename_i c
    obtain ⟨_, n1, h1, hr⟩ := thn_inv hr
    exact (nm_tok c (by decide)).trans ((pBr_n hp h1).trans (pMk_n hr))
  split at hr
  · rename_i c
    obtain ⟨_, n1, h1, hr⟩ := thn_inv hr
    exact (nm_tok c (by decide)).trans ((pBr_n hp h1).trans (pMk_n hr))
  split at hr
  · rename_i c
    obtain ⟨_, n1, h1, hr⟩ := thn_inv hr
    exact (nm_tok c (by decide)).trans ((pBr_n hp h1).trans (pMk_n hr))
  split at hr
  · rename_i c; exact (nm_tok c (by decide)).trans (pMem_n hp hr)
  · exact pLeaf_n hT hr
omit hp in
theorem pSl_n : ∀ (f : Nat) (u : Ex) (i j : Nat) (t : Ex), pSl T f u i = .ok (t, j) → NM T i j
  | 0, u, i, j, t, hr => by obtain ⟨_, rfl⟩ := ok_inv hr; exact NM.nil _ _
  | f + 1, u, i, j, t, hr => by
    rw [pSl] at hr
    split at hr
    · rename_i c
      obtain ⟨hi, n1, h1, hr⟩ := thn_inv hr
      obtain ⟨lo, n2, h2, hr⟩ := thn_inv hr
      obtain ⟨_, n3, h3, hr⟩ := thn_inv hr
      obtain ⟨u', n4, h4, hr⟩ := thn_inv hr
      have e2 : NM T n1 n2 := by
        split at h2
        · rename_i c2; exact (nm_tok c2 (by decide)).trans (pDim_n hT h2)
        · obtain ⟨_, rfl⟩ := ok_inv h2; exact NM.nil _ _
      exact (nm_tok c (by decide)).trans ((pDim_n hT h1).trans (e2.trans ((pNeed_n h3 (by decide)).trans ((pMk_n h4).trans (pSl_n f _ _ _ _ hr)))))
    · obtain ⟨_, rfl⟩ := ok_inv hr; exact NM.nil _ _
theorem pPost_n {i j : Nat} {t : Ex} (hr : pPost T pe i = .ok (t, j)) : NM T i j := by
  unfold pPost at hr
  obtain ⟨_, n1, h1, hr⟩ := thn_inv hr
  exact (pPrim_n hT hp h1).trans (pSl_n hT _ _ _ _ _ hr)
theorem pUn_n : ∀ (f i j : Nat) (t : Ex), pUn T pe f i = .ok (t, j) → NM T i j
  | 0, i, j, t, hr => pPost_n hT hp hr
  | f + 1, i, j, t, hr => by
    rw [pUn] at hr
    split at hr
    · rename_i c
      obtain ⟨_, n1, h1, hr⟩ := thn_inv hr
      exact (nm_tok c (by decide)).trans ((pUn_n f _ _ _ h1).trans (pMk_n hr))
    · exact pPost_n hT hp hr
omit hT hp in
theorem opOf_n {i : Nat} (h : 1 ≤ (opOf T i).1) : NM T i (i + 1) := by
  unfold opOf at h
  split at h
  · rename_i t ht
    have h0 := List.find?_some ht
    have h1 : tokIs T i t.1 = true := h0
    have h2 := List.mem_of_find?_eq_some ht
    have : ∀ x ∈ opTab, x.1 ≠ wModule := by decide
    exact nm_tok h1 (this t h2)
  · simp at h
theorem pLoop_n : ∀ (f l q : Nat) (u : Ex) (i j : Nat) (t : Ex), 1 ≤ l → pLoop T pe f l q u i = .ok (t, j) → NM T i j
  | 0, l, q, u, i, j, t, hl, hr => by obtain ⟨_, rfl⟩ := ok_inv hr; exact NM.nil _ _
  | f + 1, l, q, u, i, j, t, hl, hr => by
    rw [pLoop] at hr
    split at hr
    · obtain ⟨_, rfl⟩ := ok_inv hr; exact NM.nil _ _
    · rename_i c
      obtain ⟨r0, n1, h1, hr⟩ := thn_inv hr
      obtain ⟨r, n2, h2, hr⟩ := thn_inv hr
      obtain ⟨t', n3, h3, hr⟩ := thn_inv hr
      exact (opOf_n (by omega)).trans ((pUn_n hT hp _ _ _ _ h1).trans ((pLoop_n f _ _ _ _ _ _ (by omega) h2).trans ((pMk_n h3).trans (pLoop_n f _ _ _ _ _ _ hl hr))))
theorem pBet_n {f l i j : Nat} {t : Ex} (hl : 1 ≤ l) (hr : pBet T pe f l i = .ok (t, j)) : NM T i j := by
  unfold pBet at hr
  obtain ⟨_, n1, h1, hr⟩ := thn_inv hr
  exact (pUn_n hT hp _ _ _ _ h1).trans (pLoop_n hT hp _ _ _ _ _ _ _ hl hr)
end

section
variable {T : List LexM.Tk} (hT : NumOk T)
include hT
theorem pEx_n : ∀ f, NMe T (pEx T f)
  | 0 => fun i t j hr => by cases hr
  | f + 1 => fun i t j hr => by
    have hp := pEx_n f
    rw [pEx] at hr
    obtain ⟨a, n1, h1, hr⟩ := thn_inv hr
    have e1 := pBet_n hT hp (Nat.le_refl 1) h1
    split at hr
    · rename_i c
      obtain ⟨_, n2, h2, hr⟩ := thn_inv hr
      obtain ⟨_, n3, h3, hr⟩ := thn_inv hr
      obtain ⟨_, n4, h4, hr⟩ := thn_inv hr
      exact e1.trans ((nm_tok c (by decide)).trans ((hp _ _ _ h2).trans ((pNeed_n h3 (by decide)).trans ((hp _ _ _ h4).trans (pMk_n hr)))))
    · obtain ⟨_, rfl⟩ := ok_inv hr
      exact e1
theorem pExpr_n {i j : Nat} {t : Ex} (hr : pExpr T i = .ok (t, j)) : NM T i j := pEx_n hT _ _ _ _ hr
/-- an element of a list passes over no such word -/
def NMq {σ : Type} (T : List LexM.Tk) (q : σ → Nat → PR σ) : Prop := ∀ s i s' j, q s i = .ok (s', j) → NM T i j
omit hT in
theorem pMore_n {σ : Type} {q : σ → Nat → PR σ} (hq : NMq T q) : ∀ (f : Nat) (s : σ) (i : Nat) (s' : σ) (j : Nat), pMore T q f s i = .ok (s', j) → NM T i j
  | 0, s, i, s', j, hr => by
    rw [pMore] at hr
    split at hr
    · cases hr
    · obtain ⟨_, rfl⟩ := ok_inv hr; exact NM.nil _ _
  | f + 1, s, i, s', j, hr => by
    rw [pMore] at hr
    split at hr
    · rename_i c
      obtain ⟨s1, n1, h1, hr⟩ := thn_inv hr
      exact (nm_tok c (by decide)).trans ((hq _ _ _ _ h1).trans (pMore_n hq f _ _ _ _ hr))
    · obtain ⟨_, rfl⟩ := ok_inv hr; exact NM.nil _ _
omit hT in
theorem pList_n {σ : Type} {q : σ → Nat → PR σ} (hq : NMq T q) {most : Nat} {s s' : σ} {i j : Nat} (hr : pList T q most s i = .ok (s', j)) : NM T i j := by
  unfold pList at hr
  obtain ⟨s1, n1, h1, hr⟩ := thn_inv hr
  exact (hq _ _ _ _ h1).trans (pMore_n hq _ _ _ _ _ hr)
theorem pPortR_n {b : Bool} {i j : Nat} {x : Bool × List UInt8 × Dm} (hr : pPortR T b i = .ok (x, j)) : NM T i j := by
  unfold pPortR at hr
  obtain ⟨_, n1, h1, hr⟩ := thn_inv hr
  obtain ⟨_, n2, h2, hr⟩ := thn_inv hr
  obtain ⟨_, n3, h3, hr⟩ := thn_inv hr
  obtain ⟨_, rfl⟩ := ok_inv hr
  exact (pName_n h1).trans ((pNeed_n h2 (by decide)).trans (pDim_n hT h3))
theorem qPort_n : NMq T (qPort T) := fun s i s' j hr => by
  unfold qPort pPort at hr
  obtain ⟨_, n1, h1, hr⟩ := thn_inv hr
  obtain ⟨_, rfl⟩ := ok_inv hr
  split at h1
  · rename_i c; exact (nm_tok c (by decide)).trans (pPortR_n hT h1)
  · obtain ⟨_, n2, h2, h1⟩ := thn_inv h1
    exact (pNeed_n h2 (by decide)).trans (pPortR_n hT h1)
omit hT in
theorem qParam_n : NMq T (qParam T) := fun s i s' j hr => by
  unfold qParam at hr
  obtain ⟨_, n1, h1, hr⟩ := thn_inv hr
  obtain ⟨_, rfl⟩ := ok_inv hr
  exact pName_n h1
theorem qArg_n : NMq T (qArg T) := fun s i s' j hr => by
  unfold qArg at hr
  obtain ⟨_, n1, h1, hr⟩ := thn_inv hr
  obtain ⟨_, rfl⟩ := ok_inv hr
  exact pDim_n hT h1
theorem qBind_n : NMq T (qBind T) := fun s i s' j hr => by
  unfold qBind pBind at hr
  obtain ⟨_, n1, h1, hr⟩ := thn_inv hr
  obtain ⟨_, rfl⟩ := ok_inv hr
  obtain ⟨_, n2, h2, h1⟩ := thn_inv h1
  obtain ⟨_, n3, h3, h1⟩ := thn_inv h1
  obtain ⟨_, n4, h4, h1⟩ := thn_inv h1
  obtain ⟨_, rfl⟩ := ok_inv h1
  exact (pName_n h2).trans ((pNeed_n h3 (by decide)).trans (pExpr_n hT h4))
theorem restOf_n {F i j : Nat} {x x' : It} (hr : restOf F T x i = .ok (x', j)) : NM T i j := by
  unfold restOf at hr
  split at hr
  · unfold pWire at hr
    obtain ⟨_, n1, h1, hr⟩ := thn_inv hr
    obtain ⟨_, n2, h2, hr⟩ := thn_inv hr
    obtain ⟨_, n3, h3, hr⟩ := thn_inv hr
    obtain ⟨_, n4, h4, hr⟩ := thn_inv hr
    obtain ⟨_, rfl⟩ := ok_inv hr
    exact (pNeed_n h1 (by decide)).trans ((pDim_n hT h2).trans ((pNeed_n h3 (by decide)).trans (pExpr_n hT h4)))
  split at hr
  · unfold pReg at hr
    obtain ⟨_, n1, h1, hr⟩ := thn_inv hr
    obtain ⟨_, n2, h2, hr⟩ := thn_inv hr
    obtain ⟨_, n3, h3, hr⟩ := thn_inv hr
    obtain ⟨_, n4, h4, hr⟩ := thn_inv hr
    obtain ⟨_, rfl⟩ := ok_inv hr
    exact (pNeed_n h1 (by decide)).trans ((pDim_n hT h2).trans ((pNeed_n h3 (by decide)).trans (pDim_n hT h4)))
  split at hr
  · unfold pMemo at hr
    obtain ⟨_, n1, h1, hr⟩ := thn_inv hr
    obtain ⟨_, n2, h2, hr⟩ := thn_inv hr
    obtain ⟨_, n3, h3, hr⟩ := thn_inv hr
    obtain ⟨_, n4, h4, hr⟩ := thn_inv hr
    obtain ⟨_, n5, h5, hr⟩ := thn_inv hr
    obtain ⟨_, rfl⟩ := ok_inv hr
    exact (pNeed_n h1 (by decide)).trans ((pDim_n hT h2).trans ((pNeed_n h3 (by decide)).trans ((pNeed_n h4 (by decide)).trans (pDim_n hT h5))))
  split at hr
  · unfold pInst pArgs pBinds at hr
    obtain ⟨_, n1, h1, hr⟩ := thn_inv hr
    obtain ⟨_, n2, h2, hr⟩ := thn_inv hr
    obtain ⟨_, n3, h3, hr⟩ := thn_inv hr
    obtain ⟨_, n4, h4, hr⟩ := thn_inv hr
    obtain ⟨_, n5, h5, hr⟩ := thn_inv hr
    obtain ⟨_, rfl⟩ := ok_inv hr
    have e2 : NM T n1 n2 := by
      split at h2
      · rename_i c
        obtain ⟨_, q1, g1, h2⟩ := thn_inv h2
        obtain ⟨_, q2, g2, h2⟩ := thn_inv h2
        obtain ⟨_, rfl⟩ := ok_inv h2
        exact (nm_tok c (by decide)).trans ((pList_n (qArg_n hT) g1).trans (pNeed_n g2 (by decide)))
      · obtain ⟨_, rfl⟩ := ok_inv h2; exact NM.nil _ _
    have e4 : NM T n3 n4 := by
      split at h4
      · obtain ⟨_, rfl⟩ := ok_inv h4; exact NM.nil _ _
      · exact pList_n (qBind_n hT) h4
    exact (pName_n h1).trans (e2.trans ((pNeed_n h3 (by decide)).trans (e4.trans (pNeed_n h5 (by decide)))))
  split at hr
  · unfold pProp at hr
    obtain ⟨_, n1, h1, hr⟩ := thn_inv hr
    obtain ⟨_, n2, h2, hr⟩ := thn_inv hr
    obtain ⟨_, rfl⟩ := ok_inv hr
    exact (pNeed_n h1 (by decide)).trans (pExpr_n hT h2)
  split at hr
  · unfold pValue at hr
    obtain ⟨_, n1, h1, hr⟩ := thn_inv hr
    obtain ⟨_, n2, h2, hr⟩ := thn_inv hr
    obtain ⟨_, rfl⟩ := ok_inv hr
    exact (pNeed_n h1 (by decide)).trans (pExpr_n hT h2)
  · unfold pPut at hr
    obtain ⟨_, n1, h1, hr⟩ := thn_inv hr
    obtain ⟨_, n2, h2, hr⟩ := thn_inv hr
    obtain ⟨_, n3, h3, hr⟩ := thn_inv hr
    obtain ⟨_, n4, h4, hr⟩ := thn_inv hr
    obtain ⟨_, n5, h5, hr⟩ := thn_inv hr
    obtain ⟨_, n6, h6, hr⟩ := thn_inv hr
    obtain ⟨_, n7, h7, hr⟩ := thn_inv hr
    obtain ⟨_, rfl⟩ := ok_inv hr
    exact (pNeed_n h1 (by decide)).trans ((pExpr_n hT h2).trans ((pNeed_n h3 (by decide)).trans ((pNeed_n h4 (by decide)).trans ((pExpr_n hT h5).trans ((pNeed_n h6 (by decide)).trans (pExpr_n hT h7))))))
theorem pItem_n {k i j : Nat} {x : It} (hr : pItem T k i = .ok (x, j)) : NM T i j := by
  unfold pItem at hr
  split at hr
  · cases hr
  · rename_i c
    split at hr
    · cases hr
    · rename_i t kind F hrule
      split at hr
      · cases hr
      · unfold pItemR at hr
        obtain ⟨_, n1, h1, hr⟩ := thn_inv hr
        obtain ⟨_, n2, h2, hr⟩ := thn_inv hr
        obtain ⟨_, n3, h3, hr⟩ := thn_inv hr
        obtain ⟨_, rfl⟩ := ok_inv hr
        have e0 : NM T i (i + 1) := fun y hy hj => by
          obtain rfl : y = i := by omega
          rcases hq : T[y]? with _ | a
          · unfold tokIs textAt; rw [hq]; rfl
          · rw [tokAt_some hq] at hrule
            have h5 := rule_mem hrule
            have h6 := List.mem_of_find?_eq_some hrule
            have h7 : ∀ z ∈ ruleTab, z.1 ≠ wModule := by decide
            have h8 := h7 _ h6
            unfold tokIs textAt
            rw [hq]
            have : a.text ≠ wModule := fun e => h8 (by rw [h5.1]; exact e)
            simpa using this
        exact e0.trans ((pName_n h1).trans ((restOf_n hT h2).trans (pNeed_n h3 (by decide))))
theorem pHead_n {i j : Nat} {x : Mh} (hr : pHead T i = .ok (x, j)) : NM T i j := by
  unfold pHead at hr
  obtain ⟨l, n1, h1, hr⟩ := thn_inv hr
  obtain ⟨m1, n4, h4, hr⟩ := thn_inv hr
  obtain ⟨_, n5, h5, hr⟩ := thn_inv hr
  obtain ⟨m2, n6, h6, hr⟩ := thn_inv hr
  obtain ⟨_, n7, h7, hr⟩ := thn_inv hr
  obtain ⟨_, n8, h8, hr⟩ := thn_inv hr
  obtain ⟨_, rfl⟩ := ok_inv hr
  have e4 : NM T n1 n4 := by
    split at h4
    · rename_i c
      obtain ⟨_, q1, g1, h4⟩ := thn_inv h4
      obtain ⟨_, q2, g2, h4⟩ := thn_inv h4
      obtain ⟨_, rfl⟩ := ok_inv h4
      exact (nm_tok c (by decide)).trans ((pList_n qParam_n g1).trans (pNeed_n g2 (by decide)))
    · obtain ⟨_, rfl⟩ := ok_inv h4; exact NM.nil _ _
  have e6 : NM T n5 n6 := by
    split at h6
    · obtain ⟨_, rfl⟩ := ok_inv h6; exact NM.nil _ _
    · exact pList_n (qPort_n hT) h6
  exact (pName_n h1).trans (e4.trans ((pNeed_n h5 (by decide)).trans (e6.trans ((pNeed_n h7 (by decide)).trans (pNeed_n h8 (by decide))))))
theorem pBody_n : ∀ (f k : Nat) (is : List It) (i : Nat) (is' : List It) (j : Nat), pBody T f k is [] i = (.ok (is', j), []) → NM T i j
  | 0, k, is, i, is', j, hr => by cases hr
  | f + 1, k, is, i, is', j, hr => by
    rw [pBody] at hr
    split at hr
    · rename_i c
      simp only [Prod.mk.injEq, and_true] at hr
      obtain ⟨_, rfl⟩ := ok_inv hr
      exact nm_tok c (by decide)
    · rcases hI : pItem T k i with x | ⟨x, q⟩
      · rw [hI] at hr
        simp only [] at hr
        split at hr
        · cases hr
        · rcases hp : pPast T (T.length - x.2) x.2 with y | ⟨_, q⟩
          · rw [hp] at hr; cases hr
          · rw [hp] at hr
            simp only [] at hr
            have := pBody_pre T f (bk T k i) is ([] ++ [x]) q
            rw [hr] at this
            simp at this
      · rw [hI] at hr
        simp only [] at hr
        exact (pItem_n hT hI).trans (pBody_n f _ _ _ _ _ hr)
theorem pModule_n {mo mo1 i j : Nat} {x : Mo} (hr : pModule T mo [] i = (.ok (x, j), [], mo1)) : tokIs T i wModule = true ∧ NM T (i + 1) j := by
  unfold pModule at hr
  split at hr
  · rename_i c
    refine ⟨c, ?_⟩
    split at hr
    · cases hr
    · rcases hh : pHead T (i + 1) with y | ⟨q, n1⟩
      · rw [hh] at hr; cases hr
      · rw [hh] at hr
        simp only [] at hr
        rcases hb : pBody T (T.length + 1) 0 [] [] n1 with ⟨y | ⟨is, n2⟩, fs2⟩
        · rw [hb] at hr; cases hr
        · rw [hb] at hr
          simp only [Prod.mk.injEq] at hr
          obtain ⟨hr, rfl, rfl⟩ := hr
          obtain ⟨_, rfl⟩ := ok_inv hr
          exact (pHead_n hT hh).trans (pBody_n hT _ _ _ _ _ _ hb)
  · cases hr
/-- a design without faults, cut off ahead of token n -/
theorem pDesign_c {n : Nat} (hn : n < T.length) : ∀ (f g mo : Nat) (ms ms' : List Mo) (i : Nat), i ≤ n → T.length < i + f → n < i + g → pDesign T f mo ms [] i = (ms', []) →
    ∃ new rest fs, rest ≠ [] ∧ ms' = ms ++ new ++ rest ∧ pDesign (T.take n) g mo ms [] i = (ms ++ new, fs) ∧ ((fs = [] ∧ tokIs T n wModule = true) ∨ (fs = [(21, n)] ∧ tokIs T n wModule = false))
  | 0, g, mo, ms, ms', i, hi, hf, hg, hr => by omega
  | f + 1, 0, mo, ms, ms', i, hi, hf, hg, hr => by omega
  | f + 1, g + 1, mo, ms, ms', i, hi, hf, hg, hr => by
    have hle : n ≤ T.length := by omega
    have S := sim_cut hle
    have hcl := cut_len hle
    rw [pDesign, if_pos (by omega)] at hr
    have grow : ∀ (f mo : Nat) (ms : List Mo) (fs : Fs) (i : Nat), ∃ r, (pDesign T f mo ms fs i).1 = ms ++ r := by
      intro f
      induction f with
      | zero => intro mo ms fs i; exact ⟨[], by simp [pDesign]⟩
      | succ f ih =>
        intro mo ms fs i
        rw [pDesign]
        split
        · rcases pModule T mo fs i with ⟨x | ⟨q, n1⟩, fs1, mo1⟩
          · simp only []
            split
            · exact ⟨[], by simp⟩
            · exact ih _ _ _ _
          · simp only []
            obtain ⟨r, hr⟩ := ih mo1 (ms ++ [q]) fs1 n1
            exact ⟨q :: r, by rw [hr]; simp⟩
        · exact ⟨[], by simp⟩
    rcases hp : pModule T mo [] i with ⟨x | ⟨q, n1⟩, fs1, mo1⟩
    · rw [hp] at hr
      simp only [] at hr
      exfalso
      split at hr
      · have := congrArg (fun z => z.2.length) hr
        simp at this
      · have := pDesign_pre T f mo1 ms (fs1 ++ [x]) (pastMod T x.1 x.2)
        rw [hr] at this
        simp at this
    · rw [hp] at hr
      simp only [] at hr
      have hf1 : fs1 = [] := by
        have := pDesign_pre T f mo1 (ms ++ [q]) fs1 n1
        rw [hr] at this
        exact List.eq_nil_of_length_eq_zero (by simpa using this)
      subst hf1
      obtain ⟨r, hgr⟩ := grow f mo1 (ms ++ [q]) [] n1
      rw [hr] at hgr
      simp only at hgr
      obtain ⟨t1, t2⟩ := pModule_n hT hp
      rcases Nat.eq_or_lt_of_le hi with rfl | hi
      · refine ⟨[], q :: r, [], by simp, by rw [hgr]; simp, ?_, .inl ⟨rfl, t1⟩⟩
        rw [pDesign, if_neg (by omega)]
        simp
      · have hin : i < n1 := by
          have := (pModule_ok (T := T) (mo := mo) (n := i) (fs := []) (by omega) ⟨fun x hx => (by cases hx), List.Pairwise.nil⟩ (by simp)).2.2.2.1 q n1
          rw [hp] at this
          exact this rfl
        have hmo : mo ≠ 16 ∧ mo1 = mo + 1 := by
          have hp' := hp
          unfold pModule at hp'
          rw [if_pos t1] at hp'
          by_cases c2 : mo = 16
          · rw [if_pos c2] at hp'
            simp at hp'
          · rw [if_neg c2] at hp'
            refine ⟨c2, ?_⟩
            rcases hh : pHead T (i + 1) with y | ⟨q', n1'⟩
            · rw [hh] at hp'
              simp at hp'
            · rw [hh] at hp'
              simp only [] at hp'
              rcases hb : pBody T (T.length + 1) 0 [] [] n1' with ⟨y | ⟨is, n2⟩, fs2⟩
              · rw [hb] at hp'
                simp at hp'
              · rw [hb] at hp'
                simp only [Prod.mk.injEq] at hp'
                exact hp'.2.2.symm
        by_cases c : n < n1
        · refine ⟨[], q :: r, [(21, n)], by simp, by rw [hgr]; simp, ?_, .inr ⟨rfl, t2 n (by omega) c⟩⟩
          rw [pDesign, if_pos (by omega), pModule_c hle hp hi c]
          simp
        · have k1 := (pModule_s S (mo' := mo) hp rfl (by omega) hmo.1).2
          obtain ⟨new, rest, fs, e0, e1, e2, e3⟩ := pDesign_c hn f g (mo + 1) (ms ++ [q]) ms' n1 (by omega) (by omega) (by omega) (by rw [← hmo.2]; exact hr)
          refine ⟨q :: new, rest, fs, e0, by rw [e1]; simp, ?_, e3⟩
          rw [pDesign, if_pos (by omega), show pModule (T.take n) mo [] i = (.ok (q, n1), [], mo + 1) from k1]
          simp only []
          rw [e2]
          simp
end

/-- a text without faults, cut off ahead of its token n -/
theorem parse_cuts {l : List UInt8} {a : List Mo} (hl : l.length ≤ 20000) (h : parseOut l = (a, [])) {T : List LexM.Tk} {e : Nat} (hT : lexOut l = (T, 0, e)) {n : Nat} {t : LexM.Tk} (ht : T[n]? = some t) :
    t.pos ≤ l.length ∧ ∃ b rest fs, rest ≠ [] ∧ a = b ++ rest ∧ parseOut (l.take t.pos) = (b, fs) ∧ ((fs = [] ∧ t.text = wModule) ∨ (fs = [(21, t.pos)] ∧ t.text ≠ wModule)) := by
  obtain ⟨T', e1, e2, d1⟩ := parse_clear hl h
  rw [hT] at e2
  simp only [Prod.mk.injEq] at e2
  obtain ⟨rfl, _, rfl⟩ := e2
  have hcut := LexM.lex_cut l.length l 0 T none n t (Nat.le_refl _) e1 ht
  obtain ⟨_, c2, c3, _⟩ := hcut
  rw [Nat.sub_zero] at c2 c3
  have hnl : n < T.length := (List.getElem?_eq_some_iff.1 ht).1
  have hnum : NumOk T := fun k hk => by
    unfold kindIs at hk
    rcases hq : T[k]? with _ | x
    · rw [hq] at hk; simp at hk
    · rw [hq] at hk
      have hk2 : x.kind = 2 := by simpa using hk
      have hown := LexM.lex_own l.length l 0 (Nat.le_refl _) x
      rw [e1] at hown
      obtain ⟨c, r, hc, h1, h2, h3, h4⟩ := LexM.own_kind (hown (List.mem_of_getElem? hq))
      unfold tokIs textAt
      rw [hq]
      have : x.text ≠ wModule := fun e => by
        rw [e] at hc
        have hc1 : c = 109 := by
          have := congrArg List.head? hc
          simp [wModule] at this
          exact this.symm
        rw [hk2, hc1] at h2
        simp at h2
        exact absurd h2 (by decide)
      simpa using this
  obtain ⟨new, rest, fs, q0, q1, q2, q3⟩ := pDesign_c hnum hnl (T.length + 1) ((T.take n).length + 1) 0 [] a 0 (Nat.zero_le _) (by omega) (by rw [cut_len (by omega)]; omega) d1
  have hlx : lexOut (l.take t.pos) = (T.take n, 0, 0) := by
    unfold lexOut
    rw [if_neg (by simp; omega), c3]
  have htk : tokIs T n wModule = true ↔ t.text = wModule := by
    unfold tokIs textAt
    rw [ht]
    simp
  refine ⟨by omega, new, rest, fs.map (fun x => (x.1, pl (T.take n) (l.take t.pos).length x.2)), q0, by simpa using q1, ?_, ?_⟩
  · unfold parseOut
    rw [hlx]
    simp only [ne_eq, not_true_eq_false, if_false, q2]
    simp
  · rcases q3 with ⟨rfl, h3⟩ | ⟨rfl, h3⟩
    · exact .inl ⟨rfl, htk.1 h3⟩
    · refine .inr ⟨?_, fun h5 => by rw [htk.2 h5] at h3; cases h3⟩
      simp only [List.map_cons, List.map_nil]
      unfold pl
      rw [if_neg (by rw [cut_len (by omega)]; omega), List.length_take, Nat.min_eq_left (by omega)]
end Go.Proofs.YtccjbpghpoblhaaDoor

