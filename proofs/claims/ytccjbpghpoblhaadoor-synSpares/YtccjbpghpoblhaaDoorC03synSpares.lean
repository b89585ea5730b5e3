/-
  WHICH WORDS STAND WHERE: what items and heads pass over. Plain mathematics.
-/
import Derived.Test.YtccjbpghpoblhaaDoorC02synSpares
namespace Go.Proofs.YtccjbpghpoblhaaDoor

/-- the signs and words that heads pass over, and items between their first word and their last sign -/
def okW : List (List UInt8) := [[58], [61], [91], [93], [40], [41], [44], [125], [123], [39], [43], [46], [126], [63], [62], [60], [97, 110, 121], [97, 108, 108], [112, 97, 115, 116], [97, 116], [105, 102], [105, 110], [111, 117, 116], [124], [94], [38], [61, 61], [33, 61], [60, 61], [45], [42]]
/-- a word that is none of these, no name and no number -/
structure Wd (T : List LexM.Tk) (wd : List UInt8) : Prop where
  ok : ∀ l ∈ okW, l ≠ wd
  name : ∀ k, kindIs T k 1 = true → isWord (tokAt T k).text = false → tokIs T k wd = false
  num : ∀ k, kindIs T k 2 = true → tokIs T k wd = false
/-- no token from i to j is that word -/
def NM (T : List LexM.Tk) (wd : List UInt8) (i j : Nat) : Prop := ∀ k, i ≤ k → k < j → tokIs T k wd = false
theorem NM.trans {T : List LexM.Tk} {wd : List UInt8} {i k j : Nat} (a : NM T wd i k) (b : NM T wd k j) : NM T wd i j := fun x hx hj => by
  rcases Nat.lt_or_ge x k with h | h
  · exact a x hx h
  · exact b x h hj
theorem NM.nil (T : List LexM.Tk) (wd : List UInt8) (i : Nat) : NM T wd i i := fun x hx hj => by omega
theorem nm_tok {T : List LexM.Tk} {wd : List UInt8} {i : Nat} {l : List UInt8} (h : tokIs T i l = true) (hl : l ≠ wd) : NM T wd i (i + 1) := fun x hx hj => by
  obtain rfl : x = i := by omega
  unfold tokIs at h ⊢
  have h1 : textAt T x = some l := by simpa using h
  rw [h1]
  simpa using hl

section
variable {T : List LexM.Tk} {wd : List UInt8} (hT : Wd T wd)
theorem pNeed_n {i j : Nat} {l : List UInt8} {u : Unit} (hr : pNeed T i l = .ok (u, j)) (hl : l ≠ wd) : NM T wd i j := by
  unfold pNeed at hr
  split at hr
  · rename_i c
    obtain ⟨_, rfl⟩ := ok_inv hr
    exact nm_tok c hl
  · cases hr
include hT
theorem pName_n {i j : Nat} {l : List UInt8} (hr : pName T i = .ok (l, j)) : NM T wd i j := by
  unfold pName at hr
  split at hr
  · rename_i c
    obtain ⟨_, rfl⟩ := ok_inv hr
    simp only [Bool.and_eq_true, Bool.not_eq_true'] at c
    intro x hx hj
    obtain rfl : x = i := by omega
    exact hT.name x c.1 c.2
  · cases hr
theorem pNumber_n {i j k : Nat} (hr : pNumber T i = .ok (k, j)) : NM T wd i j := by
  unfold pNumber at hr
  split at hr
  · rename_i c
    obtain ⟨_, rfl⟩ := ok_inv hr
    intro x hx hj
    obtain rfl : x = i := by omega
    exact hT.num x c
  · cases hr
theorem pSide_n {i j : Nat} {x : Dm} (hr : pSide T i = .ok (x, j)) : NM T wd i j := by
  unfold pSide at hr
  split at hr
  · rcases hq : pNumber T i with y | ⟨k, q⟩
    · rw [hq] at hr; cases hr
    · rw [hq] at hr
      obtain ⟨_, rfl⟩ := ok_inv hr
      exact pNumber_n hT hq
  · rcases hq : pName T i with y | ⟨k, q⟩
    · rw [hq] at hr; cases hr
    · rw [hq] at hr
      obtain ⟨_, rfl⟩ := ok_inv hr
      exact pName_n hT hq
theorem pDim_n {i j : Nat} {x : Dm} (hr : pDim T i = .ok (x, j)) : NM T wd i j := by
  unfold pDim at hr
  rcases hq : pSide T i with y | ⟨e, q⟩
  · rw [hq] at hr; cases hr
  · rw [hq] at hr
    simp only [] at hr
    split at hr
    · rename_i c
      rcases hq2 : pNumber T (q + 1) with y | ⟨k, q2⟩
      · rw [hq2] at hr; cases hr
      · rw [hq2] at hr
        obtain ⟨_, rfl⟩ := ok_inv hr
        exact (pSide_n hT hq).trans ((nm_tok c.2 (hT.ok _ (by decide))).trans (pNumber_n hT hq2))
    · obtain ⟨_, rfl⟩ := ok_inv hr
      exact pSide_n hT hq
omit hT in
theorem pMk_n {a op i j : Nat} {ks : List Ex} {t : Ex} (hr : pMk a op ks i = .ok (t, j)) : NM T wd i j := by
  rw [pMk_ok hr]; exact NM.nil _ _ _
/-- expressions pass over no such word -/
def NMe (T : List LexM.Tk) (wd : List UInt8) (pe : Nat → PR Ex) : Prop := ∀ i t j, pe i = .ok (t, j) → NM T wd i j
variable {pe : Nat → PR Ex} (hp : NMe T wd pe)
include hp
theorem pBr_n {i j : Nat} {t : Ex} (hr : pBr T pe i = .ok (t, j)) : NM T wd i j := by
  unfold pBr at hr
  obtain ⟨_, n1, h1, hr⟩ := thn_inv hr
  obtain ⟨_, n2, h2, hr⟩ := thn_inv hr
  obtain ⟨_, n3, h3, hr⟩ := thn_inv hr
  obtain ⟨_, rfl⟩ := ok_inv hr
  exact (pNeed_n h1 (hT.ok _ (by decide))).trans ((hp _ _ _ h2).trans (pNeed_n h3 (hT.ok _ (by decide))))
theorem pCat_n {a i j : Nat} {t : Ex} (hr : pCat T pe a i = .ok (t, j)) : NM T wd i j := by
  unfold pCat at hr
  obtain ⟨_, n1, h1, hr⟩ := thn_inv hr
  obtain ⟨_, n2, h2, hr⟩ := thn_inv hr
  obtain ⟨_, n3, h3, hr⟩ := thn_inv hr
  obtain ⟨_, n4, h4, hr⟩ := thn_inv hr
  exact (hp _ _ _ h1).trans ((pNeed_n h2 (hT.ok _ (by decide))).trans ((hp _ _ _ h3).trans ((pNeed_n h4 (hT.ok _ (by decide))).trans (pMk_n hr))))
theorem pMem_n {a i j : Nat} {t : Ex} (hr : pMem T pe a i = .ok (t, j)) : NM T wd i j := by
  unfold pMem at hr
  obtain ⟨_, n1, h1, hr⟩ := thn_inv hr
  obtain ⟨_, n2, h2, hr⟩ := thn_inv hr
  obtain ⟨_, n3, h3, hr⟩ := thn_inv hr
  obtain ⟨_, n4, h4, hr⟩ := thn_inv hr
  obtain ⟨_, n5, h5, hr⟩ := thn_inv hr
  obtain ⟨_, n6, h6, hr⟩ := thn_inv hr
  obtain ⟨_, rfl⟩ := ok_inv hr
  exact (pNeed_n h1 (hT.ok _ (by decide))).trans ((pName_n hT h2).trans ((pNeed_n h3 (hT.ok _ (by decide))).trans ((hp _ _ _ h4).trans ((pNeed_n h5 (hT.ok _ (by decide))).trans (pMk_n h6)))))
omit hp in
theorem pLeaf_n {i j : Nat} {t : Ex} (hr : pLeaf T i = .ok (t, j)) : NM T wd i j := by
  unfold pLeaf at hr
  obtain ⟨x, n1, h1, hr⟩ := thn_inv hr
  split at hr
  · obtain ⟨_, n2, h2, hr⟩ := thn_inv hr
    obtain ⟨_, n3, h3, hr⟩ := thn_inv hr
    obtain ⟨_, rfl⟩ := ok_inv hr
    exact (pSide_n hT h1).trans ((pNeed_n h2 (hT.ok _ (by decide))).trans (pSide_n hT h3))
  · split at hr
    · rename_i c
      obtain ⟨_, n2, h2, hr⟩ := thn_inv hr
      obtain ⟨_, rfl⟩ := ok_inv hr
      exact (pSide_n hT h1).trans ((nm_tok c (hT.ok _ (by decide))).trans (pName_n hT h2))
    · obtain ⟨_, rfl⟩ := ok_inv hr
      exact pSide_n hT h1
theorem pPrim_n {i j : Nat} {t : Ex} (hr : pPrim T pe i = .ok (t, j)) : NM T wd i j := by
  unfold pPrim at hr
  split at hr
  · exact pBr_n hT hp hr
  split at hr
  · rename_i c; exact (nm_tok c (hT.ok _ (by decide))).trans (pCat_n hT hp hr)
  split at hr
  · rename_i c
    obtain ⟨_, n1, h1, hr⟩ := thn_inv hr
    exact (nm_tok c (hT.ok _ (by decide))).trans ((pBr_n hT hp h1).trans (pMk_n hr))
  split at hr
  · rename_i c
    obtain ⟨_, n1, h1, hr⟩ := thn_inv hr
    exact (nm_tok c (hT.ok _ (by decide))).trans ((pBr_n hT hp h1).trans (pMk_n hr))
  split at hr
  · rename_i c
    obtain ⟨_, n1, h1, hr⟩ := thn_inv hr
    exact (nm_tok c (hT.ok _ (by decide))).trans ((pBr_n hT hp h1).trans (pMk_n hr))
  split at hr
  · rename_i c; exact (nm_tok c (hT.ok _ (by decide))).trans (pMem_n hT hp hr)
  · exact pLeaf_n hT hr
omit hp in
theorem pSl_n : ∀ (f : Nat) (u : Ex) (i j : Nat) (t : Ex), pSl T f u i = .ok (t, j) → NM T wd i j
  | 0, u, i, j, t, hr => by obtain ⟨_, rfl⟩ := ok_inv hr; exact NM.nil _ _ _
  | f + 1, u, i, j, t, hr => by
    rw [pSl] at hr
    split at hr
    · rename_i c
      obtain ⟨hi, n1, h1, hr⟩ := thn_inv hr
      obtain ⟨lo, n2, h2, hr⟩ := thn_inv hr
      obtain ⟨_, n3, h3, hr⟩ := thn_inv hr
      obtain ⟨u', n4, h4, hr⟩ := thn_inv hr
      have e2 : NM T wd n1 n2 := by
        split at h2
        · rename_i c2; exact (nm_tok c2 (hT.ok _ (by decide))).trans (pDim_n hT h2)
        · obtain ⟨_, rfl⟩ := ok_inv h2; exact NM.nil _ _ _
      exact (nm_tok c (hT.ok _ (by decide))).trans ((pDim_n hT h1).trans (e2.trans ((pNeed_n h3 (hT.ok _ (by decide))).trans ((pMk_n h4).trans (pSl_n f _ _ _ _ hr)))))
    · obtain ⟨_, rfl⟩ := ok_inv hr; exact NM.nil _ _ _
theorem pPost_n {i j : Nat} {t : Ex} (hr : pPost T pe i = .ok (t, j)) : NM T wd i j := by
  unfold pPost at hr
  obtain ⟨_, n1, h1, hr⟩ := thn_inv hr
  exact (pPrim_n hT hp h1).trans (pSl_n hT _ _ _ _ _ hr)
theorem pUn_n : ∀ (f i j : Nat) (t : Ex), pUn T pe f i = .ok (t, j) → NM T wd i j
  | 0, i, j, t, hr => pPost_n hT hp hr
  | f + 1, i, j, t, hr => by
    rw [pUn] at hr
    split at hr
    · rename_i c
      obtain ⟨_, n1, h1, hr⟩ := thn_inv hr
      exact (nm_tok c (hT.ok _ (by decide))).trans ((pUn_n f _ _ _ h1).trans (pMk_n hr))
    · exact pPost_n hT hp hr
omit hp in
theorem opOf_n {i : Nat} (h : 1 ≤ (opOf T i).1) : NM T wd i (i + 1) := by
  unfold opOf at h
  split at h
  · rename_i t ht
    have h0 := List.find?_some ht
    have h1 : tokIs T i t.1 = true := h0
    have h2 := List.mem_of_find?_eq_some ht
    have : ∀ x ∈ opTab, x.1 ∈ okW := by decide
    exact nm_tok h1 (hT.ok _ (this t h2))
  · simp at h
theorem pLoop_n : ∀ (f l q : Nat) (u : Ex) (i j : Nat) (t : Ex), 1 ≤ l → pLoop T pe f l q u i = .ok (t, j) → NM T wd i j
  | 0, l, q, u, i, j, t, hl, hr => by obtain ⟨_, rfl⟩ := ok_inv hr; exact NM.nil _ _ _
  | f + 1, l, q, u, i, j, t, hl, hr => by
    rw [pLoop] at hr
    split at hr
    · obtain ⟨_, rfl⟩ := ok_inv hr; exact NM.nil _ _ _
    · rename_i c
      obtain ⟨r0, n1, h1, hr⟩ := thn_inv hr
      obtain ⟨r, n2, h2, hr⟩ := thn_inv hr
      obtain ⟨t', n3, h3, hr⟩ := thn_inv hr
      exact (opOf_n hT (by omega)).trans ((pUn_n hT hp _ _ _ _ h1).trans ((pLoop_n f _ _ _ _ _ _ (by omega) h2).trans ((pMk_n h3).trans (pLoop_n f _ _ _ _ _ _ hl hr))))
theorem pBet_n {f l i j : Nat} {t : Ex} (hl : 1 ≤ l) (hr : pBet T pe f l i = .ok (t, j)) : NM T wd i j := by
  unfold pBet at hr
  obtain ⟨_, n1, h1, hr⟩ := thn_inv hr
  exact (pUn_n hT hp _ _ _ _ h1).trans (pLoop_n hT hp _ _ _ _ _ _ _ hl hr)
end

section
variable {T : List LexM.Tk} {wd : List UInt8} (hT : Wd T wd)
include hT
theorem pEx_n : ∀ f, NMe T wd (pEx T f)
  | 0 => fun i t j hr => by cases hr
  | f + 1 => fun i t j hr => by
    have hp := pEx_n f
    rw [pEx] at hr
    obtain ⟨a, n1, h1, hr⟩ := thn_inv hr
    have e1 := pBet_n hT hp (Nat.le_refl 1) h1
    split at hr
    · rename_i c
      obtain ⟨_, n2, h2, hr⟩ := thn_inv hr
      obtain ⟨_, n3, h3, hr⟩ := thn_inv hr
      obtain ⟨_, n4, h4, hr⟩ := thn_inv hr
      exact e1.trans ((nm_tok c (hT.ok _ (by decide))).trans ((hp _ _ _ h2).trans ((pNeed_n h3 (hT.ok _ (by decide))).trans ((hp _ _ _ h4).trans (pMk_n hr)))))
    · obtain ⟨_, rfl⟩ := ok_inv hr
      exact e1
theorem pExpr_n {i j : Nat} {t : Ex} (hr : pExpr T i = .ok (t, j)) : NM T wd i j := pEx_n hT _ _ _ _ hr
/-- an element of a list passes over no such word -/
def NMq {σ : Type} (T : List LexM.Tk) (wd : List UInt8) (q : σ → Nat → PR σ) : Prop := ∀ s i s' j, q s i = .ok (s', j) → NM T wd i j
theorem pMore_n {σ : Type} {q : σ → Nat → PR σ} (hq : NMq T wd q) : ∀ (f : Nat) (s : σ) (i : Nat) (s' : σ) (j : Nat), pMore T q f s i = .ok (s', j) → NM T wd i j
  | 0, s, i, s', j, hr => by
    rw [pMore] at hr
    split at hr
    · cases hr
    · obtain ⟨_, rfl⟩ := ok_inv hr; exact NM.nil _ _ _
  | f + 1, s, i, s', j, hr => by
    rw [pMore] at hr
    split at hr
    · rename_i c
      obtain ⟨s1, n1, h1, hr⟩ := thn_inv hr
      exact (nm_tok c (hT.ok _ (by decide))).trans ((hq _ _ _ _ h1).trans (pMore_n hq f _ _ _ _ hr))
    · obtain ⟨_, rfl⟩ := ok_inv hr; exact NM.nil _ _ _
theorem pList_n {σ : Type} {q : σ → Nat → PR σ} (hq : NMq T wd q) {most : Nat} {s s' : σ} {i j : Nat} (hr : pList T q most s i = .ok (s', j)) : NM T wd i j := by
  unfold pList at hr
  obtain ⟨s1, n1, h1, hr⟩ := thn_inv hr
  exact (hq _ _ _ _ h1).trans (pMore_n hT hq _ _ _ _ _ hr)
theorem pPortR_n {b : Bool} {i j : Nat} {x : Bool × List UInt8 × Dm} (hr : pPortR T b i = .ok (x, j)) : NM T wd i j := by
  unfold pPortR at hr
  obtain ⟨_, n1, h1, hr⟩ := thn_inv hr
  obtain ⟨_, n2, h2, hr⟩ := thn_inv hr
  obtain ⟨_, n3, h3, hr⟩ := thn_inv hr
  obtain ⟨_, rfl⟩ := ok_inv hr
  exact (pName_n hT h1).trans ((pNeed_n h2 (hT.ok _ (by decide))).trans (pDim_n hT h3))
theorem qPort_n : NMq T wd (qPort T) := fun s i s' j hr => by
  unfold qPort pPort at hr
  obtain ⟨_, n1, h1, hr⟩ := thn_inv hr
  obtain ⟨_, rfl⟩ := ok_inv hr
  split at h1
  · rename_i c; exact (nm_tok c (hT.ok _ (by decide))).trans (pPortR_n hT h1)
  · obtain ⟨_, n2, h2, h1⟩ := thn_inv h1
    exact (pNeed_n h2 (hT.ok _ (by decide))).trans (pPortR_n hT h1)
theorem qParam_n : NMq T wd (qParam T) := fun s i s' j hr => by
  unfold qParam at hr
  obtain ⟨_, n1, h1, hr⟩ := thn_inv hr
  obtain ⟨_, rfl⟩ := ok_inv hr
  exact pName_n hT h1
theorem qArg_n : NMq T wd (qArg T) := fun s i s' j hr => by
  unfold qArg at hr
  obtain ⟨_, n1, h1, hr⟩ := thn_inv hr
  obtain ⟨_, rfl⟩ := ok_inv hr
  exact pDim_n hT h1
theorem qBind_n : NMq T wd (qBind T) := fun s i s' j hr => by
  unfold qBind pBind at hr
  obtain ⟨_, n1, h1, hr⟩ := thn_inv hr
  obtain ⟨_, rfl⟩ := ok_inv hr
  obtain ⟨_, n2, h2, h1⟩ := thn_inv h1
  obtain ⟨_, n3, h3, h1⟩ := thn_inv h1
  obtain ⟨_, n4, h4, h1⟩ := thn_inv h1
  obtain ⟨_, rfl⟩ := ok_inv h1
  exact (pName_n hT h2).trans ((pNeed_n h3 (hT.ok _ (by decide))).trans (pExpr_n hT h4))
theorem restOf_n {F i j : Nat} {x x' : It} (hr : restOf F T x i = .ok (x', j)) : NM T wd i j := by
  unfold restOf at hr
  split at hr
  · unfold pWire at hr
    obtain ⟨_, n1, h1, hr⟩ := thn_inv hr
    obtain ⟨_, n2, h2, hr⟩ := thn_inv hr
    obtain ⟨_, n3, h3, hr⟩ := thn_inv hr
    obtain ⟨_, n4, h4, hr⟩ := thn_inv hr
    obtain ⟨_, rfl⟩ := ok_inv hr
    exact (pNeed_n h1 (hT.ok _ (by decide))).trans ((pDim_n hT h2).trans ((pNeed_n h3 (hT.ok _ (by decide))).trans (pExpr_n hT h4)))
  split at hr
  · unfold pReg at hr
    obtain ⟨_, n1, h1, hr⟩ := thn_inv hr
    obtain ⟨_, n2, h2, hr⟩ := thn_inv hr
    obtain ⟨_, n3, h3, hr⟩ := thn_inv hr
    obtain ⟨_, n4, h4, hr⟩ := thn_inv hr
    obtain ⟨_, rfl⟩ := ok_inv hr
    exact (pNeed_n h1 (hT.ok _ (by decide))).trans ((pDim_n hT h2).trans ((pNeed_n h3 (hT.ok _ (by decide))).trans (pDim_n hT h4)))
  split at hr
  · unfold pMemo at hr
    obtain ⟨_, n1, h1, hr⟩ := thn_inv hr
    obtain ⟨_, n2, h2, hr⟩ := thn_inv hr
    obtain ⟨_, n3, h3, hr⟩ := thn_inv hr
    obtain ⟨_, n4, h4, hr⟩ := thn_inv hr
    obtain ⟨_, n5, h5, hr⟩ := thn_inv hr
    obtain ⟨_, rfl⟩ := ok_inv hr
    exact (pNeed_n h1 (hT.ok _ (by decide))).trans ((pDim_n hT h2).trans ((pNeed_n h3 (hT.ok _ (by decide))).trans ((pNeed_n h4 (hT.ok _ (by decide))).trans (pDim_n hT h5))))
  split at hr
  · unfold pInst pArgs pBinds at hr
    obtain ⟨_, n1, h1, hr⟩ := thn_inv hr
    obtain ⟨_, n2, h2, hr⟩ := thn_inv hr
    obtain ⟨_, n3, h3, hr⟩ := thn_inv hr
    obtain ⟨_, n4, h4, hr⟩ := thn_inv hr
    obtain ⟨_, n5, h5, hr⟩ := thn_inv hr
    obtain ⟨_, rfl⟩ := ok_inv hr
    have e2 : NM T wd n1 n2 := by
      split at h2
      · rename_i c
        obtain ⟨_, q1, g1, h2⟩ := thn_inv h2
        obtain ⟨_, q2, g2, h2⟩ := thn_inv h2
        obtain ⟨_, rfl⟩ := ok_inv h2
        exact (nm_tok c (hT.ok _ (by decide))).trans ((pList_n hT (qArg_n hT) g1).trans (pNeed_n g2 (hT.ok _ (by decide))))
      · obtain ⟨_, rfl⟩ := ok_inv h2; exact NM.nil _ _ _
    have e4 : NM T wd n3 n4 := by
      split at h4
      · obtain ⟨_, rfl⟩ := ok_inv h4; exact NM.nil _ _ _
      · exact pList_n hT (qBind_n hT) h4
    exact (pName_n hT h1).trans (e2.trans ((pNeed_n h3 (hT.ok _ (by decide))).trans (e4.trans (pNeed_n h5 (hT.ok _ (by decide))))))
  split at hr
  · unfold pProp at hr
    obtain ⟨_, n1, h1, hr⟩ := thn_inv hr
    obtain ⟨_, n2, h2, hr⟩ := thn_inv hr
    obtain ⟨_, rfl⟩ := ok_inv hr
    exact (pNeed_n h1 (hT.ok _ (by decide))).trans (pExpr_n hT h2)
  split at hr
  · unfold pValue at hr
    obtain ⟨_, n1, h1, hr⟩ := thn_inv hr
    obtain ⟨_, n2, h2, hr⟩ := thn_inv hr
    obtain ⟨_, rfl⟩ := ok_inv hr
    exact (pNeed_n h1 (hT.ok _ (by decide))).trans (pExpr_n hT h2)
  · unfold pPut at hr
    obtain ⟨_, n1, h1, hr⟩ := thn_inv hr
    obtain ⟨_, n2, h2, hr⟩ := thn_inv hr
    obtain ⟨_, n3, h3, hr⟩ := thn_inv hr
    obtain ⟨_, n4, h4, hr⟩ := thn_inv hr
    obtain ⟨_, n5, h5, hr⟩ := thn_inv hr
    obtain ⟨_, n6, h6, hr⟩ := thn_inv hr
    obtain ⟨_, n7, h7, hr⟩ := thn_inv hr
    obtain ⟨_, rfl⟩ := ok_inv hr
    exact (pNeed_n h1 (hT.ok _ (by decide))).trans ((pExpr_n hT h2).trans ((pNeed_n h3 (hT.ok _ (by decide))).trans ((pNeed_n h4 (hT.ok _ (by decide))).trans ((pExpr_n hT h5).trans ((pNeed_n h6 (hT.ok _ (by decide))).trans (pExpr_n hT h7))))))
theorem pHead_n {i j : Nat} {x : Mh} (hr : pHead T i = .ok (x, j)) : NM T wd i j := by
  unfold pHead at hr
  obtain ⟨l, n1, h1, hr⟩ := thn_inv hr
  obtain ⟨m1, n4, h4, hr⟩ := thn_inv hr
  obtain ⟨_, n5, h5, hr⟩ := thn_inv hr
  obtain ⟨m2, n6, h6, hr⟩ := thn_inv hr
  obtain ⟨_, n7, h7, hr⟩ := thn_inv hr
  obtain ⟨_, n8, h8, hr⟩ := thn_inv hr
  obtain ⟨_, rfl⟩ := ok_inv hr
  have e4 : NM T wd n1 n4 := by
    split at h4
    · rename_i c
      obtain ⟨_, q1, g1, h4⟩ := thn_inv h4
      obtain ⟨_, q2, g2, h4⟩ := thn_inv h4
      obtain ⟨_, rfl⟩ := ok_inv h4
      exact (nm_tok c (hT.ok _ (by decide))).trans ((pList_n hT (qParam_n hT) g1).trans (pNeed_n g2 (hT.ok _ (by decide))))
    · obtain ⟨_, rfl⟩ := ok_inv h4; exact NM.nil _ _ _
  have e6 : NM T wd n5 n6 := by
    split at h6
    · obtain ⟨_, rfl⟩ := ok_inv h6; exact NM.nil _ _ _
    · exact pList_n hT (qPort_n hT) h6
  exact (pName_n hT h1).trans (e4.trans ((pNeed_n h5 (hT.ok _ (by decide))).trans (e6.trans ((pNeed_n h7 (hT.ok _ (by decide))).trans (pNeed_n h8 (hT.ok _ (by decide)))))))
end

section
variable {T : List LexM.Tk} {wd : List UInt8} (hT : Wd T wd)
include hT
/-- between an item's first word and its last sign -/
theorem pItem_n {k i j : Nat} {x : It} (hr : pItem T k i = .ok (x, j)) : i + 1 < j ∧ NM T wd (i + 1) (j - 1) ∧ tokIs T (j - 1) [59] = true := by
  unfold pItem at hr
  split at hr
  · cases hr
  · split at hr
    · cases hr
    · rename_i t kind F hrule
      split at hr
      · cases hr
      · unfold pItemR at hr
        obtain ⟨nm, n1, h1, hr⟩ := thn_inv hr
        obtain ⟨_, n2, h2, hr⟩ := thn_inv hr
        obtain ⟨_, n3, h3, hr⟩ := thn_inv hr
        obtain ⟨_, rfl⟩ := ok_inv hr
        have l1 := pName_ok h1; have l3 := pNeed_ok h3
        have l2 : n1 ≤ n2 := by
          have g := restOf_g (T := T) (b := n1) (n := n1) (F := F) (i := itNew kind nm) (Nat.le_refl _) (by
            unfold pName at h1
            split at h1
            · rename_i c
              simp only [Bool.and_eq_true] at c
              have := kindIs_lt c.1
              omega
            · cases h1)
          rw [h2] at g
          exact g.1
        have e : n3 - 1 = n2 := by omega
        refine ⟨by omega, ?_, ?_⟩
        · rw [e]
          exact (pName_n hT h1).trans (restOf_n hT h2)
        · rw [e]
          unfold pNeed at h3
          split at h3
          · rename_i c; exact c
          · cases h3
end
end Go.Proofs.YtccjbpghpoblhaaDoor

