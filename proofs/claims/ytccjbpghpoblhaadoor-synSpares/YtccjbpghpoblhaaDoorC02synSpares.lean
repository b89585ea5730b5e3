/-
  WHAT IS READ HANGS ON THE TOKENS THAT ARE READ: who reads from lo on and ends ahead of m reads other tokens likewise, if these stand there, moved by d. Plain mathematics.
-/
import Derived.Test.YtccjbpghpoblhaaDoorK32
namespace Go.Proofs.YtccjbpghpoblhaaDoor

def bare (t : LexM.Tk) : Nat × List UInt8 × Nat := (t.kind, t.text, t.n)
/-- the tokens up to m stand in U, moved by d, but for their places -/
structure Sim (T U : List LexM.Tk) (d lo m : Nat) : Prop where
  mt : m ≤ T.length
  mu : m + d ≤ U.length
  tk : ∀ k, lo ≤ k → k < m → U[k + d]?.map bare = T[k]?.map bare

section
variable {T U : List LexM.Tk} {d lo m : Nat} (h : Sim T U d lo m)
include h
theorem sim_at {k : Nat} (hk : k < m) (hlo : lo ≤ k := by omega) : ∃ t u, T[k]? = some t ∧ U[k + d]? = some u ∧ u.kind = t.kind ∧ u.text = t.text ∧ u.n = t.n := by
  have h1 := h.mt
  have h2 := h.mu
  refine ⟨T[k]'(by omega), U[k + d]'(by omega), List.getElem?_eq_getElem (by omega), List.getElem?_eq_getElem (by omega), ?_⟩
  have h3 := h.tk k hlo hk
  rw [List.getElem?_eq_getElem (show k < T.length by omega), List.getElem?_eq_getElem (show k + d < U.length by omega)] at h3
  simpa [bare] using h3
theorem tokIs_s {k : Nat} (hk : k < m) (l : List UInt8) (hlo : lo ≤ k := by omega) : tokIs U (k + d) l = tokIs T k l := by
  obtain ⟨t, u, h1, h2, h3, h4, h5⟩ := sim_at h hk hlo
  unfold tokIs textAt
  rw [h1, h2, Option.map_some, Option.map_some, h4]
theorem kindIs_s {k : Nat} (hk : k < m) (l : Nat) (hlo : lo ≤ k := by omega) : kindIs U (k + d) l = kindIs T k l := by
  obtain ⟨t, u, h1, h2, h3, h4, h5⟩ := sim_at h hk hlo
  unfold kindIs
  rw [h1, h2, Option.map_some, Option.map_some, h3]
theorem text_s {k : Nat} (hk : k < m) (hlo : lo ≤ k := by omega) : (tokAt U (k + d)).text = (tokAt T k).text := by
  obtain ⟨t, u, h1, h2, h3, h4, h5⟩ := sim_at h hk hlo
  rw [tokAt_some h1, tokAt_some h2, h4]
theorem num_s {k : Nat} (hk : k < m) (hlo : lo ≤ k := by omega) : (tokAt U (k + d)).n = (tokAt T k).n := by
  obtain ⟨t, u, h1, h2, h3, h4, h5⟩ := sim_at h hk hlo
  rw [tokAt_some h1, tokAt_some h2, h5]
theorem opOf_s {k : Nat} (hk : k < m) (hlo : lo ≤ k := by omega) : opOf U (k + d) = opOf T k := by
  unfold opOf
  have : (fun t : List UInt8 × Nat × Nat => tokIs U (k + d) t.1) = fun t => tokIs T k t.1 := by funext t; exact tokIs_s h hk _ hlo
  rw [this]
theorem bk_s {k n : Nat} (hn : n < m) (hlo : lo ≤ n := by omega) : bk U k (n + d) = bk T k n := by
  have h1 := h.mt
  have h2 := h.mu
  unfold bk
  rw [text_s h hn hlo]
  have e1 : n + d ≠ U.length := by omega
  have e2 : n ≠ T.length := by omega
  by_cases hc : (ruleOf (tokAt T n).text).isSome = true ∧ k ≠ 64
  · rw [if_pos ⟨e1, hc⟩, if_pos ⟨e2, hc⟩]
  · rw [if_neg (fun x => hc x.2), if_neg (fun x => hc x.2)]

theorem pNeed_s {n j : Nat} {l : List UInt8} {u : Unit} (hr : pNeed T n l = .ok (u, j)) (hj : j ≤ m) (hlo : lo ≤ n := by omega) : pNeed U (n + d) l = .ok (u, j + d) := by
  unfold pNeed at hr ⊢
  split at hr
  · rename_i hT
    obtain ⟨rfl, rfl⟩ := ok_inv hr
    rw [tokIs_s h (by omega), if_pos hT]
    rw [show n + d + 1 = n + 1 + d by omega]
  · cases hr
theorem pNumber_s {n j k : Nat} (hr : pNumber T n = .ok (k, j)) (hj : j ≤ m) (hlo : lo ≤ n := by omega) : pNumber U (n + d) = .ok (k, j + d) := by
  unfold pNumber at hr ⊢
  split at hr
  · rename_i hT
    obtain ⟨rfl, rfl⟩ := ok_inv hr
    rw [kindIs_s h (by omega), if_pos hT, num_s h (by omega)]
    rw [show n + d + 1 = n + 1 + d by omega]
  · cases hr
theorem pName_s {n j : Nat} {l : List UInt8} (hr : pName T n = .ok (l, j)) (hj : j ≤ m) (hlo : lo ≤ n := by omega) : pName U (n + d) = .ok (l, j + d) := by
  unfold pName at hr ⊢
  split at hr
  · rename_i hT
    obtain ⟨rfl, rfl⟩ := ok_inv hr
    rw [kindIs_s h (by omega), text_s h (by omega), if_pos hT]
    rw [show n + d + 1 = n + 1 + d by omega]
  · cases hr
theorem pSide_s {n j : Nat} {x : Dm} (hr : pSide T n = .ok (x, j)) (hj : j ≤ m) (hlo : lo ≤ n := by omega) : pSide U (n + d) = .ok (x, j + d) := by
  have hlt := pSide_ok hr
  unfold pSide at hr ⊢
  rw [kindIs_s h (by omega)]
  split at hr
  · rename_i hT
    rw [if_pos hT]
    rcases hq : pNumber T n with y | ⟨k, q⟩
    · rw [hq] at hr; cases hr
    · rw [hq] at hr
      obtain ⟨rfl, rfl⟩ := ok_inv hr
      rw [pNumber_s h hq hj]
  · rename_i hT
    rw [if_neg hT]
    rcases hq : pName T n with y | ⟨k, q⟩
    · rw [hq] at hr; cases hr
    · rw [hq] at hr
      obtain ⟨rfl, rfl⟩ := ok_inv hr
      rw [pName_s h hq hj]
theorem pDim_s {n j : Nat} {x : Dm} (hr : pDim T n = .ok (x, j)) (hj : j < m) (hlo : lo ≤ n := by omega) : pDim U (n + d) = .ok (x, j + d) := by
  unfold pDim at hr ⊢
  rcases hq : pSide T n with y | ⟨e, q⟩
  · rw [hq] at hr; cases hr
  · rw [hq] at hr
    have lq := pSide_ok hq
    simp only [] at hr
    split at hr
    · rename_i hT
      rcases hq2 : pNumber T (q + 1) with y | ⟨k, q2⟩
      · rw [hq2] at hr; cases hr
      · rw [hq2] at hr
        obtain ⟨rfl, rfl⟩ := ok_inv hr
        have hlt := pNumber_ok hq2
        rw [pSide_s h hq (by omega)]
        simp only []
        rw [tokIs_s h (by omega), if_pos hT, show q + d + 1 = q + 1 + d by omega, pNumber_s h hq2 (by omega)]
    · rename_i hT
      obtain ⟨rfl, rfl⟩ := ok_inv hr
      rw [pSide_s h hq (by omega)]
      simp only []
      rw [tokIs_s h (by omega), if_neg hT]
omit h in
theorem pMk_s {a b op n j : Nat} {ks : List Ex} {t : Ex} (hr : pMk a op ks n = .ok (t, j)) : pMk b op ks (n + d) = .ok (t, j + d) := by
  unfold pMk at hr ⊢
  split at hr
  · rename_i hT
    obtain ⟨rfl, rfl⟩ := ok_inv hr
    rw [if_pos hT]
  · cases hr

/-- expressions from k on are read alike -/
def SimE (m d k : Nat) (pe pu : Nat → PR Ex) : Prop := ∀ n t j, k ≤ n → pe n = .ok (t, j) → j < m → pu (n + d) = .ok (t, j + d)
variable {k : Nat} {pe pu : Nat → PR Ex}
theorem pBr_s (hG : Goes pe) (hp : SimE m d k pe pu) {n j : Nat} {t : Ex} (hk : k ≤ n + 1) (hr : pBr T pe n = .ok (t, j)) (hj : j ≤ m) (hlo : lo ≤ n := by omega) : pBr U pu (n + d) = .ok (t, j + d) := by
  unfold pBr at hr ⊢
  obtain ⟨_, n1, h1, hr⟩ := thn_inv hr
  obtain ⟨t2, n2, h2, hr⟩ := thn_inv hr
  obtain ⟨_, n3, h3, hr⟩ := thn_inv hr
  obtain ⟨rfl, rfl⟩ := ok_inv hr
  have l1 := pNeed_ok h1; have l2 := hG _ _ _ h2; have l3 := pNeed_ok h3
  rw [pNeed_s h h1 (by omega), thn_ok, hp _ _ _ (by omega) h2 (by omega), thn_ok, pNeed_s h h3 hj, thn_ok]
theorem pCat_s (hG : Goes pe) (hp : SimE m d k pe pu) {a b n j : Nat} {t : Ex} (hk : k ≤ n) (hr : pCat T pe a n = .ok (t, j)) (hj : j ≤ m) (hlo : lo ≤ n := by omega) : pCat U pu b (n + d) = .ok (t, j + d) := by
  unfold pCat at hr ⊢
  obtain ⟨_, n1, h1, hr⟩ := thn_inv hr
  obtain ⟨_, n2, h2, hr⟩ := thn_inv hr
  obtain ⟨_, n3, h3, hr⟩ := thn_inv hr
  obtain ⟨_, n4, h4, hr⟩ := thn_inv hr
  have l1 := hG _ _ _ h1; have l2 := pNeed_ok h2; have l3 := hG _ _ _ h3; have l4 := pNeed_ok h4; have l5 := pMk_ok hr
  rw [hp _ _ _ hk h1 (by omega), thn_ok, pNeed_s h h2 (by omega), thn_ok, hp _ _ _ (by omega) h3 (by omega), thn_ok, pNeed_s h h4 (by omega), thn_ok]
  exact pMk_s hr
theorem pMem_s (hG : Goes pe) (hp : SimE m d k pe pu) {a b n j : Nat} {t : Ex} (hk : k ≤ n) (hr : pMem T pe a n = .ok (t, j)) (hj : j ≤ m) (hlo : lo ≤ n := by omega) : pMem U pu b (n + d) = .ok (t, j + d) := by
  unfold pMem at hr ⊢
  obtain ⟨_, n1, h1, hr⟩ := thn_inv hr
  obtain ⟨_, n2, h2, hr⟩ := thn_inv hr
  obtain ⟨_, n3, h3, hr⟩ := thn_inv hr
  obtain ⟨_, n4, h4, hr⟩ := thn_inv hr
  obtain ⟨_, n5, h5, hr⟩ := thn_inv hr
  obtain ⟨_, n6, h6, hr⟩ := thn_inv hr
  obtain ⟨rfl, rfl⟩ := ok_inv hr
  have l1 := pNeed_ok h1; have l2 := pName_ok h2; have l3 := pNeed_ok h3; have l4 := hG _ _ _ h4; have l5 := pNeed_ok h5; have l6 := pMk_ok h6
  rw [pNeed_s h h1 (by omega), thn_ok, pName_s h h2 (by omega), thn_ok, pNeed_s h h3 (by omega), thn_ok, hp _ _ _ (by omega) h4 (by omega), thn_ok, pNeed_s h h5 (by omega), thn_ok, pMk_s h6, thn_ok]
theorem pLeaf_s {n j : Nat} {t : Ex} (hr : pLeaf T n = .ok (t, j)) (hj : j < m) (hlo : lo ≤ n := by omega) : pLeaf U (n + d) = .ok (t, j + d) := by
  unfold pLeaf at hr ⊢
  obtain ⟨x, n1, h1, hr⟩ := thn_inv hr
  have l1 := pSide_ok h1
  split at hr
  · rename_i hT
    obtain ⟨_, n2, h2, hr⟩ := thn_inv hr
    obtain ⟨_, n3, h3, hr⟩ := thn_inv hr
    obtain ⟨rfl, rfl⟩ := ok_inv hr
    have l2 := pNeed_ok h2; have l3 := pSide_ok h3
    rw [pSide_s h h1 (by omega), thn_ok, tokIs_s h (by omega), if_pos hT, pNeed_s h h2 (by omega), thn_ok, pSide_s h h3 (by omega), thn_ok]
  · rename_i hT
    split at hr
    · rename_i hT2
      obtain ⟨_, n2, h2, hr⟩ := thn_inv hr
      obtain ⟨rfl, rfl⟩ := ok_inv hr
      have l2 := pName_ok h2
      rw [pSide_s h h1 (by omega), thn_ok, tokIs_s h (by omega), if_neg hT, tokIs_s h (by omega), if_pos hT2, show n1 + d + 1 = n1 + 1 + d by omega, pName_s h h2 (by omega), thn_ok]
    · rename_i hT2
      obtain ⟨rfl, rfl⟩ := ok_inv hr
      rw [pSide_s h h1 (by omega), thn_ok, tokIs_s h (by omega), if_neg hT, tokIs_s h (by omega), if_neg hT2]
theorem pPrim_s (hG : Goes pe) (hp : SimE m d k pe pu) {n j : Nat} {t : Ex} (hk : k ≤ n + 1) (hr : pPrim T pe n = .ok (t, j)) (hj : j < m) (hlo : lo ≤ n := by omega) : pPrim U pu (n + d) = .ok (t, j + d) := by
  have hlt := pPrim_ok hG hr
  unfold pPrim at hr ⊢
  rw [tokIs_s h (by omega), tokIs_s h (by omega), tokIs_s h (by omega), tokIs_s h (by omega), tokIs_s h (by omega), tokIs_s h (by omega)]
  have e1 : n + d + 1 = n + 1 + d := by omega
  split at hr
  · rename_i c1; rw [if_pos c1]; exact pBr_s h hG hp hk hr (by omega)
  rename_i c1
  rw [if_neg c1]
  split at hr
  · rename_i c2; rw [if_pos c2, e1]; exact pCat_s h hG hp hk hr (by omega)
  rename_i c2
  rw [if_neg c2]
  split at hr
  · rename_i c3
    obtain ⟨_, n1, h1, hr⟩ := thn_inv hr
    have l1 := pMk_ok hr
    rw [if_pos c3, e1, pBr_s h hG hp (by omega) h1 (by omega), thn_ok]; exact pMk_s hr
  rename_i c3
  rw [if_neg c3]
  split at hr
  · rename_i c3
    obtain ⟨_, n1, h1, hr⟩ := thn_inv hr
    have l1 := pMk_ok hr
    rw [if_pos c3, e1, pBr_s h hG hp (by omega) h1 (by omega), thn_ok]; exact pMk_s hr
  rename_i c3
  rw [if_neg c3]
  split at hr
  · rename_i c3
    obtain ⟨_, n1, h1, hr⟩ := thn_inv hr
    have l1 := pMk_ok hr
    rw [if_pos c3, e1, pBr_s h hG hp (by omega) h1 (by omega), thn_ok]; exact pMk_s hr
  rename_i c3
  rw [if_neg c3]
  split at hr
  · rename_i c4; rw [if_pos c4, e1]; exact pMem_s h hG hp hk hr (by omega)
  rename_i c4
  rw [if_neg c4]
  exact pLeaf_s h hr hj
theorem pSl_s : ∀ (f g : Nat) (u : Ex) (n j : Nat) (t : Ex), lo ≤ n → n ≤ m → T.length < n + f → U.length < n + d + g → pSl T f u n = .ok (t, j) → j < m → pSl U g u (n + d) = .ok (t, j + d)
  | 0, g, u, n, j, t, hlo, hn, hf, hg, hr, hj => by have := h.mt; omega
  | f + 1, 0, u, n, j, t, hlo, hn, hf, hg, hr, hj => by have := h.mu; omega
  | f + 1, g + 1, u, n, j, t, hlo, hn, hf, hg, hr, hj => by
    have hle := pSl_ok _ _ _ _ _ hr
    rw [pSl] at hr ⊢
    rw [tokIs_s h (by omega)]
    split at hr
    · rename_i c
      rw [if_pos c]
      obtain ⟨hi, n1, h1, hr⟩ := thn_inv hr
      obtain ⟨lo, n2, h2, hr⟩ := thn_inv hr
      obtain ⟨_, n3, h3, hr⟩ := thn_inv hr
      obtain ⟨u', n4, h4, hr⟩ := thn_inv hr
      have l1 := pDim_ok h1
      have l3 := pNeed_ok h3
      have l4 := pMk_ok h4
      have l5 := pSl_ok _ _ _ _ _ hr
      have l2 : n1 ≤ n2 := by
        split at h2
        · have := pDim_ok h2; omega
        · have := (ok_inv h2).2; omega
      rw [show n + d + 1 = n + 1 + d by omega, pDim_s h h1 (by omega), thn_ok]
      have h2' : (if tokIs U (n1 + d) [58] = true then pDim U (n1 + d + 1) else .ok (hi, n1 + d)) = (.ok (lo, n2 + d) : PR Dm) := by
        rw [tokIs_s h (by omega)]
        split at h2
        · rename_i c2
          have := pDim_ok h2
          rw [if_pos c2, show n1 + d + 1 = n1 + 1 + d by omega, pDim_s h h2 (by omega)]
        · rename_i c2
          obtain ⟨rfl, rfl⟩ := ok_inv h2
          rw [if_neg c2]
      rw [h2', thn_ok, pNeed_s h h3 (by omega), thn_ok, pMk_s h4, thn_ok]
      exact pSl_s f g _ n4 j t (by omega) (by omega) (by omega) (by omega) hr hj
    · rename_i c
      obtain ⟨rfl, rfl⟩ := ok_inv hr
      rw [if_neg c]
theorem pPost_s (hG : Goes pe) (hp : SimE m d k pe pu) {n j : Nat} {t : Ex} (hk : k ≤ n + 1) (hr : pPost T pe n = .ok (t, j)) (hj : j < m) (hlo : lo ≤ n := by omega) : pPost U pu (n + d) = .ok (t, j + d) := by
  unfold pPost at hr ⊢
  obtain ⟨_, n1, h1, hr⟩ := thn_inv hr
  have l1 := pSl_ok _ _ _ _ _ hr
  rw [pPrim_s h hG hp hk h1 (by omega), thn_ok]
  have := pPrim_ok hG h1
  exact pSl_s h _ _ _ _ _ _ (by omega) (by omega) (by omega) (by omega) hr hj
theorem pUn_s (hG : Goes pe) (hp : SimE m d k pe pu) : ∀ (f g n j : Nat) (t : Ex), lo ≤ n → k ≤ n + 1 → n ≤ m → T.length < n + f → U.length < n + d + g → pUn T pe f n = .ok (t, j) → j < m → pUn U pu g (n + d) = .ok (t, j + d)
  | 0, g, n, j, t, hlo, hk, hn, hf, hg, hr, hj => by have := h.mt; omega
  | f + 1, 0, n, j, t, hlo, hk, hn, hf, hg, hr, hj => by have := h.mu; omega
  | f + 1, g + 1, n, j, t, hlo, hk, hn, hf, hg, hr, hj => by
    have hle := pUn_ok hG _ _ _ _ hr
    rw [pUn] at hr ⊢
    rw [tokIs_s h (by omega)]
    split at hr
    · rename_i c
      rw [if_pos c]
      obtain ⟨_, n1, h1, hr⟩ := thn_inv hr
      have l1 := pMk_ok hr
      rw [show n + d + 1 = n + 1 + d by omega, pUn_s hG hp f g (n + 1) n1 _ (by omega) (by omega) (by omega) (by omega) (by omega) h1 (by omega), thn_ok]
      exact pMk_s hr
    · rename_i c
      rw [if_neg c]
      exact pPost_s h hG hp hk hr hj
theorem pLoop_s (hG : Goes pe) (hp : SimE m d k pe pu) : ∀ (f g l q : Nat) (u : Ex) (n j : Nat) (t : Ex), lo ≤ n → k ≤ n + 1 → n ≤ m → T.length < n + f → U.length < n + d + g → pLoop T pe f l q u n = .ok (t, j) → j < m → pLoop U pu g l q u (n + d) = .ok (t, j + d)
  | 0, g, l, q, u, n, j, t, hlo, hk, hn, hf, hg, hr, hj => by have := h.mt; omega
  | f + 1, 0, l, q, u, n, j, t, hlo, hk, hn, hf, hg, hr, hj => by have := h.mu; omega
  | f + 1, g + 1, l, q, u, n, j, t, hlo, hk, hn, hf, hg, hr, hj => by
    have hle := pLoop_ok hG _ _ _ _ _ _ _ hr
    rw [pLoop] at hr ⊢
    rw [opOf_s h (by omega)]
    split at hr
    · rename_i c
      obtain ⟨rfl, rfl⟩ := ok_inv hr
      rw [if_pos c]
    · rename_i c
      rw [if_neg c]
      obtain ⟨r0, n1, h1, hr⟩ := thn_inv hr
      obtain ⟨r, n2, h2, hr⟩ := thn_inv hr
      obtain ⟨t', n3, h3, hr⟩ := thn_inv hr
      have l1 := pUn_ok hG _ _ _ _ h1
      have l2 := pLoop_ok hG _ _ _ _ _ _ _ h2
      have l3 := pMk_ok h3
      have l4 := pLoop_ok hG _ _ _ _ _ _ _ hr
      rw [show n + d + 1 = n + 1 + d by omega, pUn_s h hG hp _ (U.length + 1) (n + 1) n1 _ (by omega) (by omega) (by omega) (by omega) (by omega) h1 (by omega), thn_ok,
        pLoop_s hG hp f g _ _ _ n1 n2 _ (by omega) (by omega) (by omega) (by omega) (by omega) h2 (by omega), thn_ok, pMk_s h3, thn_ok]
      exact pLoop_s hG hp f g _ _ _ n3 j t (by omega) (by omega) (by omega) (by omega) (by omega) hr hj
theorem pBet_s (hG : Goes pe) (hp : SimE m d k pe pu) {f g l n j : Nat} {t : Ex} (hk : k ≤ n + 1) (hn : n ≤ m) (hf : T.length < n + f) (hg : U.length < n + d + g) (hr : pBet T pe f l n = .ok (t, j)) (hj : j < m) (hlo : lo ≤ n := by omega) : pBet U pu g l (n + d) = .ok (t, j + d) := by
  unfold pBet at hr ⊢
  obtain ⟨_, n1, h1, hr⟩ := thn_inv hr
  have l1 := pUn_ok hG _ _ _ _ h1
  have l2 := pLoop_ok hG _ _ _ _ _ _ _ hr
  rw [pUn_s h hG hp _ (U.length + 1) n n1 _ (by omega) hk hn (by omega) (by omega) h1 (by omega), thn_ok]
  exact pLoop_s h hG hp _ _ _ _ _ _ _ _ (by omega) (by omega) (by omega) (by omega) (by omega) hr hj
theorem pEx_s : ∀ (f g n j : Nat) (t : Ex), lo ≤ n → n ≤ m → T.length < n + f → U.length < n + d + g → pEx T f n = .ok (t, j) → j < m → pEx U g (n + d) = .ok (t, j + d)
  | 0, g, n, j, t, hlo, hn, hf, hg, hr, hj => by cases hr
  | f + 1, 0, n, j, t, hlo, hn, hf, hg, hr, hj => by have := h.mu; omega
  | f + 1, g + 1, n, j, t, hlo, hn, hf, hg, hr, hj => by
    have hG := pEx_goes T f
    have hp : SimE m d (n + 1) (pEx T f) (pEx U g) := fun q t' j' hq hr' hj' => by
      have := hG _ _ _ hr'
      exact pEx_s f g q j' t' (by omega) (by omega) (by omega) (by omega) hr' hj'
    rw [pEx] at hr ⊢
    obtain ⟨a, n1, h1, hr⟩ := thn_inv hr
    have l1 := pBet_ok hG h1
    split at hr
    · rename_i c
      obtain ⟨_, n2, h2, hr⟩ := thn_inv hr
      obtain ⟨_, n3, h3, hr⟩ := thn_inv hr
      obtain ⟨_, n4, h4, hr⟩ := thn_inv hr
      have l2 := hG _ _ _ h2; have l3 := pNeed_ok h3; have l4 := hG _ _ _ h4; have l5 := pMk_ok hr
      rw [pBet_s h hG hp (Nat.le_refl _) hn (by omega) (by omega) h1 (by omega), thn_ok, tokIs_s h (by omega), if_pos c, show n1 + d + 1 = n1 + 1 + d by omega,
        hp _ _ _ (by omega) h2 (by omega), thn_ok, pNeed_s h h3 (by omega), thn_ok, hp _ _ _ (by omega) h4 (by omega), thn_ok]
      exact pMk_s hr
    · rename_i c
      obtain ⟨rfl, rfl⟩ := ok_inv hr
      rw [pBet_s h hG hp (Nat.le_refl _) hn (by omega) (by omega) h1 (by omega), thn_ok, tokIs_s h (by omega), if_neg c]
theorem pExpr_s {n j : Nat} {t : Ex} (hr : pExpr T n = .ok (t, j)) (hj : j < m) (hlo : lo ≤ n := by omega) : pExpr U (n + d) = .ok (t, j + d) := by
  have := pEx_goes T _ _ _ _ hr
  exact pEx_s h _ _ n j t (by omega) (by omega) (by omega) (by omega) hr hj
end

section
variable {T U : List LexM.Tk} {d lo m : Nat} (h : Sim T U d lo m)
include h
theorem pWire_s {i i' : It} {n j : Nat} (hr : pWire T i n = .ok (i', j)) (hj : j < m) (hlo : lo ≤ n := by omega) : pWire U i (n + d) = .ok (i', j + d) := by
  unfold pWire at hr ⊢
  obtain ⟨_, n1, h1, hr⟩ := thn_inv hr
  obtain ⟨_, n2, h2, hr⟩ := thn_inv hr
  obtain ⟨_, n3, h3, hr⟩ := thn_inv hr
  obtain ⟨_, n4, h4, hr⟩ := thn_inv hr
  obtain ⟨rfl, rfl⟩ := ok_inv hr
  have l1 := pNeed_ok h1; have l2 := pDim_ok h2; have l3 := pNeed_ok h3; have l4 := pEx_goes T _ _ _ _ h4
  rw [pNeed_s h h1 (by omega), thn_ok, pDim_s h h2 (by omega), thn_ok, pNeed_s h h3 (by omega), thn_ok, pExpr_s h h4 (by omega), thn_ok]
theorem pReg_s {i i' : It} {n j : Nat} (hr : pReg T i n = .ok (i', j)) (hj : j < m) (hlo : lo ≤ n := by omega) : pReg U i (n + d) = .ok (i', j + d) := by
  unfold pReg at hr ⊢
  obtain ⟨_, n1, h1, hr⟩ := thn_inv hr
  obtain ⟨_, n2, h2, hr⟩ := thn_inv hr
  obtain ⟨_, n3, h3, hr⟩ := thn_inv hr
  obtain ⟨_, n4, h4, hr⟩ := thn_inv hr
  obtain ⟨rfl, rfl⟩ := ok_inv hr
  have l1 := pNeed_ok h1; have l2 := pDim_ok h2; have l3 := pNeed_ok h3; have l4 := pDim_ok h4
  rw [pNeed_s h h1 (by omega), thn_ok, pDim_s h h2 (by omega), thn_ok, pNeed_s h h3 (by omega), thn_ok, pDim_s h h4 (by omega), thn_ok]
theorem pMemo_s {i i' : It} {n j : Nat} (hr : pMemo T i n = .ok (i', j)) (hj : j < m) (hlo : lo ≤ n := by omega) : pMemo U i (n + d) = .ok (i', j + d) := by
  unfold pMemo at hr ⊢
  obtain ⟨_, n1, h1, hr⟩ := thn_inv hr
  obtain ⟨_, n2, h2, hr⟩ := thn_inv hr
  obtain ⟨_, n3, h3, hr⟩ := thn_inv hr
  obtain ⟨_, n4, h4, hr⟩ := thn_inv hr
  obtain ⟨_, n5, h5, hr⟩ := thn_inv hr
  obtain ⟨rfl, rfl⟩ := ok_inv hr
  have l1 := pNeed_ok h1; have l2 := pDim_ok h2; have l3 := pNeed_ok h3; have l4 := pNeed_ok h4; have l5 := pDim_ok h5
  rw [pNeed_s h h1 (by omega), thn_ok, pDim_s h h2 (by omega), thn_ok, pNeed_s h h3 (by omega), thn_ok, pNeed_s h h4 (by omega), thn_ok, pDim_s h h5 (by omega), thn_ok]
theorem pProp_s {i i' : It} {n j : Nat} (hr : pProp T i n = .ok (i', j)) (hj : j < m) (hlo : lo ≤ n := by omega) : pProp U i (n + d) = .ok (i', j + d) := by
  unfold pProp at hr ⊢
  obtain ⟨_, n1, h1, hr⟩ := thn_inv hr
  obtain ⟨_, n2, h2, hr⟩ := thn_inv hr
  obtain ⟨rfl, rfl⟩ := ok_inv hr
  have l1 := pNeed_ok h1; have l2 := pEx_goes T _ _ _ _ h2
  rw [pNeed_s h h1 (by omega), thn_ok, pExpr_s h h2 (by omega), thn_ok]
theorem pValue_s {i i' : It} {n j : Nat} (hr : pValue T i n = .ok (i', j)) (hj : j < m) (hlo : lo ≤ n := by omega) : pValue U i (n + d) = .ok (i', j + d) := by
  unfold pValue at hr ⊢
  obtain ⟨_, n1, h1, hr⟩ := thn_inv hr
  obtain ⟨_, n2, h2, hr⟩ := thn_inv hr
  obtain ⟨rfl, rfl⟩ := ok_inv hr
  have l1 := pNeed_ok h1; have l2 := pEx_goes T _ _ _ _ h2
  rw [pNeed_s h h1 (by omega), thn_ok, pExpr_s h h2 (by omega), thn_ok]
theorem pPut_s {i i' : It} {n j : Nat} (hr : pPut T i n = .ok (i', j)) (hj : j < m) (hlo : lo ≤ n := by omega) : pPut U i (n + d) = .ok (i', j + d) := by
  unfold pPut at hr ⊢
  obtain ⟨_, n1, h1, hr⟩ := thn_inv hr
  obtain ⟨_, n2, h2, hr⟩ := thn_inv hr
  obtain ⟨_, n3, h3, hr⟩ := thn_inv hr
  obtain ⟨_, n4, h4, hr⟩ := thn_inv hr
  obtain ⟨_, n5, h5, hr⟩ := thn_inv hr
  obtain ⟨_, n6, h6, hr⟩ := thn_inv hr
  obtain ⟨_, n7, h7, hr⟩ := thn_inv hr
  obtain ⟨rfl, rfl⟩ := ok_inv hr
  have l1 := pNeed_ok h1; have l2 := pEx_goes T _ _ _ _ h2; have l3 := pNeed_ok h3; have l4 := pNeed_ok h4; have l5 := pEx_goes T _ _ _ _ h5; have l6 := pNeed_ok h6; have l7 := pEx_goes T _ _ _ _ h7
  rw [pNeed_s h h1 (by omega), thn_ok, pExpr_s h h2 (by omega), thn_ok, pNeed_s h h3 (by omega), thn_ok, pNeed_s h h4 (by omega), thn_ok, pExpr_s h h5 (by omega), thn_ok, pNeed_s h h6 (by omega), thn_ok, pExpr_s h h7 (by omega), thn_ok]

/-- a list's element is read alike, and something is read -/
def SimQ {σ : Type} (lo m d : Nat) (q p : σ → Nat → PR σ) : Prop := ∀ s n s' j, q s n = .ok (s', j) → n < j ∧ (j < m → lo ≤ n → p s (n + d) = .ok (s', j + d))
theorem pMore_s {σ : Type} {q p : σ → Nat → PR σ} (hq : SimQ lo m d q p) : ∀ (f : Nat) (s : σ) (n : Nat) (s' : σ) (j : Nat), pMore T q f s n = .ok (s', j) → n ≤ j ∧ (j < m → lo ≤ n → pMore U p f s (n + d) = .ok (s', j + d))
  | 0, s, n, s', j, hr => by
    rw [pMore] at hr
    split at hr
    · cases hr
    · rename_i c
      obtain ⟨rfl, rfl⟩ := ok_inv hr
      refine ⟨Nat.le_refl _, fun hj hlo => ?_⟩
      rw [pMore, tokIs_s h hj, if_neg c]
  | f + 1, s, n, s', j, hr => by
    rw [pMore] at hr
    split at hr
    · rename_i c
      obtain ⟨s1, n1, h1, hr⟩ := thn_inv hr
      obtain ⟨l1, k1⟩ := hq _ _ _ _ h1
      obtain ⟨l2, k2⟩ := pMore_s hq f _ _ _ _ hr
      refine ⟨by omega, fun hj hlo => ?_⟩
      rw [pMore, tokIs_s h (by omega), if_pos c, show n + d + 1 = n + 1 + d by omega, k1 (by omega) (by omega), thn_ok, k2 hj (by omega)]
    · rename_i c
      obtain ⟨rfl, rfl⟩ := ok_inv hr
      refine ⟨Nat.le_refl _, fun hj hlo => ?_⟩
      rw [pMore, tokIs_s h hj, if_neg c]
theorem pList_s {σ : Type} {q p : σ → Nat → PR σ} (hq : SimQ lo m d q p) {most : Nat} {s s' : σ} {n j : Nat} (hr : pList T q most s n = .ok (s', j)) : n < j ∧ (j < m → lo ≤ n → pList U p most s (n + d) = .ok (s', j + d)) := by
  unfold pList at hr ⊢
  obtain ⟨s1, n1, h1, hr⟩ := thn_inv hr
  obtain ⟨l1, k1⟩ := hq _ _ _ _ h1
  obtain ⟨l2, k2⟩ := pMore_s h hq _ _ _ _ _ hr
  exact ⟨by omega, fun hj hlo => by rw [k1 (by omega) (by omega), thn_ok, k2 hj (by omega)]⟩
theorem pBind_s {n j : Nat} {x : List UInt8 × Ex} (hr : pBind T n = .ok (x, j)) : n < j ∧ (j < m → lo ≤ n → pBind U (n + d) = .ok (x, j + d)) := by
  unfold pBind at hr ⊢
  obtain ⟨_, n1, h1, hr⟩ := thn_inv hr
  obtain ⟨_, n2, h2, hr⟩ := thn_inv hr
  obtain ⟨_, n3, h3, hr⟩ := thn_inv hr
  obtain ⟨rfl, rfl⟩ := ok_inv hr
  have l1 := pName_ok h1; have l2 := pNeed_ok h2; have l3 := pEx_goes T _ _ _ _ h3
  exact ⟨by omega, fun hj hlo => by rw [pName_s h h1 (by omega), thn_ok, pNeed_s h h2 (by omega), thn_ok, pExpr_s h h3 (by omega), thn_ok]⟩
theorem pPortR_s {b : Bool} {n j : Nat} {x : Bool × List UInt8 × Dm} (hr : pPortR T b n = .ok (x, j)) : n < j ∧ (j < m → lo ≤ n → pPortR U b (n + d) = .ok (x, j + d)) := by
  unfold pPortR at hr ⊢
  obtain ⟨_, n1, h1, hr⟩ := thn_inv hr
  obtain ⟨_, n2, h2, hr⟩ := thn_inv hr
  obtain ⟨_, n3, h3, hr⟩ := thn_inv hr
  obtain ⟨rfl, rfl⟩ := ok_inv hr
  have l1 := pName_ok h1; have l2 := pNeed_ok h2; have l3 := pDim_ok h3
  exact ⟨by omega, fun hj hlo => by rw [pName_s h h1 (by omega), thn_ok, pNeed_s h h2 (by omega), thn_ok, pDim_s h h3 (by omega), thn_ok]⟩
theorem pPort_s {n j : Nat} {x : Bool × List UInt8 × Dm} (hr : pPort T n = .ok (x, j)) : n < j ∧ (j < m → lo ≤ n → pPort U (n + d) = .ok (x, j + d)) := by
  unfold pPort at hr ⊢
  split at hr
  · rename_i c
    obtain ⟨l1, k1⟩ := pPortR_s h hr
    exact ⟨by omega, fun hj hlo => by rw [tokIs_s h (by omega), if_pos c, show n + d + 1 = n + 1 + d by omega, k1 hj (by omega)]⟩
  · rename_i c
    obtain ⟨_, n1, h1, hr⟩ := thn_inv hr
    have l0 := pNeed_ok h1
    obtain ⟨l1, k1⟩ := pPortR_s h hr
    exact ⟨by omega, fun hj hlo => by rw [tokIs_s h (by omega), if_neg c, pNeed_s h h1 (by omega), thn_ok, k1 hj (by omega)]⟩
theorem qArg_s : SimQ lo m d (qArg T) (qArg U) := fun s n s' j hr => by
  unfold qArg at hr ⊢
  obtain ⟨_, n1, h1, hr⟩ := thn_inv hr
  obtain ⟨rfl, rfl⟩ := ok_inv hr
  exact ⟨pDim_ok h1, fun hj hlo => by rw [pDim_s h h1 hj, thn_ok]⟩
theorem qBind_s : SimQ lo m d (qBind T) (qBind U) := fun s n s' j hr => by
  unfold qBind at hr ⊢
  obtain ⟨_, n1, h1, hr⟩ := thn_inv hr
  obtain ⟨rfl, rfl⟩ := ok_inv hr
  exact ⟨(pBind_s h h1).1, fun hj hlo => by rw [(pBind_s h h1).2 hj hlo, thn_ok]⟩
theorem qParam_s : SimQ lo m d (qParam T) (qParam U) := fun s n s' j hr => by
  unfold qParam at hr ⊢
  obtain ⟨_, n1, h1, hr⟩ := thn_inv hr
  obtain ⟨rfl, rfl⟩ := ok_inv hr
  have := pName_ok h1
  exact ⟨by omega, fun hj hlo => by rw [pName_s h h1 (by omega), thn_ok]⟩
theorem qPort_s : SimQ lo m d (qPort T) (qPort U) := fun s n s' j hr => by
  unfold qPort at hr ⊢
  obtain ⟨_, n1, h1, hr⟩ := thn_inv hr
  obtain ⟨rfl, rfl⟩ := ok_inv hr
  exact ⟨(pPort_s h h1).1, fun hj hlo => by rw [(pPort_s h h1).2 hj hlo, thn_ok]⟩
theorem pArgs_s {i i' : It} {n j : Nat} (hr : pArgs T i n = .ok (i', j)) : n ≤ j ∧ (j < m → lo ≤ n → pArgs U i (n + d) = .ok (i', j + d)) := by
  unfold pArgs at hr ⊢
  split at hr
  · rename_i c
    obtain ⟨_, n1, h1, hr⟩ := thn_inv hr
    obtain ⟨_, n2, h2, hr⟩ := thn_inv hr
    obtain ⟨rfl, rfl⟩ := ok_inv hr
    obtain ⟨l1, k1⟩ := pList_s h (qArg_s h) h1
    have l2 := pNeed_ok h2
    exact ⟨by omega, fun hj hlo => by rw [tokIs_s h (by omega), if_pos c, show n + d + 1 = n + 1 + d by omega, k1 (by omega) (by omega), thn_ok, pNeed_s h h2 (by omega), thn_ok]⟩
  · rename_i c
    obtain ⟨rfl, rfl⟩ := ok_inv hr
    exact ⟨Nat.le_refl _, fun hj hlo => by rw [tokIs_s h hj, if_neg c]⟩
theorem pBinds_s {i i' : It} {n j : Nat} (hr : pBinds T i n = .ok (i', j)) : n ≤ j ∧ (j < m → lo ≤ n → pBinds U i (n + d) = .ok (i', j + d)) := by
  unfold pBinds at hr ⊢
  split at hr
  · rename_i c
    obtain ⟨rfl, rfl⟩ := ok_inv hr
    exact ⟨Nat.le_refl _, fun hj hlo => by rw [tokIs_s h hj, if_pos c]⟩
  · rename_i c
    obtain ⟨l1, k1⟩ := pList_s h (qBind_s h) hr
    exact ⟨by omega, fun hj hlo => by rw [tokIs_s h (by omega), if_neg c, k1 hj (by omega)]⟩
theorem pInst_s {i i' : It} {n j : Nat} (hr : pInst T i n = .ok (i', j)) (hj : j < m) (hlo : lo ≤ n := by omega) : pInst U i (n + d) = .ok (i', j + d) := by
  unfold pInst at hr ⊢
  obtain ⟨_, n1, h1, hr⟩ := thn_inv hr
  obtain ⟨_, n2, h2, hr⟩ := thn_inv hr
  obtain ⟨_, n3, h3, hr⟩ := thn_inv hr
  obtain ⟨_, n4, h4, hr⟩ := thn_inv hr
  obtain ⟨_, n5, h5, hr⟩ := thn_inv hr
  obtain ⟨rfl, rfl⟩ := ok_inv hr
  have l1 := pName_ok h1; have l3 := pNeed_ok h3; have l5 := pNeed_ok h5
  obtain ⟨l2, k2⟩ := pArgs_s h h2
  obtain ⟨l4, k4⟩ := pBinds_s h h4
  rw [pName_s h h1 (by omega), thn_ok, k2 (by omega) (by omega), thn_ok, pNeed_s h h3 (by omega), thn_ok, k4 (by omega) (by omega), thn_ok, pNeed_s h h5 (by omega), thn_ok]
theorem restOf_s {F : Nat} {i i' : It} {n j : Nat} (hr : restOf F T i n = .ok (i', j)) (hj : j < m) (hlo : lo ≤ n := by omega) : restOf F U i (n + d) = .ok (i', j + d) := by
  unfold restOf at hr ⊢
  split at hr
  · rename_i c; rw [if_pos c]; exact pWire_s h hr hj
  rename_i c
  rw [if_neg c]
  split at hr
  · rename_i c; rw [if_pos c]; exact pReg_s h hr hj
  rename_i c
  rw [if_neg c]
  split at hr
  · rename_i c; rw [if_pos c]; exact pMemo_s h hr hj
  rename_i c
  rw [if_neg c]
  split at hr
  · rename_i c; rw [if_pos c]; exact pInst_s h hr hj
  rename_i c
  rw [if_neg c]
  split at hr
  · rename_i c; rw [if_pos c]; exact pProp_s h hr hj
  rename_i c
  rw [if_neg c]
  split at hr
  · rename_i c; rw [if_pos c]; exact pValue_s h hr hj
  rename_i c
  rw [if_neg c]
  exact pPut_s h hr hj
theorem pItemR_s {F kind : Nat} {i : It} {n j : Nat} (hr : pItemR T (restOf F) kind n = .ok (i, j)) (hn : n ≤ T.length) (hj : j ≤ m) (hlo : lo ≤ n := by omega) : n < j ∧ pItemR U (restOf F) kind (n + d) = .ok (i, j + d) := by
  unfold pItemR at hr ⊢
  obtain ⟨l, n1, h1, hr⟩ := thn_inv hr
  obtain ⟨_, n2, h2, hr⟩ := thn_inv hr
  obtain ⟨_, n3, h3, hr⟩ := thn_inv hr
  obtain ⟨rfl, rfl⟩ := ok_inv hr
  have l1 := pName_ok h1; have l3 := pNeed_ok h3
  have l2 : n1 ≤ n2 := by
    have hm := h.mt
    have g := restOf_g (T := T) (b := n1) (n := n1) (F := F) (i := itNew kind l) (Nat.le_refl _) (by
      have g1 := pName_g (T := T) (b := n) (n := n) (Nat.le_refl _) hn
      rw [h1] at g1
      exact g1.2)
    rw [h2] at g
    exact g.1
  exact ⟨by omega, by rw [pName_s h h1 (by omega), thn_ok, restOf_s h h2 (by omega), thn_ok, pNeed_s h h3 (by omega), thn_ok]⟩
theorem pItem_s {k n j : Nat} {i : It} (hn : n ≤ T.length) (hr : pItem T k n = .ok (i, j)) (hj : j ≤ m) (hlo : lo ≤ n := by omega) : n < j ∧ pItem U k (n + d) = .ok (i, j + d) := by
  have h1 := h.mt
  have h2 := h.mu
  unfold pItem at hr ⊢
  split at hr
  · cases hr
  · rename_i c
    split at hr
    · cases hr
    · rename_i t kind F hrule
      split at hr
      · cases hr
      · rename_i c2
        obtain ⟨l, k1⟩ := pItemR_s h hr (by omega) hj
        refine ⟨by omega, ?_⟩
        rw [if_neg (by omega), text_s h (by omega), hrule]
        simp only []
        rw [if_neg c2, show n + d + 1 = n + 1 + d by omega, k1]
theorem pHead_s {n j : Nat} {x : Mh} (hr : pHead T n = .ok (x, j)) (hj : j ≤ m) (hlo : lo ≤ n := by omega) : n < j ∧ pHead U (n + d) = .ok (x, j + d) := by
  unfold pHead at hr ⊢
  obtain ⟨l, n1, h1, hr⟩ := thn_inv hr
  obtain ⟨m1, n4, h4, hr⟩ := thn_inv hr
  obtain ⟨_, n5, h5, hr⟩ := thn_inv hr
  obtain ⟨m2, n6, h6, hr⟩ := thn_inv hr
  obtain ⟨_, n7, h7, hr⟩ := thn_inv hr
  obtain ⟨_, n8, h8, hr⟩ := thn_inv hr
  obtain ⟨rfl, rfl⟩ := ok_inv hr
  have l1 := pName_ok h1; have l5 := pNeed_ok h5; have l7 := pNeed_ok h7; have l8 := pNeed_ok h8
  have e4 : n1 ≤ n4 ∧ (n4 < m → (if tokIs U (n1 + d) [60] = true then thn (pList U (qParam U) 4 ⟨l, [], []⟩ (n1 + d + 1)) fun m n2 => thn (pNeed U n2 [62]) fun _ n3 => .ok (m, n3) else .ok (⟨l, [], []⟩, n1 + d)) = (.ok (m1, n4 + d) : PR Mh)) := by
    split at h4
    · rename_i c
      obtain ⟨_, q1, g1, h4⟩ := thn_inv h4
      obtain ⟨_, q2, g2, h4⟩ := thn_inv h4
      obtain ⟨rfl, rfl⟩ := ok_inv h4
      obtain ⟨a1, k1⟩ := pList_s h (qParam_s h) g1
      have a2 := pNeed_ok g2
      exact ⟨by omega, fun hh => by rw [tokIs_s h (by omega), if_pos c, show n1 + d + 1 = n1 + 1 + d by omega, k1 (by omega) (by omega), thn_ok, pNeed_s h g2 (by omega), thn_ok]⟩
    · rename_i c
      obtain ⟨rfl, rfl⟩ := ok_inv h4
      exact ⟨Nat.le_refl _, fun hh => by rw [tokIs_s h hh, if_neg c]⟩
  have e6 : n5 ≤ n6 ∧ (n6 < m → (if tokIs U (n5 + d) [41] = true then .ok (m1, n5 + d) else pList U (qPort U) 16 m1 (n5 + d)) = (.ok (m2, n6 + d) : PR Mh)) := by
    split at h6
    · rename_i c
      obtain ⟨rfl, rfl⟩ := ok_inv h6
      exact ⟨Nat.le_refl _, fun hh => by rw [tokIs_s h hh, if_pos c]⟩
    · rename_i c
      obtain ⟨a1, k1⟩ := pList_s h (qPort_s h) h6
      exact ⟨by omega, fun hh => by rw [tokIs_s h (by omega), if_neg c, k1 hh (by omega)]⟩
  refine ⟨by omega, ?_⟩
  rw [pName_s h h1 (by omega), thn_ok, e4.2 (by omega), thn_ok, pNeed_s h h5 (by omega), thn_ok, e6.2 (by omega), thn_ok, pNeed_s h h7 (by omega), thn_ok, pNeed_s h h8 (by omega), thn_ok]
end

/-- faults that were told stay -/
theorem pBody_pre (T : List LexM.Tk) : ∀ (f k : Nat) (is : List It) (fs : Fs) (n : Nat), fs.length ≤ (pBody T f k is fs n).2.length
  | 0, k, is, fs, n => Nat.le_refl _
  | f + 1, k, is, fs, n => by
    rw [pBody]
    split
    · exact Nat.le_refl _
    · rcases pItem T k n with x | ⟨i, q⟩
      · simp only []
        split
        · exact Nat.le_refl _
        · rcases pPast T (T.length - x.2) x.2 with y | ⟨_, q⟩
          · simp
          · have := pBody_pre T f (bk T k n) is (fs ++ [x]) q
            simp at this ⊢; omega
      · exact pBody_pre T f _ _ fs q
theorem pModule_pre (T : List LexM.Tk) (mo : Nat) (fs : Fs) (n : Nat) : fs.length ≤ (pModule T mo fs n).2.1.length := by
  unfold pModule
  split
  · split
    · exact Nat.le_refl _
    · rcases pHead T (n + 1) with x | ⟨q, n1⟩
      · exact Nat.le_refl _
      · have := pBody_pre T (T.length + 1) 0 [] fs n1
        simp only []
        rcases hb : pBody T (T.length + 1) 0 [] fs n1 with ⟨x | ⟨is, n2⟩, fs'⟩ <;> rw [hb] at this <;> exact this
  · exact Nat.le_refl _
theorem pDesign_pre (T : List LexM.Tk) : ∀ (f mo : Nat) (ms : List Mo) (fs : Fs) (n : Nat), fs.length ≤ (pDesign T f mo ms fs n).2.length
  | 0, mo, ms, fs, n => Nat.le_refl _
  | f + 1, mo, ms, fs, n => by
    rw [pDesign]
    split
    · have h1 := pModule_pre T mo fs n
      rcases hm : pModule T mo fs n with ⟨x | ⟨q, n1⟩, fs1, mo1⟩
      · rw [hm] at h1
        simp only [] at h1 ⊢
        split
        · simp; omega
        · have := pDesign_pre T f mo1 ms (fs1 ++ [x]) (pastMod T x.1 x.2)
          simp at this ⊢; omega
      · rw [hm] at h1
        simp only [] at h1 ⊢
        have := pDesign_pre T f mo1 (ms ++ [q]) fs1 n1
        omega
    · exact Nat.le_refl _

/-- a text without faults has tokens, and they are a design without faults -/
theorem parse_clear {l : List UInt8} {a : List Mo} (hl : l.length ≤ 20000) (h : parseOut l = (a, [])) : ∃ T, LexM.lex l 0 = (T, none) ∧ lexOut l = (T, 0, 0) ∧ pDesign T (T.length + 1) 0 [] [] 0 = (a, []) := by
  unfold parseOut at h
  split at h
  · simp at h
  · rename_i hc
    rcases hx : LexM.lex l 0 with ⟨T, _ | k⟩
    · have hT : lexOut l = (T, 0, 0) := by unfold lexOut; rw [if_neg (by omega), hx]
      refine ⟨T, rfl, hT, ?_⟩
      rw [hT] at h
      simp only [Prod.mk.injEq] at h
      obtain ⟨h1, h2⟩ := h
      have h3 : (pDesign T (T.length + 1) 0 [] [] 0).2 = [] := by simpa using h2
      exact Prod.ext h1 h3
    · exfalso
      apply hc
      intro h0
      unfold lexOut at h0
      rw [if_neg (by omega), hx] at h0
      simp at h0
theorem parse_of {l : List UInt8} {T : List LexM.Tk} {a : List Mo} (h : lexOut l = (T, 0, 0)) (hd : pDesign T (T.length + 1) 0 [] [] 0 = (a, [])) : parseOut l = (a, []) := by
  unfold parseOut
  rw [h]
  simp [hd]
end Go.Proofs.YtccjbpghpoblhaaDoor

