/-
  WHERE FAULTS STAND: who reads goes on, and gives up at a token, or at the end.
-/
import Derived.Test.YtccjbpghpoblhaaDoorK22
namespace Go.Proofs.YtccjbpghpoblhaaDoor
open Go.RowKit

/-- a fault from a token on: at a token, or at the end -/
def ErrAt (T : List LexM.Tk) (n : Nat) (x : Nat × Nat) : Prop := n ≤ x.2 ∧ ((x.2 < T.length ∧ (x.1 = 2 ∨ x.1 = 20)) ∨ (x.2 = T.length ∧ x.1 = 21))
def Good {α : Type} (T : List LexM.Tk) (n : Nat) : PR α → Prop
  | .ok (_, m) => n ≤ m ∧ m ≤ T.length
  | .error x => ErrAt T n x

theorem Good.mono {α : Type} {T : List LexM.Tk} {b n : Nat} {r : PR α} (h : Good T n r) (hb : b ≤ n) : Good T b r := by
  rcases r with x | ⟨a, m⟩
  · exact ⟨Nat.le_trans hb h.1, h.2⟩
  · exact ⟨Nat.le_trans hb h.1, h.2⟩
theorem Good.thn {α β : Type} {T : List LexM.Tk} {b : Nat} {r : PR α} {f : α → Nat → PR β} (h : Good T b r) (hf : ∀ a m, r = .ok (a, m) → b ≤ m → m ≤ T.length → Good T b (f a m)) : Good T b (thn r f) := by
  rcases r with x | ⟨a, m⟩
  · exact h
  · exact hf a m rfl h.1 h.2
theorem good_ok {α : Type} {T : List LexM.Tk} {b m : Nat} {a : α} (h : b ≤ m) (hm : m ≤ T.length) : Good T b (.ok (a, m) : PR α) := ⟨h, hm⟩
theorem gu_at {T : List LexM.Tk} {b n er : Nat} (hb : b ≤ n) (hn : n ≤ T.length) (he : er = 2 ∨ er = 20 ∨ n = T.length) : ErrAt T b (gu T n er) := by
  unfold gu
  by_cases h : n = T.length
  · rw [if_pos h]; exact ⟨hb, .inr ⟨h, rfl⟩⟩
  · rw [if_neg h]
    refine ⟨hb, .inl ⟨by show n < _; omega, ?_⟩⟩
    rcases he with he | he | he
    · exact .inl he
    · exact .inr he
    · exact (h he).elim
theorem good_gu {α : Type} {T : List LexM.Tk} {b n er : Nat} (hb : b ≤ n) (hn : n ≤ T.length) (he : er = 2 ∨ er = 20 ∨ n = T.length) : Good T b (.error (gu T n er) : PR α) := gu_at hb hn he

section
variable {T : List LexM.Tk} {b n : Nat}
theorem pNeed_g {l : List UInt8} (hb : b ≤ n) (hn : n ≤ T.length) : Good T b (pNeed T n l) := by
  unfold pNeed
  split
  · rename_i h; exact good_ok (by omega) (tokIs_lt h)
  · exact good_gu hb hn (.inr (.inl rfl))
theorem pNumber_g (hb : b ≤ n) (hn : n ≤ T.length) : Good T b (pNumber T n) := by
  unfold pNumber
  split
  · rename_i h; exact good_ok (by omega) (kindIs_lt h)
  · exact good_gu hb hn (.inr (.inl rfl))
theorem pName_g (hb : b ≤ n) (hn : n ≤ T.length) : Good T b (pName T n) := by
  unfold pName
  split
  · rename_i h
    simp only [Bool.and_eq_true] at h
    exact good_ok (by omega) (kindIs_lt h.1)
  · exact good_gu hb hn (.inr (.inl rfl))
theorem pSide_g (hb : b ≤ n) (hn : n ≤ T.length) : Good T b (pSide T n) := by
  unfold pSide
  have h1 := pNumber_g hb hn
  have h2 := pName_g hb hn
  split
  · revert h1
    rcases pNumber T n with x | ⟨k, m⟩ <;> exact fun h1 => h1
  · revert h2
    rcases pName T n with x | ⟨k, m⟩ <;> exact fun h2 => h2
theorem pDim_g (hb : b ≤ n) (hn : n ≤ T.length) : Good T b (pDim T n) := by
  unfold pDim
  have h1 := pSide_g hb hn
  revert h1
  rcases pSide T n with x | ⟨d, m⟩
  · exact fun h1 => h1
  · intro h1
    simp only []
    split
    · rename_i h
      have h2 := pNumber_g (T := T) (b := b) (n := m + 1) (by have := h1.1; omega) (tokIs_lt h.2)
      revert h2
      rcases pNumber T (m + 1) with x | ⟨k, q⟩ <;> exact fun h2 => h2
    · exact h1
theorem pMk_g {a op m : Nat} {ks : List Ex} (hb : b ≤ a) (ha : a < T.length) (hm : b ≤ m) (hm' : m ≤ T.length) : Good T b (pMk a op ks m) := by
  unfold pMk
  split
  · exact good_ok hm hm'
  · exact ⟨hb, .inl ⟨ha, .inl rfl⟩⟩

/-- exprs are read right from k on -/
def GoodE (T : List LexM.Tk) (k : Nat) (pe : Nat → PR Ex) : Prop := ∀ b m, b ≤ m → k ≤ m → m ≤ T.length → Good T b (pe m)
variable {k : Nat} {pe : Nat → PR Ex}
theorem pBr_g (hp : GoodE T k pe) (hk : k ≤ n + 1) (hb : b ≤ n) (hn : n ≤ T.length) : Good T b (pBr T pe n) := by
  unfold pBr
  refine (pNeed_g hb hn).thn fun _ n1 e1 h1 g1 => ?_
  have := pNeed_ok e1
  refine (hp b n1 h1 (by omega) g1).thn fun _ n2 e2 h2 g2 => ?_
  refine (pNeed_g h2 g2).thn fun _ n3 e3 h3 g3 => good_ok h3 g3
theorem pCat_g {a : Nat} (hG : Goes pe) (hp : GoodE T k pe) (hk : k ≤ n) (hba : b ≤ a) (ha : a < T.length) (hb : b ≤ n) (hn : n ≤ T.length) : Good T b (pCat T pe a n) := by
  unfold pCat
  refine (hp b n hb hk hn).thn fun _ n1 e1 h1 g1 => ?_
  have := hG _ _ _ e1
  refine (pNeed_g h1 g1).thn fun _ n2 e2 h2 g2 => ?_
  have := pNeed_ok e2
  refine (hp b n2 h2 (by omega) g2).thn fun _ n3 e3 h3 g3 => ?_
  refine (pNeed_g h3 g3).thn fun _ n4 e4 h4 g4 => pMk_g hba ha h4 g4
theorem pMem_g {a : Nat} (hp : GoodE T k pe) (hk : k ≤ n) (hba : b ≤ a) (ha : a < T.length) (hb : b ≤ n) (hn : n ≤ T.length) : Good T b (pMem T pe a n) := by
  unfold pMem
  refine (pNeed_g hb hn).thn fun _ n1 e1 h1 g1 => ?_
  refine (pName_g h1 g1).thn fun _ n2 e2 h2 g2 => ?_
  refine (pNeed_g h2 g2).thn fun _ n3 e3 h3 g3 => ?_
  have := pNeed_ok e1; have := pName_ok e2; have := pNeed_ok e3
  refine (hp b n3 h3 (by omega) g3).thn fun _ n4 e4 h4 g4 => ?_
  refine (pNeed_g h4 g4).thn fun _ n5 e5 h5 g5 => ?_
  refine (pMk_g hba ha h5 g5).thn fun _ n6 e6 h6 g6 => good_ok h6 g6
theorem pLeaf_g (hb : b ≤ n) (hn : n ≤ T.length) : Good T b (pLeaf T n) := by
  unfold pLeaf
  refine (pSide_g hb hn).thn fun d n1 e1 h1 g1 => ?_
  split
  · refine (pNeed_g h1 g1).thn fun _ n2 e2 h2 g2 => ?_
    refine (pSide_g h2 g2).thn fun _ n3 e3 h3 g3 => good_ok h3 g3
  · split
    · rename_i h
      refine (pName_g (by omega) (tokIs_lt h)).thn fun _ n2 e2 h2 g2 => good_ok h2 g2
    · exact good_ok h1 g1
theorem pPrim_g (hG : Goes pe) (hp : GoodE T k pe) (hk : k ≤ n + 1) (hb : b ≤ n) (hn : n ≤ T.length) : Good T b (pPrim T pe n) := by
  unfold pPrim
  split
  · exact pBr_g hp hk hb hn
  split
  · rename_i h; exact pCat_g hG hp hk hb (tokIs_lt h) (by omega) (tokIs_lt h)
  split
  · rename_i h
    exact (pBr_g hp (by omega) (by omega) (tokIs_lt h)).thn fun _ m _ h1 g1 => pMk_g hb (tokIs_lt h) h1 g1
  split
  · rename_i h
    exact (pBr_g hp (by omega) (by omega) (tokIs_lt h)).thn fun _ m _ h1 g1 => pMk_g hb (tokIs_lt h) h1 g1
  split
  · rename_i h
    exact (pBr_g hp (by omega) (by omega) (tokIs_lt h)).thn fun _ m _ h1 g1 => pMk_g hb (tokIs_lt h) h1 g1
  split
  · rename_i h; exact pMem_g hp hk hb (tokIs_lt h) (by omega) (tokIs_lt h)
  · exact pLeaf_g hb hn
theorem pSl_g : ∀ (f : Nat) (u : Ex) (n : Nat), b ≤ n → n ≤ T.length → Good T b (pSl T f u n)
  | 0, u, n, hb, hn => good_ok hb hn
  | f + 1, u, n, hb, hn => by
    rw [pSl]
    split
    · rename_i h
      refine (pDim_g (by omega) (tokIs_lt h)).thn fun hi n1 e1 h1 g1 => ?_
      refine Good.thn (b := b) (T := T) ?_ fun lo n2 e2 h2 g2 => ?_
      · split
        · rename_i h'; exact pDim_g (by omega) (tokIs_lt h')
        · exact good_ok h1 g1
      refine (pNeed_g h2 g2).thn fun _ n3 e3 h3 g3 => ?_
      refine (pMk_g hb (tokIs_lt h) h3 g3).thn fun u' n4 e4 h4 g4 => ?_
      exact pSl_g f _ n4 h4 g4
    · exact good_ok hb hn
theorem pPost_g (hG : Goes pe) (hp : GoodE T k pe) (hk : k ≤ n + 1) (hb : b ≤ n) (hn : n ≤ T.length) : Good T b (pPost T pe n) := by
  unfold pPost
  exact (pPrim_g hG hp hk hb hn).thn fun t m _ h1 g1 => pSl_g _ _ _ h1 g1
theorem pUn_g (hG : Goes pe) (hp : GoodE T k pe) : ∀ (f n : Nat), k ≤ n + 1 → b ≤ n → n ≤ T.length → Good T b (pUn T pe f n)
  | 0, n, hk, hb, hn => pPost_g hG hp hk hb hn
  | f + 1, n, hk, hb, hn => by
    rw [pUn]
    split
    · rename_i h
      exact (pUn_g hG hp f (n + 1) (by omega) (by omega) (tokIs_lt h)).thn fun _ m _ h1 g1 => pMk_g hb (tokIs_lt h) h1 g1
    · exact pPost_g hG hp hk hb hn
theorem opOf_lt1 (h : 1 ≤ (opOf T n).1) : n < T.length := by
  unfold opOf at h
  split at h
  · rename_i t ht
    have := List.find?_some ht
    exact tokIs_lt this
  · simp at h
theorem pLoop_g (hG : Goes pe) (hp : GoodE T k pe) : ∀ (f l m : Nat) (t : Ex) (n : Nat), 1 ≤ l → k ≤ n + 1 → b ≤ n → n ≤ T.length → Good T b (pLoop T pe f l m t n)
  | 0, l, m, t, n, _, hk, hb, hn => good_ok hb hn
  | f + 1, l, m, t, n, hl, hk, hb, hn => by
    rw [pLoop]
    split
    · exact good_ok hb hn
    · rename_i h
      have hlt : n < T.length := opOf_lt1 (by omega)
      refine Good.thn (b := b) (T := T) (pUn_g hG hp _ (n + 1) (by omega) (by omega) hlt) fun r0 n1 e1 h1 g1 => ?_
      have := pUn_ok hG _ _ _ _ e1
      refine Good.thn (b := b) (T := T) (pLoop_g hG hp f _ _ _ n1 (by omega) (by omega) h1 g1) fun r n2 e2 h2 g2 => ?_
      have := pLoop_ok hG _ _ _ _ _ _ _ e2
      refine (pMk_g hb hlt h2 g2).thn fun t' n3 e3 h3 g3 => ?_
      have := pMk_ok e3
      exact pLoop_g hG hp f _ _ _ n3 hl (by omega) h3 g3
theorem pBet_g {f l : Nat} (hG : Goes pe) (hp : GoodE T k pe) (hl : 1 ≤ l) (hk : k ≤ n + 1) (hb : b ≤ n) (hn : n ≤ T.length) : Good T b (pBet T pe f l n) := by
  unfold pBet
  refine Good.thn (b := b) (T := T) (pUn_g hG hp _ n hk hb hn) fun t m e h1 g1 => ?_
  have := pUn_ok hG _ _ _ _ e
  exact pLoop_g hG hp _ _ _ _ _ hl (by omega) h1 g1
end

theorem pEx_g (T : List LexM.Tk) : ∀ (f b n : Nat), b ≤ n → n ≤ T.length → T.length < n + f → Good T b (pEx T f n)
  | 0, b, n, _, hn, hf => by omega
  | f + 1, b, n, hb, hn, hf => by
    rw [pEx]
    have hp : GoodE T (n + 1) (pEx T f) := fun b' m hb' hm hm' => pEx_g T f b' m hb' hm' (by omega)
    have hG := pEx_goes T f
    refine (pBet_g hG hp (Nat.le_refl _) (Nat.le_refl _) hb hn).thn fun a n1 e1 h1 g1 => ?_
    have := pBet_ok hG e1
    split
    · rename_i h
      refine (hp b (n1 + 1) (by omega) (by omega) (tokIs_lt h)).thn fun _ n2 e2 h2 g2 => ?_
      have := hG _ _ _ e2
      refine (pNeed_g h2 g2).thn fun _ n3 e3 h3 g3 => ?_
      have := pNeed_ok e3
      refine (hp b n3 h3 (by omega) g3).thn fun _ n4 e4 h4 g4 => ?_
      exact pMk_g h1 (tokIs_lt h) h4 g4
    · exact good_ok h1 g1

section
variable {T : List LexM.Tk} {b n : Nat}
theorem pExpr_g (hb : b ≤ n) (hn : n ≤ T.length) : Good T b (pExpr T n) := pEx_g T _ b n hb hn (by omega)
theorem pWire_g {i : It} (hb : b ≤ n) (hn : n ≤ T.length) : Good T b (pWire T i n) := by
  unfold pWire
  refine (pNeed_g hb hn).thn fun _ n1 _ h1 g1 => (pDim_g h1 g1).thn fun _ n2 _ h2 g2 => (pNeed_g h2 g2).thn fun _ n3 _ h3 g3 => (pExpr_g h3 g3).thn fun _ n4 _ h4 g4 => good_ok h4 g4
theorem pReg_g {i : It} (hb : b ≤ n) (hn : n ≤ T.length) : Good T b (pReg T i n) := by
  unfold pReg
  refine (pNeed_g hb hn).thn fun _ n1 _ h1 g1 => (pDim_g h1 g1).thn fun _ n2 _ h2 g2 => (pNeed_g h2 g2).thn fun _ n3 _ h3 g3 => (pDim_g h3 g3).thn fun _ n4 _ h4 g4 => good_ok h4 g4
theorem pMemo_g {i : It} (hb : b ≤ n) (hn : n ≤ T.length) : Good T b (pMemo T i n) := by
  unfold pMemo
  refine (pNeed_g hb hn).thn fun _ n1 _ h1 g1 => (pDim_g h1 g1).thn fun _ n2 _ h2 g2 => (pNeed_g h2 g2).thn fun _ n3 _ h3 g3 => (pNeed_g h3 g3).thn fun _ n4 _ h4 g4 => (pDim_g h4 g4).thn fun _ n5 _ h5 g5 => good_ok h5 g5
theorem pProp_g {i : It} (hb : b ≤ n) (hn : n ≤ T.length) : Good T b (pProp T i n) := by
  unfold pProp
  refine (pNeed_g hb hn).thn fun _ n1 _ h1 g1 => (pExpr_g h1 g1).thn fun _ n2 _ h2 g2 => good_ok h2 g2
theorem pValue_g {i : It} (hb : b ≤ n) (hn : n ≤ T.length) : Good T b (pValue T i n) := by
  unfold pValue
  refine (pNeed_g hb hn).thn fun _ n1 _ h1 g1 => (pExpr_g h1 g1).thn fun _ n2 _ h2 g2 => good_ok h2 g2
theorem pPut_g {i : It} (hb : b ≤ n) (hn : n ≤ T.length) : Good T b (pPut T i n) := by
  unfold pPut
  refine (pNeed_g hb hn).thn fun _ n1 _ h1 g1 => (pExpr_g h1 g1).thn fun _ n2 _ h2 g2 => (pNeed_g h2 g2).thn fun _ n3 _ h3 g3 => (pNeed_g h3 g3).thn fun _ n4 _ h4 g4 => (pExpr_g h4 g4).thn fun _ n5 _ h5 g5 => (pNeed_g h5 g5).thn fun _ n6 _ h6 g6 => (pExpr_g h6 g6).thn fun _ n7 _ h7 g7 => good_ok h7 g7

theorem pMore_g {σ : Type} {q : σ → Nat → PR σ} (hq : ∀ s n, b ≤ n → n ≤ T.length → Good T b (q s n)) : ∀ (f : Nat) (s : σ) (n : Nat), b ≤ n → n ≤ T.length → Good T b (pMore T q f s n)
  | 0, s, n, hb, hn => by
    rw [pMore]
    split
    · rename_i h; exact good_gu (by omega) (tokIs_lt h) (.inl rfl)
    · exact good_ok hb hn
  | f + 1, s, n, hb, hn => by
    rw [pMore]
    split
    · rename_i h
      exact (hq s (n + 1) (by omega) (tokIs_lt h)).thn fun s' n' _ h1 g1 => pMore_g hq f s' n' h1 g1
    · exact good_ok hb hn
theorem pList_g {σ : Type} {q : σ → Nat → PR σ} (hq : ∀ s n, b ≤ n → n ≤ T.length → Good T b (q s n)) {most : Nat} {s : σ} (hb : b ≤ n) (hn : n ≤ T.length) : Good T b (pList T q most s n) := by
  unfold pList
  exact (hq s n hb hn).thn fun s' n' _ h1 g1 => pMore_g hq _ s' n' h1 g1
theorem pBind_g (hb : b ≤ n) (hn : n ≤ T.length) : Good T b (pBind T n) := by
  unfold pBind
  refine (pName_g hb hn).thn fun _ n1 _ h1 g1 => (pNeed_g h1 g1).thn fun _ n2 _ h2 g2 => (pExpr_g h2 g2).thn fun _ n3 _ h3 g3 => good_ok h3 g3
theorem pPortR_g {o : Bool} (hb : b ≤ n) (hn : n ≤ T.length) : Good T b (pPortR T o n) := by
  unfold pPortR
  refine (pName_g hb hn).thn fun _ n1 _ h1 g1 => (pNeed_g h1 g1).thn fun _ n2 _ h2 g2 => (pDim_g h2 g2).thn fun _ n3 _ h3 g3 => good_ok h3 g3
theorem pPort_g (hb : b ≤ n) (hn : n ≤ T.length) : Good T b (pPort T n) := by
  unfold pPort
  split
  · rename_i h; exact pPortR_g (by omega) (tokIs_lt h)
  · exact (pNeed_g hb hn).thn fun _ n1 _ h1 g1 => pPortR_g h1 g1
theorem qArg_g (s : It) (n : Nat) (hb : b ≤ n) (hn : n ≤ T.length) : Good T b (qArg T s n) := by
  unfold qArg; exact (pDim_g hb hn).thn fun _ n1 _ h1 g1 => good_ok h1 g1
theorem qBind_g (s : It) (n : Nat) (hb : b ≤ n) (hn : n ≤ T.length) : Good T b (qBind T s n) := by
  unfold qBind; exact (pBind_g hb hn).thn fun _ n1 _ h1 g1 => good_ok h1 g1
theorem qParam_g (s : Mh) (n : Nat) (hb : b ≤ n) (hn : n ≤ T.length) : Good T b (qParam T s n) := by
  unfold qParam; exact (pName_g hb hn).thn fun _ n1 _ h1 g1 => good_ok h1 g1
theorem qPort_g (s : Mh) (n : Nat) (hb : b ≤ n) (hn : n ≤ T.length) : Good T b (qPort T s n) := by
  unfold qPort; exact (pPort_g hb hn).thn fun _ n1 _ h1 g1 => good_ok h1 g1
theorem pArgs_g {i : It} (hb : b ≤ n) (hn : n ≤ T.length) : Good T b (pArgs T i n) := by
  unfold pArgs
  split
  · rename_i h
    refine (pList_g qArg_g (by omega) (tokIs_lt h)).thn fun _ n1 _ h1 g1 => (pNeed_g h1 g1).thn fun _ n2 _ h2 g2 => good_ok h2 g2
  · exact good_ok hb hn
theorem pBinds_g {i : It} (hb : b ≤ n) (hn : n ≤ T.length) : Good T b (pBinds T i n) := by
  unfold pBinds
  split
  · exact good_ok hb hn
  · exact pList_g qBind_g hb hn
theorem pInst_g {i : It} (hb : b ≤ n) (hn : n ≤ T.length) : Good T b (pInst T i n) := by
  unfold pInst
  refine (pName_g hb hn).thn fun _ n1 _ h1 g1 => (pArgs_g h1 g1).thn fun _ n2 _ h2 g2 => (pNeed_g h2 g2).thn fun _ n3 _ h3 g3 => (pBinds_g h3 g3).thn fun _ n4 _ h4 g4 => (pNeed_g h4 g4).thn fun _ n5 _ h5 g5 => good_ok h5 g5
theorem restOf_g {F : Nat} {i : It} (hb : b ≤ n) (hn : n ≤ T.length) : Good T b (restOf F T i n) := by
  unfold restOf
  split
  · exact pWire_g hb hn
  split
  · exact pReg_g hb hn
  split
  · exact pMemo_g hb hn
  split
  · exact pInst_g hb hn
  split
  · exact pProp_g hb hn
  split
  · exact pValue_g hb hn
  · exact pPut_g hb hn
theorem pItemR_g {F kind : Nat} (hb : b ≤ n) (hn : n ≤ T.length) : Good T b (pItemR T (restOf F) kind n) := by
  unfold pItemR
  refine (pName_g hb hn).thn fun _ n1 _ h1 g1 => (restOf_g h1 g1).thn fun _ n2 _ h2 g2 => (pNeed_g h2 g2).thn fun _ n3 _ h3 g3 => good_ok h3 g3
theorem pItem_g {k : Nat} (hn : n ≤ T.length) : Good T n (pItem T k n) := by
  unfold pItem
  split
  · rename_i h; exact good_gu (Nat.le_refl _) hn (.inr (.inr h))
  · rename_i h
    split
    · exact good_gu (Nat.le_refl _) hn (.inr (.inl rfl))
    · split
      · exact good_gu (Nat.le_refl _) hn (.inl rfl)
      · exact pItemR_g (by omega) (by omega)
theorem pItem_goes {k m : Nat} {i : It} (hn : n ≤ T.length) (h : pItem T k n = .ok (i, m)) : n < m := by
  unfold pItem at h
  split at h
  · cases h
  · rename_i hn'
    split at h
    · cases h
    · split at h
      · cases h
      · rename_i t kind F _ _
        have := pItemR_g (T := T) (b := n + 1) (n := n + 1) (F := F) (kind := kind) (Nat.le_refl _) (by omega)
        rw [h] at this
        exact this.1
theorem pPast_g : ∀ (f n : Nat), b ≤ n → n + f = T.length → Good T b (pPast T f n)
  | 0, n, hb, hn => by
    rw [pPast]
    split
    · exact good_ok hb (by omega)
    · split
      · rename_i h; exact good_ok (by omega) (tokIs_lt h)
      · exact good_gu hb (by omega) (.inr (.inr (by omega)))
  | f + 1, n, hb, hn => by
    rw [pPast]
    split
    · exact good_ok hb (by omega)
    · split
      · rename_i h; exact good_ok (by omega) (tokIs_lt h)
      · exact pPast_g f (n + 1) (by omega) (by omega)
/-- behind a fault something was passed over -/
theorem pPast_goes : ∀ (f n : Nat) (m : Nat), tokIs T n [125] = false → pPast T f n = .ok ((), m) → n < m
  | 0, n, m, hT, h => by
    rw [pPast, hT] at h
    simp only [Bool.false_eq_true, if_false] at h
    split at h
    · have := (ok_inv h).2; omega
    · cases h
  | f + 1, n, m, hT, h => by
    rw [pPast, hT] at h
    simp only [Bool.false_eq_true, if_false] at h
    split at h
    · have := (ok_inv h).2; omega
    · by_cases h2 : tokIs T (n + 1) [125] = true
      · cases f with
        | zero => rw [pPast, if_pos h2] at h; have := (ok_inv h).2; omega
        | succ f => rw [pPast, if_pos h2] at h; have := (ok_inv h).2; omega
      · have := pPast_goes f (n + 1) m (by simpa using h2) h; omega
end

/-- what is behind a module's word, up to its items -/
def pHead (T : List LexM.Tk) (n : Nat) : PR Mh :=
  thn (pName T n) fun l n1 =>
    thn (if tokIs T n1 [60] = true then thn (pList T (qParam T) 4 ⟨l, [], []⟩ (n1 + 1)) fun m n2 => thn (pNeed T n2 [62]) fun _ n3 => .ok (m, n3) else .ok (⟨l, [], []⟩, n1)) fun m n4 =>
      thn (pNeed T n4 [40]) fun _ n5 => thn (if tokIs T n5 [41] = true then .ok (m, n5) else pList T (qPort T) 16 m n5) fun m' n6 =>
        thn (pNeed T n6 [41]) fun _ n7 => thn (pNeed T n7 [123]) fun _ n8 => .ok (m', n8)
theorem pHead_g {T : List LexM.Tk} {b n : Nat} (hb : b ≤ n) (hn : n ≤ T.length) : Good T b (pHead T n) := by
  unfold pHead
  refine (pName_g hb hn).thn fun l n1 _ h1 g1 => ?_
  refine Good.thn (b := b) (T := T) ?_ fun m n4 _ h4 g4 => ?_
  · split
    · rename_i h
      exact (pList_g qParam_g (by omega) (tokIs_lt h)).thn fun _ n2 _ h2 g2 => (pNeed_g h2 g2).thn fun _ n3 _ h3 g3 => good_ok h3 g3
    · exact good_ok h1 g1
  refine (pNeed_g h4 g4).thn fun _ n5 _ h5 g5 => ?_
  refine Good.thn (b := b) (T := T) ?_ fun m' n6 _ h6 g6 => ?_
  · split
    · exact good_ok h5 g5
    · exact pList_g qPort_g h5 g5
  exact (pNeed_g h6 g6).thn fun _ n7 _ h7 g7 => (pNeed_g h7 g7).thn fun _ n8 _ h8 g8 => good_ok h8 g8

abbrev Fs := List (Nat × Nat)
/-- how many items have begun then -/
def bk (T : List LexM.Tk) (k n : Nat) : Nat := if n ≠ T.length ∧ (ruleOf (tokAt T n).text).isSome = true ∧ k ≠ 64 then k + 1 else k
theorem bk_le {T : List LexM.Tk} {k n : Nat} (h : k ≤ 64) : bk T k n ≤ 64 := by unfold bk; split <;> omega
theorem begun_it (T : List LexM.Tk) (V : Va) (n : Nat) : begun T V n = { V with it := bk T V.it n } := by
  unfold begun bk
  split <;> rfl

/-- a module's items, and the faults told -/
def pBody (T : List LexM.Tk) : Nat → Nat → List It → Fs → Nat → PR (List It) × Fs
  | 0, _, _, fs, n => (.error (0, n), fs)
  | f + 1, k, is, fs, n =>
    if tokIs T n [125] = true then (.ok (is, n + 1), fs) else match pItem T k n with
    | .ok (i, m) => pBody T f (bk T k n) (is ++ [i]) fs m
    | .error x => if x.1 = 21 ∨ fs.length = 19 then (.error x, fs) else match pPast T (T.length - x.2) x.2 with
      | .ok (_, m) => pBody T f (bk T k n) is (fs ++ [x]) m
      | .error y => (.error y, fs ++ [x])

structure Mo where
  name : List UInt8
  params : List (List UInt8)
  ports : List (Bool × List UInt8 × Dm)
  items : List It

/-- a module, the faults told, and how many have begun -/
def pModule (T : List LexM.Tk) (mo : Nat) (fs : Fs) (n : Nat) : PR Mo × Fs × Nat :=
  if tokIs T n wModule = true then
    if mo = 16 then (.error (gu T n 2), fs, mo) else match pHead T (n + 1) with
    | .error x => (.error x, fs, mo + 1)
    | .ok (m, n1) => match pBody T (T.length + 1) 0 [] fs n1 with
      | (.error x, fs') => (.error x, fs', mo + 1)
      | (.ok (is, n2), fs') => (.ok (⟨m.name, m.params, m.ports, is⟩, n2), fs', mo + 1)
  else (.error (gu T n 20), fs, mo)

/-- the modules, and the faults -/
def pDesign (T : List LexM.Tk) : Nat → Nat → List Mo → Fs → Nat → List Mo × Fs
  | 0, _, ms, fs, _ => (ms, fs)
  | f + 1, mo, ms, fs, n =>
    if n < T.length then match pModule T mo fs n with
      | (.ok (m, n1), fs1, mo1) => pDesign T f mo1 (ms ++ [m]) fs1 n1
      | (.error x, fs1, mo1) => if x.1 = 21 ∨ fs1.length = 19 then (ms, fs1 ++ [x]) else pDesign T f mo1 ms (fs1 ++ [x]) (pastMod T x.1 x.2)
    else (ms, fs)

/-- faults told so far: at tokens up to n, in their order -/
def FsOk (T : List LexM.Tk) (n : Nat) (fs : Fs) : Prop := (∀ x ∈ fs, x.2 ≤ n ∧ x.2 < T.length ∧ (x.1 = 2 ∨ x.1 = 20)) ∧ fs.Pairwise (fun a b => a.2 ≤ b.2)
theorem FsOk.mono {T : List LexM.Tk} {n m : Nat} {fs : Fs} (h : FsOk T n fs) (hm : n ≤ m) : FsOk T m fs := ⟨fun x hx => ⟨Nat.le_trans (h.1 x hx).1 hm, (h.1 x hx).2⟩, h.2⟩
theorem FsOk.snoc {T : List LexM.Tk} {n : Nat} {fs : Fs} {x : Nat × Nat} (h : FsOk T n fs) (hx : ErrAt T n x) (h21 : x.1 ≠ 21) : FsOk T x.2 (fs ++ [x]) := by
  obtain ⟨h1, h2⟩ := hx
  have h3 : x.2 < T.length ∧ (x.1 = 2 ∨ x.1 = 20) := by
    rcases h2 with h2 | h2
    · exact h2
    · exact (h21 h2.2).elim
  refine ⟨fun y hy => ?_, ?_⟩
  · rcases List.mem_append.1 hy with hy | hy
    · exact ⟨Nat.le_trans (h.1 y hy).1 h1, (h.1 y hy).2⟩
    · obtain rfl : y = x := by simpa using hy
      exact ⟨Nat.le_refl _, h3⟩
  · rw [List.pairwise_append]
    refine ⟨h.2, List.pairwise_singleton _ _, fun a ha c hc => ?_⟩
    obtain rfl : c = x := by simpa using hc
    exact Nat.le_trans (h.1 a ha).1 h1

/-- where a piece has ended -/
def endAt {α : Type} : PR α → Nat
  | .ok (_, m) => m
  | .error x => x.2

theorem pBody_ok (T : List LexM.Tk) : ∀ (f k : Nat) (is : List It) (fs : Fs) (n : Nat), n ≤ T.length → T.length < n + f → FsOk T n fs → fs.length ≤ 19 →
    Good T n (pBody T f k is fs n).1 ∧ FsOk T (endAt (pBody T f k is fs n).1) (pBody T f k is fs n).2 ∧ (pBody T f k is fs n).2.length ≤ 19
  | 0, k, is, fs, n, hn, hf, _, _ => by omega
  | f + 1, k, is, fs, n, hn, hf, ho, hl => by
    rw [pBody]
    split
    · rename_i h; exact ⟨good_ok (by omega) (tokIs_lt h), ho.mono (by simp [endAt]), hl⟩
    · rename_i hT
      have hg := pItem_g (T := T) (k := k) hn
      rcases hi : pItem T k n with x | ⟨i, m⟩
      · rw [hi] at hg
        have hx : ErrAt T n x := hg
        simp only []
        split
        · exact ⟨hx, ho.mono hx.1, hl⟩
        · rename_i h21
          have hx' : x.1 ≠ 21 := fun e => h21 (.inl e)
          have hfl : fs.length ≠ 19 := fun e => h21 (.inr e)
          have ho' := ho.snoc hx hx'
          have hx2 : x.2 ≤ T.length := by rcases hx.2 with h | h <;> omega
          have hp := pPast_g (T := T) (b := x.2) (T.length - x.2) x.2 (Nat.le_refl _) (by omega)
          have hl' : (fs ++ [x]).length ≤ 19 := by simp; omega
          rcases hq : pPast T (T.length - x.2) x.2 with y | ⟨u, m⟩
          · rw [hq] at hp
            exact ⟨⟨Nat.le_trans hx.1 hp.1, hp.2⟩, ho'.mono hp.1, hl'⟩
          · rw [hq] at hp
            have hgo : n < m := by
              have h1 := hx.1
              have h2 := hp.1
              rcases Nat.lt_or_ge n x.2 with h3 | h3
              · omega
              · have h4 : x.2 = n := by omega
                rw [h4] at hq
                exact pPast_goes _ _ _ (by simpa using hT) hq
            have ih := pBody_ok T f (bk T k n) is (fs ++ [x]) m hp.2 (by omega) (ho'.mono hp.1) hl'
            exact ⟨ih.1.mono (by omega), ih.2⟩
      · rw [hi] at hg
        have hgo := pItem_goes hn hi
        have ih := pBody_ok T f (bk T k n) (is ++ [i]) fs m hg.2 (by omega) (ho.mono hg.1) hl
        exact ⟨ih.1.mono hg.1, ih.2⟩

theorem pModule_ok {T : List LexM.Tk} {mo n : Nat} {fs : Fs} (hn : n ≤ T.length) (ho : FsOk T n fs) (hl : fs.length ≤ 19) :
    Good T n (pModule T mo fs n).1 ∧ FsOk T (endAt (pModule T mo fs n).1) (pModule T mo fs n).2.1 ∧ (pModule T mo fs n).2.1.length ≤ 19 ∧
    (∀ m q, (pModule T mo fs n).1 = .ok (m, q) → n < q) ∧ (∀ x, (pModule T mo fs n).1 = .error x → x.2 = n → tokIs T n wModule = true → x.1 = 2) := by
  unfold pModule
  split
  · rename_i h
    have hlt := tokIs_lt h
    split
    · refine ⟨good_gu (Nat.le_refl _) hn (.inl rfl), ho, hl, fun _ _ e => (by cases e), fun x e _ _ => ?_⟩
      injection e with e
      subst e
      unfold gu
      rw [if_neg (by omega)]
    · have hg := pHead_g (T := T) (b := n + 1) (n := n + 1) (Nat.le_refl _) hlt
      rcases hp : pHead T (n + 1) with x | ⟨m, n1⟩
      · rw [hp] at hg
        have hx : ErrAt T (n + 1) x := hg
        refine ⟨⟨by have := hx.1; omega, hx.2⟩, ho.mono (by have := hx.1; show n ≤ x.2; omega), hl, fun _ _ e => (by cases e), fun y e e2 _ => ?_⟩
        injection e with e
        subst e
        have := hx.1
        omega
      · rw [hp] at hg
        have h1 : n + 1 ≤ n1 := hg.1
        have hb := pBody_ok T (T.length + 1) 0 [] fs n1 hg.2 (by omega) (ho.mono (by omega)) hl
        rcases hq : pBody T (T.length + 1) 0 [] fs n1 with ⟨r, fs'⟩
        rw [hq] at hb
        simp only [] at hb ⊢
        rw [hq]
        rcases r with x | ⟨is, n2⟩
        · refine ⟨hb.1.mono (by omega), hb.2.1, hb.2.2, fun _ _ e => (by cases e), fun y e e2 _ => ?_⟩
          injection e with e
          subst e
          have : n1 ≤ x.2 := hb.1.1
          omega
        · refine ⟨⟨?_, hb.1.2⟩, hb.2.1, hb.2.2, fun _ q e => ?_, fun _ e => (by cases e)⟩
          · have : n1 ≤ n2 := hb.1.1
            omega
          · have := (ok_inv e).2
            have : n1 ≤ n2 := hb.1.1
            omega
  · rename_i h
    refine ⟨good_gu (Nat.le_refl _) hn (.inr (.inl rfl)), ho, hl, fun _ _ e => (by cases e), fun _ _ _ e => (h e).elim⟩

theorem toMod_le {T : List LexM.Tk} : ∀ (f n : Nat), n + f = T.length → n ≤ toMod T f n ∧ toMod T f n ≤ T.length
  | 0, n, h => by rw [toMod]; omega
  | f + 1, n, h => by
    rw [toMod]
    split
    · omega
    · have := toMod_le (T := T) f (n + 1) (by omega); omega
/-- behind a module's fault something was passed over -/
theorem pastMod_goes {T : List LexM.Tk} {mo n : Nat} {fs : Fs} {x : Nat × Nat} (hn : n < T.length) (ho : FsOk T n fs) (hl : fs.length ≤ 19) (h : (pModule T mo fs n).1 = .error x) (h21 : x.1 ≠ 21) : n < pastMod T x.1 x.2 ∧ pastMod T x.1 x.2 ≤ T.length ∧ x.2 ≤ pastMod T x.1 x.2 := by
  obtain ⟨hg, _, _, _, h2⟩ := pModule_ok (mo := mo) (Nat.le_of_lt hn) ho hl
  rw [h] at hg
  have hx : ErrAt T n x := hg
  have h3 : x.2 < T.length := by
    rcases hx.2 with h3 | h3
    · exact h3.1
    · exact (h21 h3.2).elim
  have h4 := hx.1
  unfold pastMod
  split
  · have := toMod_le (T := T) (T.length - (x.2 + 1)) (x.2 + 1) (by omega)
    omega
  · rename_i hne
    have ht := toMod_le (T := T) (T.length - x.2) x.2 (by omega)
    rcases Nat.lt_or_ge n x.2 with h5 | h5
    · omega
    · have h6 : x.2 = n := by omega
      have h7 : tokIs T n wModule = false := by
        rcases hw : tokIs T n wModule with _ | _
        · rfl
        · exact (hne (h2 x h h6 hw)).elim
      obtain ⟨f, hf⟩ : ∃ f, T.length - x.2 = f + 1 := ⟨T.length - x.2 - 1, by omega⟩
      rw [hf, h6, toMod, h7]
      simp only [Bool.false_eq_true, if_false]
      have := toMod_le (T := T) f (n + 1) (by omega)
      omega

/-- all faults of a text -/
def FsEnd (T : List LexM.Tk) (fs : Fs) : Prop := fs.length ≤ 20 ∧ ∃ n, (FsOk T n fs ∨ ∃ gs, fs = gs ++ [(21, T.length)] ∧ FsOk T n gs)
theorem pDesign_ok (T : List LexM.Tk) : ∀ (f mo : Nat) (ms : List Mo) (fs : Fs) (n : Nat), n ≤ T.length → FsOk T n fs → fs.length ≤ 19 → FsEnd T (pDesign T f mo ms fs n).2
  | 0, mo, ms, fs, n, hn, ho, hl => ⟨by show fs.length ≤ 20; omega, n, .inl ho⟩
  | f + 1, mo, ms, fs, n, hn, ho, hl => by
    rw [pDesign]
    split
    · rename_i hlt
      obtain ⟨h1, h2, h3, h4, h5⟩ := pModule_ok (mo := mo) hn ho hl
      have h6 : ∀ x, (pModule T mo fs n).1 = .error x → x.1 ≠ 21 → n < pastMod T x.1 x.2 ∧ pastMod T x.1 x.2 ≤ T.length ∧ x.2 ≤ pastMod T x.1 x.2 := fun x => pastMod_goes (mo := mo) (fs := fs) hlt ho hl
      rcases hq : pModule T mo fs n with ⟨r, fs1, mo1⟩
      rw [hq] at h1 h2 h3 h6
      rcases r with x | ⟨m, n1⟩
      · have hx : ErrAt T n x := h1
        simp only []
        split
        · rename_i h
          refine ⟨by show (fs1 ++ [x]).length ≤ 20; simp; exact h3, x.2, ?_⟩
          by_cases h21 : x.1 = 21
          · rcases hx.2 with h7 | h7
            · omega
            · refine .inr ⟨fs1, ?_, h2⟩
              rw [← h21, ← h7.1]
          · refine .inl (FsOk.snoc h2 ⟨Nat.le_refl _, ?_⟩ h21)
            exact hx.2
        · rename_i h
          have h21 : x.1 ≠ 21 := fun e => h (.inl e)
          have h19 : fs1.length ≠ 19 := fun e => h (.inr e)
          obtain ⟨h7, h8, h9⟩ := h6 x rfl h21
          exact pDesign_ok T f mo1 ms (fs1 ++ [x]) _ h8 ((FsOk.snoc h2 ⟨Nat.le_refl _, hx.2⟩ h21).mono h9) (by have := h3; simp; simp only [] at this; omega)
      · exact pDesign_ok T f mo1 (ms ++ [m]) fs1 n1 h1.2 h2 h3
    · exact ⟨by show fs.length ≤ 20; omega, n, .inl ho⟩

end Go.Proofs.YtccjbpghpoblhaaDoor

