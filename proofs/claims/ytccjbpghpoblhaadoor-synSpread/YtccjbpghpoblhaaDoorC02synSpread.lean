/-
  WITH OTHER BLANKS between its tokens a text is parsed alike. Plain mathematics.
-/
import Derived.Test.YtccjbpghpoblhaaDoorK32
/-
  TOKENS ALIKE BUT FOR THEIR PLACES are read alike. Plain mathematics.
-/
namespace Go.Proofs.YtccjbpghpoblhaaDoor

/-- alike but for their places -/
def Alk (T U : List LexM.Tk) : Prop := T.map (fun t => (t.kind, t.text, t.n)) = U.map fun t => (t.kind, t.text, t.n)

section
variable {T U : List LexM.Tk} (h : Alk T U)
include h
theorem alk_len : T.length = U.length := by simpa using congrArg List.length h
theorem alk_at (n : Nat) : T[n]?.map (fun t => (t.kind, t.text, t.n)) = U[n]?.map fun t => (t.kind, t.text, t.n) := by
  have := congrArg (fun l => l[n]?) h
  simpa using this
theorem tokIs_a : tokIs T = tokIs U := by
  funext n l
  have h1 := alk_at h n
  unfold tokIs textAt
  rcases hT : T[n]? with _ | t <;> rcases hU : U[n]? with _ | u <;> rw [hT, hU] at h1 <;> simp_all
theorem kindIs_a : kindIs T = kindIs U := by
  funext n l
  have h1 := alk_at h n
  unfold kindIs
  rcases hT : T[n]? with _ | t <;> rcases hU : U[n]? with _ | u <;> rw [hT, hU] at h1 <;> simp_all
theorem num_a (n : Nat) : (tokAt T n).n = (tokAt U n).n := by
  have h1 := alk_at h n
  unfold tokAt
  rw [List.getD_eq_getElem?_getD, List.getD_eq_getElem?_getD]
  rcases hT : T[n]? with _ | t <;> rcases hU : U[n]? with _ | u <;> rw [hT, hU] at h1 <;> simp_all
theorem text_a (n : Nat) : (tokAt T n).text = (tokAt U n).text := by
  have h1 := alk_at h n
  unfold tokAt
  rw [List.getD_eq_getElem?_getD, List.getD_eq_getElem?_getD]
  rcases hT : T[n]? with _ | t <;> rcases hU : U[n]? with _ | u <;> rw [hT, hU] at h1 <;> simp_all
theorem gu_a : gu T = gu U := by funext n e; unfold gu; rw [alk_len h]
theorem pNeed_a : pNeed T = pNeed U := by funext n l; unfold pNeed; rw [tokIs_a h, gu_a h]
theorem pNumber_a : pNumber T = pNumber U := by funext n; unfold pNumber; rw [kindIs_a h, gu_a h, num_a h]
theorem pName_a : pName T = pName U := by funext n; unfold pName; rw [kindIs_a h, gu_a h, text_a h]
theorem pSide_a : pSide T = pSide U := by funext n; unfold pSide; rw [kindIs_a h, pNumber_a h, pName_a h]
theorem pDim_a : pDim T = pDim U := by funext n; unfold pDim; rw [pSide_a h, tokIs_a h, pNumber_a h]
theorem pBr_a : pBr T = pBr U := by funext pe n; unfold pBr; rw [pNeed_a h]
theorem pCat_a : pCat T = pCat U := by funext pe a n; unfold pCat; rw [pNeed_a h]
theorem pMem_a : pMem T = pMem U := by funext pe a n; unfold pMem; rw [pNeed_a h, pName_a h]
theorem pLeaf_a : pLeaf T = pLeaf U := by funext n; unfold pLeaf; rw [pNeed_a h, pName_a h, pSide_a h, tokIs_a h]
theorem pPrim_a : pPrim T = pPrim U := by funext pe n; unfold pPrim; rw [pBr_a h, pCat_a h, pMem_a h, pLeaf_a h, tokIs_a h]
theorem pSl_a (f : Nat) : pSl T f = pSl U f := by
  induction f with
  | zero => rfl
  | succ f ih => funext t n; rw [pSl, pSl, tokIs_a h, pDim_a h, pNeed_a h, ih]
theorem pPost_a : pPost T = pPost U := by funext pe n; unfold pPost; rw [pPrim_a h, pSl_a h, alk_len h]
theorem pUn_a (pe : Nat → PR Ex) (f : Nat) : pUn T pe f = pUn U pe f := by
  induction f with
  | zero => funext n; rw [pUn, pUn, pPost_a h]
  | succ f ih => funext n; rw [pUn, pUn, tokIs_a h, pPost_a h, ih]
theorem opOf_a : opOf T = opOf U := by funext n; unfold opOf; rw [tokIs_a h]
theorem pLoop_a (pe : Nat → PR Ex) (f : Nat) : pLoop T pe f = pLoop U pe f := by
  induction f with
  | zero => rfl
  | succ f ih => funext a b t n; rw [pLoop, pLoop, opOf_a h, pUn_a h, alk_len h, ih]
theorem pBet_a : pBet T = pBet U := by funext pe f l n; unfold pBet; rw [pUn_a h, pLoop_a h, alk_len h]
theorem pEx_a (f : Nat) : pEx T f = pEx U f := by
  induction f with
  | zero => rfl
  | succ f ih => funext n; rw [pEx, pEx, pBet_a h, tokIs_a h, pNeed_a h, alk_len h, ih]
theorem pExpr_a : pExpr T = pExpr U := by funext n; unfold pExpr; rw [pEx_a h, alk_len h]
theorem pWire_a : pWire T = pWire U := by funext i n; unfold pWire; rw [pNeed_a h, pDim_a h, pExpr_a h]
theorem pReg_a : pReg T = pReg U := by funext i n; unfold pReg; rw [pNeed_a h, pDim_a h]
theorem pMemo_a : pMemo T = pMemo U := by funext i n; unfold pMemo; rw [pNeed_a h, pDim_a h]
theorem pProp_a : pProp T = pProp U := by funext i n; unfold pProp; rw [pNeed_a h, pExpr_a h]
theorem pValue_a : pValue T = pValue U := by funext i n; unfold pValue; rw [pNeed_a h, pExpr_a h]
theorem pPut_a : pPut T = pPut U := by funext i n; unfold pPut; rw [pNeed_a h, pExpr_a h]
theorem pMore_a {σ : Type} (q : σ → Nat → PR σ) (f : Nat) : pMore T q f = pMore U q f := by
  induction f with
  | zero => funext s n; rw [pMore, pMore, tokIs_a h, gu_a h]
  | succ f ih => funext s n; rw [pMore, pMore, tokIs_a h, ih]
theorem pList_a {σ : Type} (q : σ → Nat → PR σ) : pList T q = pList U q := by funext m s n; unfold pList; rw [pMore_a h]
theorem pBind_a : pBind T = pBind U := by funext n; unfold pBind; rw [pName_a h, pNeed_a h, pExpr_a h]
theorem pPortR_a : pPortR T = pPortR U := by funext b n; unfold pPortR; rw [pName_a h, pNeed_a h, pDim_a h]
theorem pPort_a : pPort T = pPort U := by funext n; unfold pPort; rw [tokIs_a h, pPortR_a h, pNeed_a h]
theorem qArg_a : qArg T = qArg U := by funext s n; unfold qArg; rw [pDim_a h]
theorem qBind_a : qBind T = qBind U := by funext s n; unfold qBind; rw [pBind_a h]
theorem qParam_a : qParam T = qParam U := by funext s n; unfold qParam; rw [pName_a h]
theorem qPort_a : qPort T = qPort U := by funext s n; unfold qPort; rw [pPort_a h]
theorem pArgs_a : pArgs T = pArgs U := by funext i n; unfold pArgs; rw [tokIs_a h, pList_a h, qArg_a h, pNeed_a h]
theorem pBinds_a : pBinds T = pBinds U := by funext i n; unfold pBinds; rw [tokIs_a h, pList_a h, qBind_a h]
theorem pInst_a : pInst T = pInst U := by funext i n; unfold pInst; rw [pName_a h, pArgs_a h, pNeed_a h, pBinds_a h]
theorem restOf_a (F : Nat) : restOf F T = restOf F U := by
  unfold restOf
  split
  · exact pWire_a h
  split
  · exact pReg_a h
  split
  · exact pMemo_a h
  split
  · exact pInst_a h
  split
  · exact pProp_a h
  split
  · exact pValue_a h
  · exact pPut_a h
theorem pItemR_a (F : Nat) : pItemR T (restOf F) = pItemR U (restOf F) := by funext k n; unfold pItemR; rw [pName_a h, restOf_a h, pNeed_a h]
theorem pItem_a : pItem T = pItem U := by
  funext k n
  unfold pItem
  rw [alk_len h, text_a h, gu_a h]
  split
  · rfl
  · split
    · rfl
    · split
      · rfl
      · rw [pItemR_a h]
theorem pPast_a (f : Nat) : pPast T f = pPast U f := by
  induction f with
  | zero => funext n; rw [pPast, pPast, tokIs_a h, gu_a h]
  | succ f ih => funext n; rw [pPast, pPast, tokIs_a h, ih]
theorem pHead_a : pHead T = pHead U := by funext n; unfold pHead; rw [pName_a h, tokIs_a h, pList_a h, pNeed_a h, pList_a h, qParam_a h, qPort_a h]
theorem bk_a : bk T = bk U := by funext k n; unfold bk; rw [alk_len h, text_a h]
theorem pBody_a (f : Nat) : pBody T f = pBody U f := by
  induction f with
  | zero => rfl
  | succ f ih => funext k is fs n; rw [pBody, pBody, tokIs_a h, pItem_a h, bk_a h, ih, alk_len h]; simp only [pPast_a h]
theorem pModule_a : pModule T = pModule U := by funext mo fs n; unfold pModule; rw [tokIs_a h, gu_a h, pHead_a h, alk_len h, pBody_a h]
theorem toMod_a (f : Nat) : toMod T f = toMod U f := by
  induction f with
  | zero => rfl
  | succ f ih => funext n; rw [toMod, toMod, tokIs_a h, ih]
theorem pastMod_a : pastMod T = pastMod U := by funext e t; unfold pastMod; rw [alk_len h, toMod_a h, toMod_a h]
theorem pDesign_a (f : Nat) : pDesign T f = pDesign U f := by
  induction f with
  | zero => rfl
  | succ f ih => funext mo ms fs n; rw [pDesign, pDesign, alk_len h, pModule_a h, pastMod_a h, ih]
end
end Go.Proofs.YtccjbpghpoblhaaDoor

namespace Go.Proofs.YtccjbpghpoblhaaDoor

theorem chain_lt {L : List UInt8} : ∀ {ts : List LexM.Tk} {e j k : Nat} {s t : LexM.Tk}, LexM.Chain L e ts → j < k → ts[j]? = some s → ts[k]? = some t → s.pos < t.pos
  | [], _, _, _, _, _, _, _, h, _ => by simp at h
  | u :: r, e, 0, 0, s, t, _, hjk, _, _ => by omega
  | u :: r, e, 0, k + 1, s, t, hc, _, h1, h2 => by
    obtain rfl : u = s := by simpa using h1
    have h3 := chain_at hc.2.2.2.2 (show r[k]? = some t by simpa using h2)
    have h4 : u.text ≠ [] := hc.2.2.2.1.1
    have : 0 < u.text.length := List.length_pos_iff.2 h4
    omega
  | u :: r, e, j + 1, 0, s, t, _, hjk, _, _ => by omega
  | u :: r, e, j + 1, k + 1, s, t, hc, hjk, h1, h2 => chain_lt hc.2.2.2.2 (by omega) (show r[j]? = some s by simpa using h1) (show r[k]? = some t by simpa using h2)
theorem chain_inj {L : List UInt8} {ts : List LexM.Tk} {e j k : Nat} {s t : LexM.Tk} (hc : LexM.Chain L e ts) (h1 : ts[j]? = some s) (h2 : ts[k]? = some t) : s.pos = t.pos ↔ j = k := by
  constructor
  · intro h
    rcases Nat.lt_trichotomy j k with h3 | h3 | h3
    · have := chain_lt hc h3 h1 h2; omega
    · exact h3
    · have := chain_lt hc h3 h2 h1; omega
  · rintro rfl
    rw [h1] at h2
    rw [Option.some.inj h2]

/-- the tokens' text, and what it is parsed as -/
theorem parse_spread {l : List UInt8} (hl : l.length ≤ 3000) {ts : List LexM.Tk} {i : Nat} (he : lexOut l = (ts, 0, i)) :
    ∃ us, (LexM.joinSp (ts.map (·.text))).length ≤ 6000 ∧ lexOut (LexM.joinSp (ts.map (·.text))) = (us, 0, 0) ∧ us.length = ts.length ∧
      (parseOut (LexM.joinSp (ts.map (·.text)))).1 = (parseOut l).1 ∧ (parseOut (LexM.joinSp (ts.map (·.text)))).2.length = (parseOut l).2.length ∧
      ∀ (j : Nat) (x y : Nat × Nat), (parseOut l).2[j]? = some x → (parseOut (LexM.joinSp (ts.map (·.text)))).2[j]? = some y → x.1 = y.1 ∧ (x.1 ≠ 21 → ∀ (k : Nat) (t u : LexM.Tk), ts[k]? = some t → us[k]? = some u → (x.2 = t.pos ↔ y.2 = u.pos)) := by
  have hx : LexM.lex l 0 = (ts, none) := by
    unfold lexOut at he
    rw [if_neg (by omega)] at he
    rcases hx : LexM.lex l 0 with ⟨ts', _ | k⟩
    · rw [hx] at he
      simp only [Prod.mk.injEq] at he
      rw [he.1]
    · rw [hx] at he
      simp at he
  have hown := LexM.lex_own l.length l 0 (Nat.le_refl _)
  have hsp := LexM.lex_spaced l.length l 0 (Nat.le_refl _)
  rw [hx] at hown hsp
  simp only at hown hsp
  obtain ⟨us, e1, e2, e3⟩ := LexM.lex_back ts 0 hown
  have hjl := LexM.joinSp_le (ts.map (·.text))
  generalize LexM.joinSp (ts.map (·.text)) = u at e1 hjl
  have hu : lexOut u = (us, 0, 0) := by
    unfold lexOut
    rw [if_neg (by omega), e1]
  have hal : Alk ts us := by
    unfold Alk
    apply List.ext_getElem?
    intro k
    rw [List.getElem?_map, List.getElem?_map]
    rcases hk : ts[k]? with _ | t
    · have : us[k]? = none := by rw [List.getElem?_eq_none_iff] at hk ⊢; omega
      rw [this]
    · obtain ⟨p, hp⟩ := e3 k t hk
      rw [hp]; rfl
  have hp1 : parseOut l = ((pDesign ts (ts.length + 1) 0 [] [] 0).1, (pDesign ts (ts.length + 1) 0 [] [] 0).2.map fun x => (x.1, pl ts l.length x.2)) := by
    unfold parseOut
    rw [he]
    simp
  have hp2 : parseOut u = ((pDesign ts (ts.length + 1) 0 [] [] 0).1, (pDesign ts (ts.length + 1) 0 [] [] 0).2.map fun x => (x.1, pl us u.length x.2)) := by
    unfold parseOut
    rw [hu]
    simp [e2, pDesign_a hal]
  have hend := pDesign_ok ts (ts.length + 1) 0 [] [] 0 (Nat.zero_le _) ⟨(fun x hx => by cases hx), List.Pairwise.nil⟩ (by simp)
  have hc1 : LexM.Chain l 0 ts := by have := (lexOut_bounds (l := l) (by omega)).2.2; rw [he] at this; exact this
  have hc2 : LexM.Chain u 0 us := by have := (lexOut_bounds (l := u) (by omega)).2.2; rw [hu] at this; exact this
  refine ⟨us, by omega, hu, e2, by rw [hp1, hp2], by rw [hp1, hp2]; simp, ?_⟩
  intro j x y hxj hyj
  rw [hp1] at hxj
  rw [hp2] at hyj
  simp only [List.getElem?_map] at hxj hyj
  obtain ⟨a, ha, rfl⟩ := Option.map_eq_some_iff.1 hxj
  obtain ⟨b, hb, rfl⟩ := Option.map_eq_some_iff.1 hyj
  rw [ha] at hb
  obtain rfl := Option.some.inj hb
  refine ⟨rfl, fun h21 k t v ht hv => ?_⟩
  have halt : a.2 < ts.length := by
    obtain ⟨_, n, hq⟩ := hend
    have hmem := List.mem_of_getElem? ha
    rcases hq with hq | ⟨gs, hgs, hq⟩
    · exact (hq.1 a hmem).2.1
    · rw [hgs] at hmem
      rcases List.mem_append.1 hmem with hmem | hmem
      · exact (hq.1 a hmem).2.1
      · obtain rfl := List.mem_singleton.1 hmem
        exact (h21 rfl).elim
  have q1 : ts[a.2]? = some ts[a.2] := List.getElem?_eq_getElem halt
  have q2 : us[a.2]? = some (us[a.2]'(by omega)) := List.getElem?_eq_getElem (by omega)
  show pl ts l.length a.2 = t.pos ↔ pl us u.length a.2 = v.pos
  unfold pl
  rw [if_pos halt, if_pos (by omega), tokAt_some q1, tokAt_some q2, chain_inj hc1 q1 ht, chain_inj hc2 q2 hv]
end Go.Proofs.YtccjbpghpoblhaaDoor

