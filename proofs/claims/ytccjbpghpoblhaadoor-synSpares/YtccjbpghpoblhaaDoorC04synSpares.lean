/-
  A QUESTION MARK AHEAD OF AN ITEM spoils that item alone, and is one fault. Plain mathematics.
-/
import Derived.Test.YtccjbpghpoblhaaDoorC03synSpares
import Derived.Test.YtccjbpghpoblhaaDoorC01synSpares
namespace Go.Proofs.YtccjbpghpoblhaaDoor

theorem pItem_inv {T : List LexM.Tk} {k n j : Nat} {x : It} (h : pItem T k n = .ok (x, j)) : n ≠ T.length ∧ (ruleOf (tokAt T n).text).isSome = true ∧ k ≠ 64 := by
  unfold pItem at h
  split at h
  · cases h
  · rename_i c
    split at h
    · cases h
    · rename_i t kind F hrule
      split at h
      · cases h
      · rename_i c2
        exact ⟨c, by rw [hrule]; rfl, c2⟩
theorem pItem_fewer {T : List LexM.Tk} {k k' n j : Nat} {x : It} (h : pItem T k n = .ok (x, j)) (hk : k ≤ 64) (hk' : k' ≤ k) : pItem T k' n = .ok (x, j) := by
  obtain ⟨c1, _, c3⟩ := pItem_inv h
  unfold pItem at h ⊢
  rw [if_neg c1] at h ⊢
  split at h
  · cases h
  · rename_i t kind F hrule
    rw [if_neg c3] at h
    try rw [hrule]
    try simp only []
    rw [if_neg (by omega)]
    exact h
theorem bk_item {T : List LexM.Tk} {k k' n j : Nat} {x : It} (h : pItem T k n = .ok (x, j)) (hk : k ≤ 64) (hk' : k' ≤ k) : bk T k' n = k' + 1 := by
  obtain ⟨c1, c2, c3⟩ := pItem_inv h
  unfold bk
  rw [if_pos ⟨c1, c2, by omega⟩]

section
variable {T U : List LexM.Tk} {d lo m : Nat} (h : Sim T U d lo m)
include h
theorem pBody_g : ∀ (f g k k' : Nat) (isT isU : List It) (fs : Fs) (n : Nat) (is' : List It) (j : Nat), k ≤ 64 → k' ≤ k → lo ≤ n → n ≤ T.length → T.length < n + f → U.length < n + d + g → pBody T f k isT [] n = (.ok (is', j), []) → j ≤ m →
    n < j ∧ ∃ rest, is' = isT ++ rest ∧ pBody U g k' isU fs (n + d) = (.ok (isU ++ rest, j + d), fs)
  | 0, g, k, k', isT, isU, fs, n, is', j, hk, hk', hlo, hn, hf, hg, hr, hj => by omega
  | f + 1, g, k, k', isT, isU, fs, n, is', j, hk, hk', hlo, hn, hf, hg, hr, hj => by
    have hmu := h.mu
    rw [pBody] at hr
    split at hr
    · rename_i c
      simp only [Prod.mk.injEq, and_true] at hr
      obtain ⟨rfl, rfl⟩ := ok_inv hr
      refine ⟨by omega, [], by simp, ?_⟩
      cases g with
      | zero => omega
      | succ g => rw [pBody, tokIs_s h (by omega), if_pos c, show n + d + 1 = n + 1 + d by omega]; simp
    · rename_i c
      rcases hi : pItem T k n with x | ⟨i, q⟩
      · rw [hi] at hr
        simp only [] at hr
        split at hr
        · cases hr
        · rcases hp : pPast T (T.length - x.2) x.2 with y | ⟨_, q⟩
          · rw [hp] at hr; cases hr
          · rw [hp] at hr
            simp only [] at hr
            have := pBody_pre T f (bk T k n) isT ([] ++ [x]) q
            rw [hr] at this
            simp at this
      · rw [hi] at hr
        simp only [] at hr
        have hq : q ≤ T.length := by
          have := pItem_g (T := T) (k := k) hn
          rw [hi] at this
          exact this.2
        have hnq := pItem_goes hn hi
        have hqj : q < j := by
          have := pBody_ok T f (bk T k n) (isT ++ [i]) [] q hq (by omega) ⟨fun x hx => (by cases hx), List.Pairwise.nil⟩ (by simp)
          have hg0 : q ≤ j := by
            rw [hr] at this
            exact this.1.1
          rcases Nat.eq_or_lt_of_le hg0 with e | e
          · exfalso
            subst e
            have hz : ∀ (f k : Nat) (is : List It) (fs : Fs) (n : Nat) (is' : List It) (j : Nat) (fs' : Fs), n ≤ T.length → T.length < n + f → pBody T f k is fs n = (.ok (is', j), fs') → n < j := by
              intro f
              induction f with
              | zero => intro k is fs n is' j fs' h1 h2 h3; omega
              | succ f ih =>
                intro k is fs n is' j fs' h1 h2 h3
                rw [pBody] at h3
                split at h3
                · simp only [Prod.mk.injEq] at h3
                  have := (ok_inv h3.1).2
                  omega
                · rename_i hT
                  have hg := pItem_g (T := T) (k := k) h1
                  rcases hI : pItem T k n with x | ⟨i, q⟩
                  · rw [hI] at h3 hg
                    have hx : ErrAt T n x := hg
                    simp only [] at h3
                    split at h3
                    · cases h3
                    · have hx2 : x.2 ≤ T.length := by rcases hx.2 with h | h <;> omega
                      have hp := pPast_g (T := T) (b := x.2) (T.length - x.2) x.2 (Nat.le_refl _) (by omega)
                      rcases hP : pPast T (T.length - x.2) x.2 with y | ⟨u, q⟩
                      · rw [hP] at h3; cases h3
                      · rw [hP] at h3 hp
                        simp only [] at h3
                        have hgo : n < q := by
                          have h5 := hx.1
                          have h6 := hp.1
                          rcases Nat.lt_or_ge n x.2 with h7 | h7
                          · omega
                          · have h8 : x.2 = n := by omega
                            rw [h8] at hP
                            exact pPast_goes _ _ _ (by simpa using hT) hP
                        have := ih _ _ _ _ _ _ _ hp.2 (by omega) h3
                        omega
                  · rw [hI] at h3 hg
                    simp only [] at h3
                    have := pItem_goes h1 hI
                    have := ih _ _ _ _ _ _ _ hg.2 (by omega) h3
                    omega
            have := hz _ _ _ _ _ _ _ _ hq (by omega) hr
            omega
          · exact e
        cases g with
        | zero => omega
        | succ g =>
          have hb1 := bk_item hi hk (Nat.le_refl _)
          have hb2 := bk_item hi hk hk'
          have hk3 := (pItem_inv hi).2.2
          obtain ⟨l1, rest, e1, e2⟩ := pBody_g f g (bk T k n) (k' + 1) (isT ++ [i]) (isU ++ [i]) fs q is' j (by omega) (by omega) (by omega) hq (by omega) (by omega) hr hj
          obtain ⟨l2, k2⟩ := pItem_s h hn (pItem_fewer hi hk hk') (by omega)
          refine ⟨by omega, i :: rest, by rw [e1]; simp, ?_⟩
          rw [pBody, tokIs_s h (by omega), if_neg c, k2]
          simp only []
          rw [bk_s h (by omega), hb2, e2]
          simp
theorem pModule_g2 {mo mo' mo1 n j : Nat} {fs1 fs : Fs} {x : Mo} (hr : pModule T mo [] n = (.ok (x, j), fs1, mo1)) (h0 : fs1 = []) (hlo : lo ≤ n) (hj : j ≤ m) (hmo : mo' ≠ 16) : n < j ∧ pModule U mo' fs (n + d) = (.ok (x, j + d), fs, mo' + 1) := by
  subst h0
  have hmt := h.mt
  unfold pModule at hr ⊢
  split at hr
  · rename_i c
    split at hr
    · cases hr
    · rcases hh : pHead T (n + 1) with y | ⟨q, n1⟩
      · rw [hh] at hr; cases hr
      · rw [hh] at hr
        simp only [] at hr
        have hg := pHead_g (T := T) (b := n + 1) (n := n + 1) (Nat.le_refl _) (tokIs_lt c)
        rw [hh] at hg
        have hg2 : n + 1 ≤ n1 ∧ n1 ≤ T.length := hg
        rcases hb : pBody T (T.length + 1) 0 [] [] n1 with ⟨y | ⟨is, n2⟩, fs2⟩
        · rw [hb] at hr; cases hr
        · rw [hb] at hr
          simp only [Prod.mk.injEq] at hr
          obtain ⟨hr, rfl, rfl⟩ := hr
          obtain ⟨rfl, rfl⟩ := ok_inv hr
          obtain ⟨l1, rest, e1, e2⟩ := pBody_g h _ (U.length + 1) 0 0 [] [] fs _ _ _ (by omega) (Nat.le_refl _) (by omega) hg2.2 (by omega) (by omega) hb hj
          obtain ⟨l2, k2⟩ := pHead_s h hh (by omega)
          refine ⟨by omega, ?_⟩
          rw [tokIs_s h (by omega), if_pos c, if_neg hmo, show n + d + 1 = n + 1 + d by omega, k2]
          simp only []
          rw [e2, e1]
  · cases hr
end
theorem pModule_inv {T : List LexM.Tk} {mo n j mo1 : Nat} {x : Mo} (hr : pModule T mo [] n = (.ok (x, j), [], mo1)) : tokIs T n wModule = true ∧ mo ≠ 16 ∧ mo1 = mo + 1 ∧ ∃ q n1 is, pHead T (n + 1) = .ok (q, n1) ∧ pBody T (T.length + 1) 0 [] [] n1 = (.ok (is, j), []) ∧ x = ⟨q.name, q.params, q.ports, is⟩ := by
  unfold pModule at hr
  split at hr
  · rename_i c
    by_cases c2 : mo = 16
    · rw [if_pos c2] at hr; simp at hr
    · rw [if_neg c2] at hr
      rcases hh : pHead T (n + 1) with y | ⟨q, n1⟩
      · rw [hh] at hr; simp at hr
      · rw [hh] at hr
        simp only [] at hr
        rcases hb : pBody T (T.length + 1) 0 [] [] n1 with ⟨y | ⟨is, n2⟩, fs2⟩
        · rw [hb] at hr; simp at hr
        · rw [hb] at hr
          simp only [Prod.mk.injEq] at hr
          obtain ⟨hr, rfl, rfl⟩ := hr
          obtain ⟨rfl, rfl⟩ := ok_inv hr
          exact ⟨c, c2, rfl, q, n1, is, rfl, hb, rfl⟩
  · simp at hr

/-- U is T with a question mark put ahead of token c -/
structure Put (T U : List LexM.Tk) (c : Nat) : Prop where
  lt : c < T.length
  len : U.length = T.length + 1
  pre : Sim T U 0 0 c
  suf : Sim T U 1 c T.length
  qm : ∃ t, U[c]? = some t ∧ t.text = [63]

section
variable {T U : List LexM.Tk} {c : Nat} (h : Put T U c)
include h
theorem put_tok (l : List UInt8) (hl : l ≠ [63]) : tokIs U c l = false := by
  obtain ⟨t, h1, h2⟩ := h.qm
  unfold tokIs textAt
  rw [h1, Option.map_some, h2]
  simpa using Ne.symm hl
theorem put_text : (tokAt U c).text = [63] := by
  obtain ⟨t, h1, h2⟩ := h.qm
  rw [tokAt_some h1, h2]
theorem pItem_q (k : Nat) : pItem U k c = .error (20, c) := by
  have := h.len
  have := h.lt
  unfold pItem
  rw [if_neg (by omega), put_text h]
  have : ruleOf [63] = none := by decide
  rw [this]
  simp only []
  unfold gu
  rw [if_neg (by omega)]
theorem bk_q (k : Nat) : bk U k c = k := by
  unfold bk
  rw [put_text h, if_neg]
  intro hx
  have : (ruleOf [63]).isSome = false := by decide
  rw [this] at hx
  exact absurd hx.2.1 (by simp)
theorem past_on {q : Nat} (hpos : 0 < q) (hq : q ≤ T.length) (hs : tokIs T (q - 1) [59] = true) : ∀ (r f i : Nat), i + r = q - 1 → c ≤ i → r ≤ f → NM T [59] i (q - 1) → NM T [125] i q → pPast U f (i + 1) = .ok ((), q + 1)
  | 0, f, i, hi, hc, hf, h1, h2 => by
    have hlt := tokIs_lt hs
    obtain rfl : i = q - 1 := by omega
    have e1 : tokIs U (q - 1 + 1) [125] = false := by rw [tokIs_s h.suf (by omega)]; exact h2 _ (Nat.le_refl _) (by omega)
    have e2 : tokIs U (q - 1 + 1) [59] = true := by rw [tokIs_s h.suf (by omega)]; exact hs
    cases f with
    | zero => rw [pPast, e1, e2]; simp; omega
    | succ f => rw [pPast, e1, e2]; simp; omega
  | r + 1, f, i, hi, hc, hf, h1, h2 => by
    have hlt := tokIs_lt hs
    have e1 : tokIs U (i + 1) [125] = false := by rw [tokIs_s h.suf (by omega)]; exact h2 i (Nat.le_refl _) (by omega)
    have e2 : tokIs U (i + 1) [59] = false := by rw [tokIs_s h.suf (by omega)]; exact h1 i (Nat.le_refl _) (by omega)
    cases f with
    | zero => omega
    | succ f =>
      rw [pPast, e1, e2]
      simp only [Bool.false_eq_true, if_false]
      exact past_on hpos hq hs r f (i + 1) (by omega) (by omega) (by omega) (fun k hk hk2 => h1 k (by omega) hk2) (fun k hk hk2 => h2 k (by omega) hk2)
variable {wd : List UInt8} (hw : Wd T wd) (hS : Wd T [59]) (hc : tokIs T c wd = true) (w1 : wd ≠ [59]) (w2 : wd ≠ [125]) (w3 : wd ≠ wModule) (hb : ∀ i, c ≤ i → i < T.length → NM T [59] c (i + 1) → tokIs T i [125] = false)
include hw hS hc w1 w2 hb
theorem pBody_p : ∀ (f g k : Nat) (is : List It) (n : Nat) (is' : List It) (j : Nat), k ≤ 64 → n ≤ T.length → T.length < n + f → U.length < n + g → pBody T f k is [] n = (.ok (is', j), []) → j ≤ T.length → n ≤ c → c < j →
    ∃ I x J, is' = is ++ I ++ [x] ++ J ∧ pBody U g k is [] n = (.ok (is ++ I ++ J, j + 1), [(20, c)])
  | 0, g, k, is, n, is', j, hk, hn, hf, hg, hr, hj, hnc, hcj => by omega
  | f + 1, 0, k, is, n, is', j, hk, hn, hf, hg, hr, hj, hnc, hcj => by have := h.len; omega
  | f + 1, g + 1, k, is, n, is', j, hk, hn, hf, hg, hr, hj, hnc, hcj => by
    have hlen := h.len
    have hlt := h.lt
    rw [pBody] at hr
    split at hr
    · rename_i c1
      simp only [Prod.mk.injEq, and_true] at hr
      obtain ⟨_, rfl⟩ := ok_inv hr
      obtain rfl : n = c := by omega
      exfalso
      have := nm_tok c1 (Ne.symm w2) n (Nat.le_refl _) (by omega)
      rw [this] at hc
      cases hc
    · rename_i c1
      rcases hi : pItem T k n with x | ⟨i, q⟩
      · rw [hi] at hr
        simp only [] at hr
        split at hr
        · cases hr
        · rcases hp : pPast T (T.length - x.2) x.2 with y | ⟨_, q⟩
          · rw [hp] at hr; cases hr
          · rw [hp] at hr
            simp only [] at hr
            have := pBody_pre T f (bk T k n) is ([] ++ [x]) q
            rw [hr] at this
            simp at this
      · rw [hi] at hr
        simp only [] at hr
        have hq : q ≤ T.length := by
          have := pItem_g (T := T) (k := k) hn
          rw [hi] at this
          exact this.2
        have hnq := pItem_goes hn hi
        have hb1 := bk_item hi hk (Nat.le_refl _)
        have hk3 := (pItem_inv hi).2.2
        rcases Nat.eq_or_lt_of_le hnc with rfl | hnc
        · -- here it stands
          obtain ⟨_, s1, s2⟩ := pItem_n hS hi
          have s0 : NM T [59] n (q - 1) := (nm_tok hc w1).trans s1
          have s3 : NM T [125] n q := fun y hy hyq => by
            rcases Nat.lt_or_ge y (q - 1) with hy2 | hy2
            · exact hb y hy (by omega) (fun z hz hz2 => s0 z hz (by omega))
            · obtain rfl : y = q - 1 := by omega
              exact nm_tok s2 (by decide) (q - 1) (Nat.le_refl _) (by omega)
          have hpast : pPast U (U.length - n) n = .ok ((), q + 1) := by
            have e : U.length - n = (T.length - n) + 1 := by omega
            rw [e, pPast, put_tok h [125] (by decide), put_tok h [59] (by decide)]
            simp only [Bool.false_eq_true, if_false]
            exact past_on h (by omega) hq s2 (q - 1 - n) (T.length - n) n (by omega) (Nat.le_refl _) (by omega) s0 s3
          obtain ⟨_, rest, e1, e2⟩ := pBody_g h.suf f g (bk T k n) k (is ++ [i]) is [(20, n)] q is' j (by omega) (by omega) (by omega) hq (by omega) (by omega) hr hj
          refine ⟨[], i, rest, by rw [e1]; simp, ?_⟩
          rw [pBody, put_tok h [125] (by decide), pItem_q h]
          simp only [Bool.false_eq_true, if_false]
          rw [if_neg (by simp), hpast]
          simp only []
          rw [bk_q h, List.nil_append, e2]
          simp
        · -- an item ahead of it
          have hqc : q ≤ c := by
            rcases Nat.lt_or_ge c q with hlt2 | hge
            · exfalso
              obtain ⟨_, s1, s2⟩ := pItem_n hw hi
              rcases Nat.lt_or_ge c (q - 1) with h5 | h5
              · have := s1 c (by omega) h5
                rw [this] at hc
                cases hc
              · obtain rfl : c = q - 1 := by omega
                have := nm_tok s2 (Ne.symm w1) (q - 1) (Nat.le_refl _) (by omega)
                rw [this] at hc
                cases hc
            · exact hge
          obtain ⟨I, x, J, e1, e2⟩ := pBody_p f g (bk T k n) (is ++ [i]) q is' j (by omega) hq (by omega) (by omega) hr hj hqc hcj
          refine ⟨i :: I, x, J, by rw [e1]; simp, ?_⟩
          have k2 : pItem U k n = .ok (i, q) := (pItem_s h.pre hn hi hqc).2
          have k3 : tokIs U n [125] = tokIs T n [125] := tokIs_s h.pre hnc _
          have k4 : bk U k n = bk T k n := bk_s h.pre hnc
          rw [pBody, k3, if_neg c1, k2]
          simp only []
          rw [k4, e2]
          simp
include w3
theorem pModule_p {mo mo1 n j : Nat} {x : Mo} (hr : pModule T mo [] n = (.ok (x, j), [], mo1)) (hnc : n ≤ c) (hcj : c < j) (hj : j ≤ T.length) :
    ∃ I y J, x.items = I ++ [y] ++ J ∧ pModule U mo [] n = (.ok ({ x with items := I ++ J }, j + 1), [(20, c)], mo + 1) := by
  obtain ⟨t1, m1, rfl, q, n1, is, hh, hbd, rfl⟩ := pModule_inv hr
  have hne : n ≠ c := fun e => by
    subst e
    have := nm_tok t1 (Ne.symm w3) n (Nat.le_refl _) (by omega)
    rw [this] at hc
    cases hc
  have hg := pHead_g (T := T) (b := n + 1) (n := n + 1) (Nat.le_refl _) (tokIs_lt t1)
  rw [hh] at hg
  have hg2 : n + 1 ≤ n1 ∧ n1 ≤ T.length := hg
  have hn1 : n1 ≤ c := by
    rcases Nat.lt_or_ge c n1 with h5 | h5
    · have := pHead_n hw hh c (by omega) h5
      rw [this] at hc
      cases hc
    · exact h5
  obtain ⟨I, y, J, e1, e2⟩ := pBody_p h hw hS hc w1 w2 hb (T.length + 1) (U.length + 1) 0 [] n1 is j (by omega) hg2.2 (by omega) (by omega) hbd hj hn1 hcj
  refine ⟨I, y, J, by simpa using e1, ?_⟩
  have k1 : pHead U (n + 1) = .ok (q, n1) := (pHead_s h.pre hh hn1).2
  have k3 : tokIs U n wModule = tokIs T n wModule := tokIs_s h.pre (by omega) _
  unfold pModule
  rw [k3, if_pos t1, if_neg m1, k1]
  simp only []
  rw [e2]
  simp
omit hw hS hc w1 w2 hb w3 in
/-- behind it -/
theorem pDesign_d : ∀ (f g mo : Nat) (ms msU ms' : List Mo) (fs : Fs) (n : Nat), c ≤ n → n ≤ T.length → T.length < n + f → U.length < n + 1 + g → pDesign T f mo ms [] n = (ms', []) → ∃ B, ms' = ms ++ B ∧ pDesign U g mo msU fs (n + 1) = (msU ++ B, fs)
  | 0, g, mo, ms, msU, ms', fs, n, hc, hn, hf, hg, hr => by omega
  | f + 1, 0, mo, ms, msU, ms', fs, n, hc, hn, hf, hg, hr => by have := h.len; omega
  | f + 1, g + 1, mo, ms, msU, ms', fs, n, hc, hn, hf, hg, hr => by
    have hlen := h.len
    rw [pDesign] at hr
    split at hr
    · rename_i c1
      rcases hp : pModule T mo [] n with ⟨x | ⟨q, n1⟩, fs1, mo1⟩
      · rw [hp] at hr
        simp only [] at hr
        exfalso
        split at hr
        · have := congrArg (fun z => z.2.length) hr
          simp at this
        · have := pDesign_pre T f mo1 ms (fs1 ++ [x]) (pastMod T x.1 x.2)
          rw [hr] at this
          simp at this
      · rw [hp] at hr
        simp only [] at hr
        have hf1 : fs1 = [] := by
          have := pDesign_pre T f mo1 (ms ++ [q]) fs1 n1
          rw [hr] at this
          exact List.eq_nil_of_length_eq_zero (by simpa using this)
        subst hf1
        obtain ⟨_, m1, rfl, _⟩ := pModule_inv hp
        have hn1 : n1 ≤ T.length := by
          have := pModule_ok (T := T) (mo := mo) (n := n) (fs := []) (by omega) ⟨fun x hx => (by cases hx), List.Pairwise.nil⟩ (by simp)
          rw [hp] at this
          exact this.1.2
        obtain ⟨l1, k1⟩ := pModule_g2 h.suf (fs := fs) hp rfl hc hn1 m1
        obtain ⟨B, e1, e2⟩ := pDesign_d f g (mo + 1) (ms ++ [q]) (msU ++ [q]) ms' fs n1 (by omega) hn1 (by omega) (by omega) hr
        refine ⟨q :: B, by rw [e1]; simp, ?_⟩
        rw [pDesign, if_pos (by omega), k1]
        simp only []
        rw [e2]
        simp
    · have e : ms = ms' := congrArg Prod.fst hr
      subst e
      refine ⟨[], by simp, ?_⟩
      rw [pDesign, if_neg (by omega)]
      simp
theorem pDesign_p : ∀ (f g mo : Nat) (ms ms' : List Mo) (n : Nat), n ≤ c → T.length < n + f → U.length < n + g → pDesign T f mo ms [] n = (ms', []) →
    ∃ A x B I y J, ms' = ms ++ A ++ [x] ++ B ∧ x.items = I ++ [y] ++ J ∧ pDesign U g mo ms [] n = (ms ++ A ++ [{ x with items := I ++ J }] ++ B, [(20, c)])
  | 0, g, mo, ms, ms', n, hnc, hf, hg, hr => by have := h.lt; omega
  | f + 1, 0, mo, ms, ms', n, hnc, hf, hg, hr => by have := h.len; have := h.lt; omega
  | f + 1, g + 1, mo, ms, ms', n, hnc, hf, hg, hr => by
    have hlen := h.len
    have hlt := h.lt
    rw [pDesign, if_pos (by omega)] at hr
    rcases hp : pModule T mo [] n with ⟨x | ⟨q, n1⟩, fs1, mo1⟩
    · rw [hp] at hr
      simp only [] at hr
      exfalso
      split at hr
      · have := congrArg (fun z => z.2.length) hr
        simp at this
      · have := pDesign_pre T f mo1 ms (fs1 ++ [x]) (pastMod T x.1 x.2)
        rw [hr] at this
        simp at this
    · rw [hp] at hr
      simp only [] at hr
      have hf1 : fs1 = [] := by
        have := pDesign_pre T f mo1 (ms ++ [q]) fs1 n1
        rw [hr] at this
        exact List.eq_nil_of_length_eq_zero (by simpa using this)
      subst hf1
      obtain ⟨_, m1, rfl, _⟩ := pModule_inv hp
      have hok := pModule_ok (T := T) (mo := mo) (n := n) (fs := []) (by omega) ⟨fun x hx => (by cases hx), List.Pairwise.nil⟩ (by simp)
      rw [hp] at hok
      have hn1 : n1 ≤ T.length := hok.1.2
      have hnn : n < n1 := hok.2.2.2.1 q n1 rfl
      rcases Nat.lt_or_ge c n1 with hcn | hcn
      · obtain ⟨I, y, J, e1, e2⟩ := pModule_p h hw hS hc w1 w2 w3 hb hp hnc hcn hn1
        obtain ⟨B, e3, e4⟩ := pDesign_d h f g (mo + 1) (ms ++ [q]) (ms ++ [{ q with items := I ++ J }]) ms' [(20, c)] n1 (by omega) hn1 (by omega) (by omega) hr
        refine ⟨[], q, B, I, y, J, by rw [e3]; simp, e1, ?_⟩
        rw [pDesign, if_pos (by omega), e2]
        simp only []
        rw [e4]
        simp
      · have k1 : pModule U mo [] n = (.ok (q, n1), [], mo + 1) := (pModule_g2 h.pre (fs := []) hp rfl (Nat.zero_le _) hcn m1).2
        obtain ⟨A, x, B, I, y, J, e1, e2, e3⟩ := pDesign_p f g (mo + 1) (ms ++ [q]) ms' n1 hcn (by omega) (by omega) hr
        refine ⟨q :: A, x, B, I, y, J, by rw [e1]; simp, e2, ?_⟩
        rw [pDesign, if_pos (by omega), k1]
        simp only []
        rw [e3]
        simp
end

/-- the words that begin items, but for one that ports begin with, too -/
def begW : List (List UInt8) := [[119, 105, 114, 101], [114, 101, 103], [109, 101, 109], [105, 110, 115, 116], [97, 115, 115, 101, 114, 116], [97, 115, 115, 117, 109, 101], [99, 111, 118, 101, 114], [110, 101, 120, 116], [112, 117, 116]]
theorem wd_of {T : List LexM.Tk} (hown : ∀ t ∈ T, LexM.Own t) {wd : List UInt8} (h1 : ∀ l ∈ okW, l ≠ wd) (h2 : isWord wd = true ∨ ∀ c r, wd = c :: r → LexM.isLt c = false) (h3 : ∀ c r, wd = c :: r → LexM.isDg c = false) : Wd T wd := by
  refine ⟨h1, fun k hk hwk => ?_, fun k hk => ?_⟩
  · unfold kindIs at hk
    rcases hq : T[k]? with _ | x
    · rw [hq] at hk; simp at hk
    · rw [hq] at hk
      rw [tokAt_some hq] at hwk
      have hk2 : x.kind = 1 := by simpa using hk
      obtain ⟨c, r, hc, a1, a2, a3, a4⟩ := LexM.own_kind (hown x (List.mem_of_getElem? hq))
      unfold tokIs textAt
      rw [hq]
      have : x.text ≠ wd := fun e => by
        rcases h2 with h2 | h2
        · rw [e, h2] at hwk; cases hwk
        · have := h2 c r (by rw [← e]; exact hc)
          rw [hk2, this] at a1
          simp at a1
      simpa using this
  · unfold kindIs at hk
    rcases hq : T[k]? with _ | x
    · rw [hq] at hk; simp at hk
    · rw [hq] at hk
      have hk2 : x.kind = 2 := by simpa using hk
      obtain ⟨c, r, hc, a1, a2, a3, a4⟩ := LexM.own_kind (hown x (List.mem_of_getElem? hq))
      unfold tokIs textAt
      rw [hq]
      have : x.text ≠ wd := fun e => by
        have := h3 c r (by rw [← e]; exact hc)
        rw [hk2, this] at a2
        simp at a2
      simpa using this
theorem begW_ok : ∀ wd ∈ begW, (∀ l ∈ okW, l ≠ wd) ∧ isWord wd = true ∧ wd ≠ [59] ∧ wd ≠ [125] ∧ wd ≠ wModule ∧ (wd.head?.map LexM.isDg) = some false := by decide

/-- a text without faults, a question mark and a blank put ahead of an item's word -/
theorem parse_spares {l : List UInt8} {ms : List Mo} (hl : l.length ≤ 3000) (h : parseOut l = (ms, [])) {T : List LexM.Tk} {e : Nat} (hT : lexOut l = (T, 0, e)) {c : Nat} {t : LexM.Tk} (ht : T[c]? = some t) (hw : t.text ∈ begW)
    (hb : ∀ i, c ≤ i → i < T.length → NM T [59] c (i + 1) → tokIs T i [125] = false) :
    t.pos ≤ l.length ∧ ∃ A x B I y J, ms = A ++ [x] ++ B ∧ x.items = I ++ [y] ++ J ∧ parseOut (l.take t.pos ++ [63, 32] ++ l.drop t.pos) = (A ++ [{ x with items := I ++ J }] ++ B, [(20, t.pos)]) := by
  obtain ⟨T', e1, e2, d1⟩ := parse_clear (by omega) h
  rw [hT] at e2
  simp only [Prod.mk.injEq] at e2
  obtain ⟨rfl, _, rfl⟩ := e2
  obtain ⟨_, c2, _, _⟩ := LexM.lex_cut l.length l 0 T none c t (Nat.le_refl _) e1 ht
  have hput := LexM.lex_put l.length l 0 T none c t (Nat.le_refl _) e1 ht
  rw [Nat.sub_zero] at c2 hput
  have hcl : c < T.length := (List.getElem?_eq_some_iff.1 ht).1
  have hown : ∀ x ∈ T, LexM.Own x := by
    have := LexM.lex_own l.length l 0 (Nat.le_refl _)
    rw [e1] at this
    exact this
  obtain ⟨b1, b2, b3, b4, b5, b6⟩ := begW_ok t.text hw
  have W : Wd T t.text := wd_of hown b1 (.inl b2) (fun c r hcr => by rw [hcr] at b6; simpa using b6)
  have WS : Wd T [59] := wd_of hown (by decide) (.inr (fun c r hcr => by
    have : c = 59 := by simpa using (congrArg List.head? hcr).symm
    rw [this]; decide)) (fun c r hcr => by
    have : c = 59 := by simpa using (congrArg List.head? hcr).symm
    rw [this]; decide)
  obtain ⟨U, hU⟩ : ∃ U, U = T.take c ++ ⟨3, [63], 0, t.pos⟩ :: (T.drop c).map (LexM.mv 2) := ⟨_, rfl⟩
  have htl : (T.take c).length = c := by rw [List.length_take]; omega
  have hlen : U.length = T.length + 1 := by rw [hU]; simp; omega
  have hUc : U[c]? = some ⟨3, [63], 0, t.pos⟩ := by
    rw [hU, List.getElem?_append_right (by omega), htl, Nat.sub_self]
    rfl
  have P : Put T U c := by
    refine ⟨hcl, hlen, ⟨by omega, by omega, fun k _ hk => ?_⟩, ⟨Nat.le_refl _, by omega, fun k hk1 hk2 => ?_⟩, ⟨_, hUc, rfl⟩⟩
    · show Option.map bare U[k]? = _
      rw [hU, List.getElem?_append_left (by omega), List.getElem?_take, if_pos hk]
    · rw [hU, List.getElem?_append_right (by omega), htl, show k + 1 - c = (k - c) + 1 by omega, List.getElem?_cons_succ, List.getElem?_map, List.getElem?_drop, show c + (k - c) = k by omega, Option.map_map]
      rfl
  have htk : tokIs T c t.text = true := by
    unfold tokIs textAt
    rw [ht]
    simp
  obtain ⟨A, x, B, I, y, J, q1, q2, q3⟩ := pDesign_p P W WS htk b3 b4 b5 hb (T.length + 1) (U.length + 1) 0 [] ms 0 (Nat.zero_le _) (by omega) (by omega) d1
  have hlx : lexOut (l.take t.pos ++ [63, 32] ++ l.drop t.pos) = (U, 0, 0) := by
    unfold lexOut
    rw [if_neg (by simp; omega), show l.take t.pos ++ [63, 32] ++ l.drop t.pos = l.take t.pos ++ 63 :: 32 :: l.drop t.pos by simp, hput, hU]
    rfl
  refine ⟨by omega, A, x, B, I, y, J, by simpa using q1, q2, ?_⟩
  unfold parseOut
  rw [hlx]
  simp only [ne_eq, not_true_eq_false, if_false, q3]
  simp only [List.nil_append, List.map_cons, List.map_nil]
  unfold pl
  rw [if_pos (by omega), tokAt_some hUc]
end Go.Proofs.YtccjbpghpoblhaaDoor

