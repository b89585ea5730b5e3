/-
  A QUESTION MARK AND A BLANK put ahead of a token: the tokens of the text. Plain mathematics.
-/
import Derived.Test.YtccjbpghpoblhaaDoorK04
namespace LexM

theorem signs_q : ∀ t ∈ signs, (63 : UInt8) ∉ t.tail := by decide
theorem pre_q {t l : List UInt8} (z : List UInt8) (hl : l ≠ []) (h : (63 : UInt8) ∉ t.tail) : t.isPrefixOf (l ++ 63 :: z) = t.isPrefixOf l := by
  cases l with
  | nil => exact absurd rfl hl
  | cons c r =>
    cases t with
    | nil => simp
    | cons a t =>
      have := pre_stop t r z (by simpa using h)
      rw [List.cons_append]
      simp only [List.isPrefixOf, this]
/-- a step ahead of a question mark -/
theorem step_q {l : List UInt8} (z : List UInt8) (hl : l ≠ []) (hn : ¬ [47, 47].isPrefixOf l = true ∨ (l.takeWhile notNl).length < l.length) : step (l ++ 63 :: z) = step l := by
  cases l with
  | nil => exact absurd rfl hl
  | cons c r =>
    have e1 := takeWhile_stop (p := isWd) (b := 63) (by decide) (c :: r) z
    have e2 := takeWhile_stop (p := isDg) (b := 63) (by decide) (c :: r) z
    have e4 := pre_stop (b := 63) [47, 47] (c :: r) z (by decide)
    have e5 : signs.find? (fun t => t.isPrefixOf ((c :: r) ++ 63 :: z)) = signs.find? (fun t => t.isPrefixOf (c :: r)) := find_congr fun t ht => pre_q z hl (signs_q t ht)
    rw [List.cons_append] at e1 e2 e4 e5
    rw [List.cons_append]
    unfold step
    simp only
    by_cases a1 : isSp c = true
    · rw [if_pos a1, if_pos a1]
    · rw [if_neg a1, if_neg a1]
      by_cases a2 : [47, 47].isPrefixOf (c :: r) = true
      · rw [if_pos a2, if_pos (e4.trans a2)]
        rcases hn with hn | hn
        · exact absurd a2 hn
        · have e3 := takeWhile_in (p := notNl) (63 :: z) hn
          rw [List.cons_append] at e3
          rw [e3]
      · rw [if_neg a2, if_neg (by rw [e4]; exact a2), e1, e2, e5]
theorem takeWhile_next {p : UInt8 → Bool} : ∀ {l : List UInt8}, (l.takeWhile p).length < l.length → ∃ c, l[(l.takeWhile p).length]? = some c ∧ p c = false
  | [], h => by simp at h
  | c :: r, h => by
    rw [List.takeWhile_cons] at h ⊢
    by_cases hc : p c = true
    · rw [if_pos hc] at h ⊢
      have := takeWhile_next (l := r) (by simpa using h)
      simpa using this
    · rw [if_neg hc]
      exact ⟨c, rfl, by simpa using hc⟩
/-- a step that ends at m or ahead of it is the same with a question mark put there -/
theorem step_put {l : List UInt8} {m : Nat} (z : List UInt8) (hl : l ≠ []) (h4 : (step l).1 ≠ 4) (hm : (step l).2.1 ≤ m) (hml : m < l.length) (hnl : l[m]? ≠ some 10) : step (l.take m ++ 63 :: z) = step l := by
  obtain ⟨h1, h2⟩ := step_le hl h4
  have hx : l.take m ≠ [] := take_ne hl (by omega)
  have hst := step_take hl h4 hm
  rw [step_q z hx, hst]
  by_cases hc : [47, 47].isPrefixOf (l.take m) = true
  · right
    have hcl : [47, 47].isPrefixOf l = true := pre_of_take hc
    have hlen : (step l).2.1 = (l.takeWhile notNl).length := by
      cases l with
      | nil => exact absurd rfl hl
      | cons c r =>
        unfold step
        simp only
        have hsp : isSp c = false := by
          have : c = 47 := by
            simp [List.isPrefixOf] at hcl
            exact hcl.1.symm
          rw [this]; decide
        rw [hsp, if_neg (by simp), if_pos hcl]
    rw [hlen] at hm
    have htw : (l.take m).takeWhile notNl = l.takeWhile notNl := takeWhile_take_le hm
    rw [htw, List.length_take]
    rcases Nat.lt_or_ge (l.takeWhile notNl).length m with h | h
    · omega
    · exfalso
      have he : (l.takeWhile notNl).length = m := by omega
      obtain ⟨c, hc1, hc2⟩ := takeWhile_next (p := notNl) (l := l) (by omega)
      rw [he] at hc1
      apply hnl
      rw [hc1]
      have : c = 10 := by
        unfold notNl at hc2
        simpa using hc2
      rw [this]
  · exact .inl hc

/-- the tokens of a text with a question mark and a blank put ahead of one -/
theorem lex_put (n : Nat) : ∀ (l : List UInt8) (i : Nat) (ts : List Tk) (e : Option Nat) (k : Nat) (t : Tk), l.length ≤ n → lex l i = (ts, e) → ts[k]? = some t →
    lex (l.take (t.pos - i) ++ 63 :: 32 :: l.drop (t.pos - i)) i = (ts.take k ++ ⟨3, [63], 0, t.pos⟩ :: (ts.drop k).map (mv 2), e.map (· + 2)) := by
  induction n with
  | zero =>
    intro l i ts e k t hn h hk
    have : l = [] := List.eq_nil_of_length_eq_zero (by omega)
    subst this
    rw [lex_nil] at h
    have : ts = [] := (congrArg Prod.fst h).symm
    rw [this] at hk
    simp at hk
  | succ n ih =>
    intro l i ts e k t hn h hk
    by_cases hl : l = []
    · subst hl
      rw [lex_nil] at h
      have : ts = [] := (congrArg Prod.fst h).symm
      rw [this] at hk
      simp at hk
    · by_cases h4 : (step l).1 = 4
      · rw [lex_bad i hl h4] at h
        have : ts = [] := (congrArg Prod.fst h).symm
        rw [this] at hk
        simp at hk
      · obtain ⟨hs1, hs2⟩ := step_le hl h4
        have hdl : (l.drop (step l).2.1).length ≤ n := by rw [List.length_drop]; omega
        obtain ⟨c1, c2, c3, c4⟩ := lex_cut _ l i ts e k t (Nat.le_refl _) h hk
        -- a token stands there, and no line feed
        have hnl : l[t.pos - i]? ≠ some 10 := by
          intro h10
          have hd : l.drop (t.pos - i) = 10 :: l.drop (t.pos - i + 1) := by
            rw [List.drop_eq_getElem_cons c2]
            have : l[t.pos - i] = 10 := by rw [List.getElem?_eq_getElem c2] at h10; exact Option.some.inj h10
            rw [this]
          rw [hd, lex_skip t.pos (List.cons_ne_nil _ _) (by rfl)] at c4
          have hk0 : (ts.drop k)[0]? = some t := by rw [List.getElem?_drop, Nat.add_zero]; exact hk
          have := (lex_cut _ _ _ _ _ 0 t (Nat.le_refl _) c4 hk0).1
          have e1 : (step (10 :: l.drop (t.pos - i + 1))).2.1 = 1 := rfl
          rw [e1] at this
          omega
        by_cases h0 : (step l).1 = 0
        · have hl2 := lex_skip i hl h0
          rw [hl2] at h
          obtain ⟨d1, d2, _, _⟩ := lex_cut _ _ _ ts e k t (Nat.le_refl _) h hk
          have hm : (step l).2.1 ≤ t.pos - i := by omega
          have hst := step_put (32 :: l.drop (t.pos - i)) hl h4 hm c2 hnl
          have hI := ih _ _ ts e k t hdl h hk
          have hne : l.take (t.pos - i) ++ 63 :: 32 :: l.drop (t.pos - i) ≠ [] := by simp
          rw [lex_skip i hne (by rw [hst]; exact h0), hst, List.drop_append_of_le_length (by rw [List.length_take]; omega), List.drop_take]
          rw [List.drop_drop] at hI
          rw [show t.pos - (i + (step l).2.1) = t.pos - i - (step l).2.1 by omega] at hI
          rw [show (step l).2.1 + (t.pos - i - (step l).2.1) = t.pos - i by omega] at hI
          exact hI
        · have hl2 := lex_tok i hl h4 h0
          rw [hl2] at h
          cases k with
          | zero =>
            have ht : t = ⟨(step l).1, l.take (step l).2.1, (step l).2.2, i⟩ := by
              have := congrArg Prod.fst h
              simp only at this
              rw [← this] at hk
              simpa using hk.symm
            have hp : t.pos = i := by rw [ht]
            rw [hp, Nat.sub_self, List.take_zero, List.drop_zero, List.nil_append, List.take_zero, List.nil_append, List.drop_zero]
            have hq : step (63 :: 32 :: l) = (3, 1, 0) := by rfl
            have hb : step (32 :: l) = (0, 1, 0) := by rfl
            rw [lex_tok i (List.cons_ne_nil _ _) (by rw [hq]; decide) (by rw [hq]; decide), hq]
            simp only [List.drop_succ_cons, List.drop_zero, List.take_succ_cons, List.take_zero]
            rw [lex_skip (i + 1) (List.cons_ne_nil _ _) (by rw [hb]), hb]
            simp only [List.drop_succ_cons, List.drop_zero]
            rw [show i + 1 + 1 = i + 2 by omega, lex_shift _ l i 2 (Nat.le_refl _), hl2, h]
          | succ k =>
            rcases hR : lex (l.drop (step l).2.1) (i + (step l).2.1) with ⟨tr, er⟩
            rw [hR] at h
            simp only [Prod.mk.injEq] at h
            obtain ⟨rfl, rfl⟩ := h
            have hk' : tr[k]? = some t := by simpa using hk
            obtain ⟨d1, d2, _, _⟩ := lex_cut _ _ _ _ _ k t (Nat.le_refl _) hR hk'
            have hm : (step l).2.1 ≤ t.pos - i := by omega
            have hst := step_put (32 :: l.drop (t.pos - i)) hl h4 hm c2 hnl
            have hI := ih _ _ _ _ k t hdl hR hk'
            have hne : l.take (t.pos - i) ++ 63 :: 32 :: l.drop (t.pos - i) ≠ [] := by simp
            rw [lex_tok i hne (by rw [hst]; exact h4) (by rw [hst]; exact h0), hst, List.drop_append_of_le_length (by rw [List.length_take]; omega), List.drop_take]
            rw [List.drop_drop] at hI
            rw [show t.pos - (i + (step l).2.1) = t.pos - i - (step l).2.1 by omega] at hI
            rw [show (step l).2.1 + (t.pos - i - (step l).2.1) = t.pos - i by omega] at hI
            rw [hI, List.take_append_of_le_length (by rw [List.length_take]; omega), List.take_take, Nat.min_eq_left hm]
            simp
end LexM

