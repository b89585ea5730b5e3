/-
  MORE PLAIN LAWS OF LEXING: cuts, joins, blanks behind, tokens told back, places. No program, no memory.
-/
import Derived.Test.YtccjbpghpoblhaaDoorK01
/-
  PLAIN LAWS OF LEXING: what is cut off, what is joined, what is told back. No program, no memory.
-/
namespace LexM

theorem takeWhile_take_le {p : UInt8 → Bool} {l : List UInt8} {m : Nat} (h : (l.takeWhile p).length ≤ m) : (l.take m).takeWhile p = l.takeWhile p := by
  induction l generalizing m with
  | nil => simp
  | cons c r ih =>
    rw [List.takeWhile_cons] at h ⊢
    cases m with
    | zero =>
      split at h
      · simp at h
      · rename_i hc; rw [if_neg hc]; simp
    | succ m =>
      rw [List.take_succ_cons, List.takeWhile_cons]
      split at h
      · rename_i hc
        rw [if_pos hc, if_pos hc, ih (by simp at h; omega)]
      · rename_i hc
        rw [if_neg hc, if_neg hc]

theorem find_mono {q q' : List UInt8 → Bool} {l : List (List UInt8)} {t : List UInt8} (hq : ∀ x, q' x = true → q x = true) (h : l.find? q = some t) (ht : q' t = true) : l.find? q' = some t := by
  induction l with
  | nil => simp at h
  | cons a r ih =>
    rw [List.find?_cons] at h ⊢
    cases ha : q a with
    | true =>
      rw [ha] at h
      have e : a = t := Option.some.inj h
      subst e
      rw [ht]
    | false =>
      rw [ha] at h
      have ha' : q' a = false := by
        cases h' : q' a with
        | false => rfl
        | true => rw [hq a h'] at ha; cases ha
      rw [ha']
      exact ih h

theorem pre_of_take {t l : List UInt8} {m : Nat} (h : t.isPrefixOf (l.take m) = true) : t.isPrefixOf l = true := by
  rw [List.isPrefixOf_iff_prefix] at h ⊢
  exact h.trans (List.take_prefix m l)
theorem pre_to_take {t l : List UInt8} {m : Nat} (h : t.isPrefixOf l = true) (hm : t.length ≤ m) : t.isPrefixOf (l.take m) = true := by
  rw [List.isPrefixOf_iff_prefix] at h ⊢
  obtain ⟨z, rfl⟩ := h
  rw [List.take_append]
  rw [List.take_of_length_le hm]
  exact List.prefix_append _ _

/-- a step that is not cut goes on as it did -/
theorem step_take {l : List UInt8} {m : Nat} (hl : l ≠ []) (h4 : (step l).1 ≠ 4) (hm : (step l).2.1 ≤ m) : step (l.take m) = step l := by
  cases l with
  | nil => exact absurd rfl hl
  | cons c r =>
    have h1 := (step_len c r h4).1
    obtain ⟨k, rfl⟩ : ∃ k, m = k + 1 := ⟨m - 1, by omega⟩
    have et : (c :: r).take (k + 1) = c :: r.take k := rfl
    unfold step at h4 hm ⊢
    rw [et]
    simp only at h4 hm ⊢
    by_cases a1 : isSp c = true
    · rw [if_pos a1, if_pos a1]
    · rw [if_neg a1] at h4 hm
      rw [if_neg a1, if_neg a1]
      by_cases a2 : [47, 47].isPrefixOf (c :: r) = true
      · rw [if_pos a2] at hm
        simp only at hm
        have hlen : 2 ≤ ((c :: r).takeWhile notNl).length := by
          rw [List.isPrefixOf_iff_prefix] at a2
          obtain ⟨z, hz⟩ := a2
          rw [← hz]
          rw [List.cons_append, List.takeWhile_cons, if_pos (by decide), List.cons_append, List.takeWhile_cons, if_pos (by decide)]
          simp
        have hp2 := pre_to_take (m := k + 1) a2 (by simp only [List.length_cons, List.length_nil]; omega)
        rw [et] at hp2
        rw [if_pos hp2, if_pos a2]
        have := takeWhile_take_le hm
        rw [et] at this
        rw [this]
      · have a2' : ¬ [47, 47].isPrefixOf (c :: r.take k) = true := fun h => a2 (pre_of_take (m := k + 1) h)
        rw [if_neg a2] at h4 hm
        rw [if_neg a2, if_neg a2']
        by_cases a3 : isLt c = true
        · rw [if_pos a3] at hm
          rw [if_pos a3, if_pos a3]
          have := takeWhile_take_le hm
          rw [et] at this
          rw [this]
        · rw [if_neg a3] at h4 hm
          rw [if_neg a3, if_neg a3]
          by_cases a4 : isDg c = true
          · rw [if_pos a4] at h4 hm
            rw [if_pos a4, if_pos a4]
            cases hn : num ((c :: r).takeWhile isDg) with
            | none => rw [hn] at h4; exact absurd rfl h4
            | some n =>
              rw [hn] at hm
              have := takeWhile_take_le hm
              rw [et] at this
              rw [this, hn]
          · rw [if_neg a4] at h4 hm
            rw [if_neg a4, if_neg a4]
            cases hf : signs.find? (fun t => t.isPrefixOf (c :: r)) with
            | none => rw [hf] at h4; exact absurd rfl h4
            | some t =>
              rw [hf] at hm
              have hp := List.find?_some hf
              have := find_mono (q' := fun t => t.isPrefixOf (c :: r.take k)) (fun x hx => pre_of_take (m := k + 1) hx) hf (pre_to_take (m := k + 1) hp hm)
              rw [this]

theorem step_le {l : List UInt8} (hl : l ≠ []) (h4 : (step l).1 ≠ 4) : 1 ≤ (step l).2.1 ∧ (step l).2.1 ≤ l.length := by
  cases l with
  | nil => exact absurd rfl hl
  | cons c r => exact step_len c r h4

theorem take_ne {l : List UInt8} {m : Nat} (hl : l ≠ []) (hm : 1 ≤ m) : l.take m ≠ [] := by
  cases l with
  | nil => exact absurd rfl hl
  | cons c r => obtain ⟨k, rfl⟩ : ∃ k, m = k + 1 := ⟨m - 1, by omega⟩; exact List.cons_ne_nil _ _

/-- what is cut off behind a step -/
theorem lex_take {l : List UInt8} {m : Nat} (i : Nat) (hl : l ≠ []) (h4 : (step l).1 ≠ 4) (hm : (step l).2.1 ≤ m) :
    lex (l.take m) i = if (step l).1 = 0 then lex ((l.drop (step l).2.1).take (m - (step l).2.1)) (i + (step l).2.1)
      else (⟨(step l).1, l.take (step l).2.1, (step l).2.2, i⟩ :: (lex ((l.drop (step l).2.1).take (m - (step l).2.1)) (i + (step l).2.1)).1, (lex ((l.drop (step l).2.1).take (m - (step l).2.1)) (i + (step l).2.1)).2) := by
  have hs := step_take hl h4 hm
  have h1 := (step_le hl h4).1
  have hne : l.take m ≠ [] := take_ne hl (by omega)
  have ed : (l.take m).drop (step l).2.1 = (l.drop (step l).2.1).take (m - (step l).2.1) := by rw [List.drop_take]
  by_cases h0 : (step l).1 = 0
  · rw [if_pos h0, lex_skip i hne (by rw [hs]; exact h0), hs, ed]
  · rw [if_neg h0, lex_tok i hne (by rw [hs]; exact h4) (by rw [hs]; exact h0), hs, ed, List.take_take, Nat.min_eq_left hm]

/-- AN ERROR's PLACE: what stands ahead of it has tokens, and no error; what begins there has the error at its first byte -/
theorem lex_error (n : Nat) : ∀ (l : List UInt8) (i p : Nat) (ts : List Tk), l.length ≤ n → lex l i = (ts, some p) →
    i ≤ p ∧ p - i < l.length ∧ lex (l.take (p - i)) i = (ts, none) ∧ ∀ j, lex (l.drop (p - i)) j = ([], some j) := by
  induction n with
  | zero =>
    intro l i p ts hn h
    have : l = [] := List.eq_nil_of_length_eq_zero (by omega)
    subst this
    rw [lex_nil] at h; cases h
  | succ n ih =>
    intro l i p ts hn h
    by_cases hl : l = []
    · subst hl; rw [lex_nil] at h; cases h
    · have hpos : 0 < l.length := List.length_pos_iff.2 hl
      by_cases h4 : (step l).1 = 4
      · rw [lex_bad i hl h4] at h
        simp only [Prod.mk.injEq, Option.some.injEq] at h
        obtain ⟨rfl, rfl⟩ := h
        refine ⟨Nat.le_refl _, by omega, by simp [lex_nil], fun j => ?_⟩
        rw [Nat.sub_self, List.drop_zero]
        exact lex_bad j hl h4
      · obtain ⟨hs1, hs2⟩ := step_le hl h4
        by_cases h0 : (step l).1 = 0
        · rw [lex_skip i hl h0] at h
          obtain ⟨a, b, c, d⟩ := ih (l.drop (step l).2.1) (i + (step l).2.1) p ts (by rw [List.length_drop]; omega) h
          rw [List.length_drop] at b
          refine ⟨by omega, by omega, ?_, fun j => ?_⟩
          · rw [lex_take i hl h4 (by omega), if_pos h0, show p - i - (step l).2.1 = p - (i + (step l).2.1) from by omega]; exact c
          · have := d j
            rw [List.drop_drop, show (step l).2.1 + (p - (i + (step l).2.1)) = p - i from by omega] at this
            exact this
        · rw [lex_tok i hl h4 h0] at h
          simp only [Prod.mk.injEq] at h
          obtain ⟨h1, h2⟩ := h
          obtain ⟨a, b, c, d⟩ := ih (l.drop (step l).2.1) (i + (step l).2.1) p _ (by rw [List.length_drop]; omega) (Prod.ext rfl h2)
          rw [List.length_drop] at b
          refine ⟨by omega, by omega, ?_, fun j => ?_⟩
          · rw [lex_take i hl h4 (by omega), if_neg h0, show p - i - (step l).2.1 = p - (i + (step l).2.1) from by omega, c, ← h1]
          · have := d j
            rw [List.drop_drop, show (step l).2.1 + (p - (i + (step l).2.1)) = p - i from by omega] at this
            exact this

end LexM

namespace LexM

/-- a token so much further -/
def mv (d : Nat) (t : Tk) : Tk := ⟨t.kind, t.text, t.n, t.pos + d⟩

theorem lex_shift (n : Nat) : ∀ (l : List UInt8) (i d : Nat), l.length ≤ n → lex l (i + d) = ((lex l i).1.map (mv d), (lex l i).2.map (· + d)) := by
  induction n with
  | zero =>
    intro l i d hn
    have : l = [] := List.eq_nil_of_length_eq_zero (by omega)
    subst this; rfl
  | succ n ih =>
    intro l i d hn
    by_cases hl : l = []
    · subst hl; rfl
    · by_cases h4 : (step l).1 = 4
      · rw [lex_bad _ hl h4, lex_bad _ hl h4]; rfl
      · obtain ⟨hs1, hs2⟩ := step_le hl h4
        have hdl : (l.drop (step l).2.1).length ≤ n := by rw [List.length_drop]; omega
        have e : i + d + (step l).2.1 = i + (step l).2.1 + d := by omega
        by_cases h0 : (step l).1 = 0
        · rw [lex_skip _ hl h0, lex_skip i hl h0, e, ih _ _ _ hdl]
        · rw [lex_tok _ hl h4 h0, lex_tok i hl h4 h0, e, ih _ _ _ hdl]
          rfl

/-- CUTS: what is cut off ahead of a token has the tokens ahead of it; what begins with it has the others -/
theorem lex_cut (n : Nat) : ∀ (l : List UInt8) (i : Nat) (ts : List Tk) (e : Option Nat) (k : Nat) (t : Tk), l.length ≤ n → lex l i = (ts, e) → ts[k]? = some t →
    i ≤ t.pos ∧ t.pos - i < l.length ∧ lex (l.take (t.pos - i)) i = (ts.take k, none) ∧ lex (l.drop (t.pos - i)) t.pos = (ts.drop k, e) := by
  induction n with
  | zero =>
    intro l i ts e k t hn h hk
    have : l = [] := List.eq_nil_of_length_eq_zero (by omega)
    subst this
    rw [lex_nil] at h
    cases h
    simp at hk
  | succ n ih =>
    intro l i ts e k t hn h hk
    by_cases hl : l = []
    · subst hl; rw [lex_nil] at h; cases h; simp at hk
    · have hpos : 0 < l.length := List.length_pos_iff.2 hl
      by_cases h4 : (step l).1 = 4
      · rw [lex_bad i hl h4] at h; cases h; simp at hk
      · obtain ⟨hs1, hs2⟩ := step_le hl h4
        by_cases h0 : (step l).1 = 0
        · rw [lex_skip i hl h0] at h
          obtain ⟨a, b, c, d⟩ := ih (l.drop (step l).2.1) (i + (step l).2.1) ts e k t (by rw [List.length_drop]; omega) h hk
          rw [List.length_drop] at b
          refine ⟨by omega, by omega, ?_, ?_⟩
          · rw [lex_take i hl h4 (by omega), if_pos h0, show t.pos - i - (step l).2.1 = t.pos - (i + (step l).2.1) from by omega]; exact c
          · rw [List.drop_drop, show (step l).2.1 + (t.pos - (i + (step l).2.1)) = t.pos - i from by omega] at d
            exact d
        · have h' := h
          rw [lex_tok i hl h4 h0] at h
          simp only [Prod.mk.injEq] at h
          obtain ⟨h1, h2⟩ := h
          cases k with
          | zero =>
            have et : t = ⟨(step l).1, l.take (step l).2.1, (step l).2.2, i⟩ := by rw [← h1] at hk; simpa using hk.symm
            subst et
            refine ⟨Nat.le_refl _, by simp only; omega, ?_, ?_⟩
            · simp [lex_nil]
            · simp only [Nat.sub_self, List.drop_zero]; exact h'
          | succ k =>
            rw [← h1, List.getElem?_cons_succ] at hk
            obtain ⟨a, b, c, d⟩ := ih (l.drop (step l).2.1) (i + (step l).2.1) _ e k t (by rw [List.length_drop]; omega) (Prod.ext rfl h2) hk
            rw [List.length_drop] at b
            refine ⟨by omega, by omega, ?_, ?_⟩
            · rw [lex_take i hl h4 (by omega), if_neg h0, show t.pos - i - (step l).2.1 = t.pos - (i + (step l).2.1) from by omega, c, ← h1]
              rfl
            · rw [List.drop_drop, show (step l).2.1 + (t.pos - (i + (step l).2.1)) = t.pos - i from by omega] at d
              rw [← h1]
              exact d

/-- a byte that ends every run, and stands in no sign -/
theorem takeWhile_stop {p : UInt8 → Bool} {b : UInt8} (hb : p b = false) (l z : List UInt8) : (l ++ b :: z).takeWhile p = l.takeWhile p := by
  induction l with
  | nil => simp [hb]
  | cons c r ih => rw [List.cons_append, List.takeWhile_cons, List.takeWhile_cons, ih]
theorem pre_stop {b : UInt8} : ∀ (t l z : List UInt8), b ∉ t → t.isPrefixOf (l ++ b :: z) = t.isPrefixOf l
  | [], l, z, _ => by simp
  | a :: t, [], z, h => by
    have : (a == b) = false := by
      rw [beq_eq_false_iff_ne]
      intro e; subst e; simp at h
    simp [List.isPrefixOf, this]
  | a :: t, c :: l, z, h => by
    have := pre_stop t l z (fun hm => h (List.mem_cons_of_mem _ hm))
    rw [List.cons_append]
    simp only [List.isPrefixOf, this]
theorem find_congr {q q' : List UInt8 → Bool} {l : List (List UInt8)} (h : ∀ x ∈ l, q x = q' x) : l.find? q = l.find? q' := by
  induction l with
  | nil => rfl
  | cons a r ih =>
    rw [List.find?_cons, List.find?_cons, h a (by simp), ih (fun x hx => h x (by simp [hx]))]
theorem signs_no : ∀ t ∈ signs, (10 : UInt8) ∉ t ∧ (32 : UInt8) ∉ t := by decide

/-- a step ahead of such a byte is what it is at the end; of a blank: but for remarks -/
theorem step_stop {b : UInt8} {l : List UInt8} (z : List UInt8) (hl : l ≠ []) (hw : isWd b = false) (hd : isDg b = false) (hs : ∀ t ∈ signs, b ∉ t) (hr : b ∉ ([47, 47] : List UInt8))
    (hn : notNl b = false ∨ ¬ [47, 47].isPrefixOf l = true) : step (l ++ b :: z) = step l := by
  cases l with
  | nil => exact absurd rfl hl
  | cons c r =>
    have e1 := takeWhile_stop hw (c :: r) z
    have e2 := takeWhile_stop hd (c :: r) z
    have e4 := pre_stop [47, 47] (c :: r) z hr
    have e5 : signs.find? (fun t => t.isPrefixOf ((c :: r) ++ b :: z)) = signs.find? (fun t => t.isPrefixOf (c :: r)) := find_congr fun t ht => pre_stop t (c :: r) z (hs t ht)
    rw [List.cons_append] at e1 e2 e4 e5
    rw [List.cons_append]
    unfold step
    simp only
    by_cases a1 : isSp c = true
    · rw [if_pos a1, if_pos a1]
    · rw [if_neg a1, if_neg a1]
      by_cases a2 : [47, 47].isPrefixOf (c :: r) = true
      · rw [if_pos a2, if_pos (e4.trans a2)]
        rcases hn with hn | hn
        · have e3 := takeWhile_stop hn (c :: r) z
          rw [List.cons_append] at e3
          rw [e3]
        · exact absurd a2 hn
      · rw [if_neg a2, if_neg (by rw [e4]; exact a2), e1, e2, e5]

/-- JOINS: ahead of a line feed a text has its own tokens, or its own error -/
theorem lex_join (n : Nat) : ∀ (l z : List UInt8) (i : Nat), l.length ≤ n →
    lex (l ++ 10 :: z) i = match (lex l i).2 with
      | some p => ((lex l i).1, some p)
      | none => ((lex l i).1 ++ (lex z (i + l.length + 1)).1, (lex z (i + l.length + 1)).2) := by
  have hnil : ∀ (z : List UInt8) (i : Nat), lex (10 :: z) i = lex z (i + 1) := fun z i => lex_skip i (List.cons_ne_nil _ _) (by rfl)
  induction n with
  | zero =>
    intro l z i hn
    have : l = [] := List.eq_nil_of_length_eq_zero (by omega)
    subst this
    rw [List.nil_append, hnil, lex_nil]
    simp
  | succ n ih =>
    intro l z i hn
    by_cases hl : l = []
    · subst hl
      rw [List.nil_append, hnil, lex_nil]
      simp
    · have hs := step_stop (b := 10) (l := l) z hl (by decide) (by decide) (fun t ht => (signs_no t ht).1) (by decide) (.inl (by decide))
      have hne : l ++ 10 :: z ≠ [] := by simp
      by_cases h4 : (step l).1 = 4
      · rw [lex_bad i hne (by rw [hs]; exact h4), lex_bad i hl h4]
      · obtain ⟨hs1, hs2⟩ := step_le hl h4
        have hdl : (l.drop (step l).2.1).length ≤ n := by rw [List.length_drop]; omega
        have ed : (l ++ 10 :: z).drop (step l).2.1 = l.drop (step l).2.1 ++ 10 :: z := by rw [List.drop_append_of_le_length hs2]
        have et : (l ++ 10 :: z).take (step l).2.1 = l.take (step l).2.1 := by rw [List.take_append_of_le_length hs2]
        have ea : i + (step l).2.1 + (l.length - (step l).2.1) + 1 = i + l.length + 1 := by omega
        by_cases h0 : (step l).1 = 0
        · rw [lex_skip i hne (by rw [hs]; exact h0), hs, ed, ih _ _ _ hdl, lex_skip i hl h0, List.length_drop, ea]
        · rw [lex_tok i hne (by rw [hs]; exact h4) (by rw [hs]; exact h0), hs, ed, et, ih _ _ _ hdl, lex_tok i hl h4 h0, List.length_drop, ea]
          cases (lex (l.drop (step l).2.1) (i + (step l).2.1)).2 <;> simp

theorem lex_blanks (j i : Nat) : lex (List.replicate j 32) i = ([], none) := by
  induction j generalizing i with
  | zero => rfl
  | succ j ih =>
    have h : lex (List.replicate (j + 1) 32) i = lex (List.replicate j 32) (i + 1) := by
      rw [List.replicate_succ]
      exact lex_skip i (List.cons_ne_nil _ _) (by rfl)
    rw [h, ih]

theorem takeWhile_whole {p : UInt8 → Bool} (l : List UInt8) : (l.takeWhile p).length < l.length ∨ l.takeWhile p = l := by
  induction l with
  | nil => right; rfl
  | cons c r ih =>
    rw [List.takeWhile_cons]
    split
    · rcases ih with h | h
      · left; simp; omega
      · right; rw [h]
    · left; simp
theorem takeWhile_self {p : UInt8 → Bool} {l : List UInt8} (h : ∀ c ∈ l, p c = true) : l.takeWhile p = l := by
  induction l with
  | nil => rfl
  | cons c r ih => rw [List.takeWhile_cons, if_pos (h c (by simp)), ih (fun x hx => h x (by simp [hx]))]
theorem takeWhile_in {p : UInt8 → Bool} {l : List UInt8} (z : List UInt8) (h : (l.takeWhile p).length < l.length) : (l ++ z).takeWhile p = l.takeWhile p := by
  induction l with
  | nil => simp at h
  | cons c r ih =>
    rw [List.cons_append, List.takeWhile_cons, List.takeWhile_cons]
    rw [List.takeWhile_cons] at h
    split
    · rename_i hc
      rw [if_pos hc] at h
      rw [ih (by simp at h; omega)]
    · rfl
theorem pre_append {t l z : List UInt8} (h : t.isPrefixOf l = true) : t.isPrefixOf (l ++ z) = true := by
  rw [List.isPrefixOf_iff_prefix] at h ⊢
  exact h.trans (List.prefix_append _ _)

/-- BLANKS BEHIND: they change nothing -/
theorem lex_fill (n : Nat) : ∀ (l : List UInt8) (j i : Nat), l.length ≤ n → lex (l ++ List.replicate j 32) i = lex l i := by
  induction n with
  | zero =>
    intro l j i hn
    have : l = [] := List.eq_nil_of_length_eq_zero (by omega)
    subst this
    rw [List.nil_append, lex_blanks, lex_nil]
  | succ n ih =>
    intro l j i hn
    by_cases hl : l = []
    · subst hl; rw [List.nil_append, lex_blanks, lex_nil]
    · cases j with
      | zero => simp
      | succ j =>
      have hne : l ++ List.replicate (j + 1) 32 ≠ [] := by simp [hl]
      by_cases hrm : (¬ isSp (l.head hl) = true) ∧ [47, 47].isPrefixOf l = true ∧ l.takeWhile notNl = l
      · obtain ⟨g1, g2, g3⟩ := hrm
        have hrep : (l ++ List.replicate (j + 1) 32).takeWhile notNl = l ++ List.replicate (j + 1) 32 := by
          have hall : ∀ c ∈ l ++ List.replicate (j + 1) (32 : UInt8), notNl c = true := by
            intro c hc
            rcases List.mem_append.1 hc with h | h
            · rw [← g3] at h; exact takeWhile_all c h
            · rw [List.eq_of_mem_replicate h]; decide
          exact takeWhile_self hall
        have s1 : step l = (0, l.length, 0) := by
          cases l with
          | nil => exact absurd rfl hl
          | cons c r => unfold step; simp only; rw [if_neg (by simpa using g1), if_pos g2, g3]
        have s2 : step (l ++ List.replicate (j + 1) 32) = (0, (l ++ List.replicate (j + 1) 32).length, 0) := by
          have g2' := pre_append (z := List.replicate (j + 1) 32) g2
          cases l with
          | nil => exact absurd rfl hl
          | cons c r =>
            rw [List.cons_append] at g2' hrep ⊢
            unfold step; simp only; rw [if_neg (by simpa using g1), if_pos g2', hrep]
        rw [lex_skip i hne (by rw [s2]), s2, lex_skip i hl (by rw [s1]), s1]
        simp only [List.drop_length, lex_nil]
      · have hs : step (l ++ List.replicate (j + 1) 32) = step l := by
          by_cases g2 : [47, 47].isPrefixOf l = true
          · cases l with
            | nil => exact absurd rfl hl
            | cons c r =>
              have g2' := pre_append (z := List.replicate (j + 1) 32) g2
              have hc : ¬ isSp c = true := by
                rw [List.isPrefixOf_iff_prefix] at g2
                have := (List.cons_prefix_cons.1 g2).1
                subst this; decide
              have hin : ((c :: r).takeWhile notNl).length < (c :: r).length := by
                rcases takeWhile_whole (p := notNl) (c :: r) with h | h
                · exact h
                · exact absurd ⟨by simpa using hc, g2, h⟩ hrm
              have e3 := takeWhile_in (List.replicate (j + 1) 32) hin
              rw [List.cons_append] at g2' e3 ⊢
              unfold step; simp only
              rw [if_neg hc, if_neg hc, if_pos g2, if_pos g2', e3]
          · rw [List.replicate_succ]
            exact step_stop (b := 32) _ hl (by decide) (by decide) (fun t ht => (signs_no t ht).2) (by decide) (.inr g2)
        by_cases h4 : (step l).1 = 4
        · rw [lex_bad i hne (by rw [hs]; exact h4), lex_bad i hl h4]
        · obtain ⟨hs1, hs2⟩ := step_le hl h4
          have hdl : (l.drop (step l).2.1).length ≤ n := by rw [List.length_drop]; omega
          have ed : (l ++ List.replicate (j + 1) 32).drop (step l).2.1 = l.drop (step l).2.1 ++ List.replicate (j + 1) 32 := by rw [List.drop_append_of_le_length hs2]
          have et : (l ++ List.replicate (j + 1) 32).take (step l).2.1 = l.take (step l).2.1 := by rw [List.take_append_of_le_length hs2]
          by_cases h0 : (step l).1 = 0
          · rw [lex_skip i hne (by rw [hs]; exact h0), hs, ed, ih _ _ _ hdl, lex_skip i hl h0]
          · rw [lex_tok i hne (by rw [hs]; exact h4) (by rw [hs]; exact h0), hs, ed, et, ih _ _ _ hdl, lex_tok i hl h4 h0]

theorem numTo_le : ∀ (l : List UInt8) (m n : Nat), m ≤ 65535 → numTo m l = some n → n ≤ 65535
  | [], m, n, hm, h => by rw [numTo] at h; cases h; exact hm
  | c :: r, m, n, hm, h => by
    rw [numTo] at h
    split at h
    · cases h
    · exact numTo_le r _ n (by omega) h
theorem num_le {d : List UInt8} {n : Nat} (h : num d = some n) : n ≤ 65535 := by
  unfold num at h
  split at h
  · cases h
  · exact numTo_le d 0 n (by omega) h

theorem step_bad {l : List UInt8} (h : (step l).1 = 4) : step l = (4, 0, 0) := by
  cases l with
  | nil => rfl
  | cons c r =>
    unfold step at h ⊢
    simp only at h ⊢
    by_cases a1 : isSp c = true
    · rw [if_pos a1] at h; cases h
    · rw [if_neg a1] at h ⊢
      by_cases a2 : [47, 47].isPrefixOf (c :: r) = true
      · rw [if_pos a2] at h; cases h
      · rw [if_neg a2] at h ⊢
        by_cases a3 : isLt c = true
        · rw [if_pos a3] at h; cases h
        · rw [if_neg a3] at h ⊢
          by_cases a4 : isDg c = true
          · rw [if_pos a4] at h ⊢
            cases hn : num ((c :: r).takeWhile isDg) with
            | none => rfl
            | some n => rw [hn] at h; cases h
          · rw [if_neg a4] at h ⊢
            cases hf : signs.find? (fun t => t.isPrefixOf (c :: r)) with
            | none => rfl
            | some t => rw [hf] at h; cases h
theorem step_not0 {l : List UInt8} {k : Nat} (hk : k < l.length) (h1 : isSp l[k] = false) (h2 : pre [47, 47] (l.drop k) = false) : (step (l.drop k)).1 ≠ 0 := by
  unfold pre at h2
  rw [List.drop_eq_getElem_cons hk] at h2 ⊢
  unfold step
  simp only
  rw [if_neg (by simp [h1]), if_neg (by rw [h2]; simp)]
  split
  · simp
  · split
    · split <;> simp
    · split <;> simp

/-- a token that is told by its own text -/
def Own (t : Tk) : Prop := t.text ≠ [] ∧ step t.text = (t.kind, t.text.length, t.n) ∧ t.kind ≠ 0 ∧ t.kind ≠ 4

theorem lex_own (n : Nat) : ∀ (l : List UInt8) (i : Nat), l.length ≤ n → ∀ t ∈ (lex l i).1, Own t := by
  induction n with
  | zero =>
    intro l i hn t ht
    have : l = [] := List.eq_nil_of_length_eq_zero (by omega)
    subst this
    rw [lex_nil] at ht; simp at ht
  | succ n ih =>
    intro l i hn t ht
    by_cases hl : l = []
    · subst hl; rw [lex_nil] at ht; simp at ht
    · by_cases h4 : (step l).1 = 4
      · rw [lex_bad i hl h4] at ht; simp at ht
      · obtain ⟨hs1, hs2⟩ := step_le hl h4
        have hdl : (l.drop (step l).2.1).length ≤ n := by rw [List.length_drop]; omega
        by_cases h0 : (step l).1 = 0
        · rw [lex_skip i hl h0] at ht; exact ih _ _ hdl t ht
        · rw [lex_tok i hl h4 h0] at ht
          rcases List.mem_cons.1 ht with rfl | ht
          · refine ⟨take_ne hl hs1, ?_, h0, h4⟩
            simp only
            rw [step_take hl h4 (Nat.le_refl _), List.length_take, Nat.min_eq_left hs2]
          · exact ih _ _ hdl t ht

theorem own_blank {t : Tk} (h : Own t) (z : List UInt8) : step (t.text ++ 32 :: z) = (t.kind, t.text.length, t.n) := by
  obtain ⟨h1, h2, h3, h4⟩ := h
  rw [← h2]
  refine step_stop z h1 (by decide) (by decide) (fun t ht => (signs_no t ht).2) (by decide) (.inr ?_)
  intro hp
  have : (step t.text).1 = 0 := by
    cases hx : t.text with
    | nil => exact absurd hx h1
    | cons c r =>
      rw [hx] at hp
      unfold step
      simp only
      by_cases a1 : isSp c = true
      · rw [if_pos a1]
      · rw [if_neg a1, if_pos hp]
  rw [h2] at this
  exact h3 this

/-- BACK: what is told of tokens has these very tokens, but for their places -/
theorem lex_back : ∀ (ts : List Tk) (i : Nat), (∀ t ∈ ts, Own t) → ∃ us, lex (joinSp (ts.map (·.text))) i = (us, none) ∧ us.length = ts.length ∧ ∀ (k : Nat) (t : Tk), ts[k]? = some t → ∃ p : Nat, us[k]? = some (Tk.mk t.kind t.text t.n p)
  | [], i, _ => ⟨[], rfl, rfl, fun k t h => by simp at h⟩
  | [t], i, h => by
    obtain ⟨h1, h2, h3, h4⟩ := h t (by simp)
    have e : joinSp ([t].map (·.text)) = t.text := by simp [joinSp]
    refine ⟨[⟨t.kind, t.text, t.n, i⟩], ?_, rfl, ?_⟩
    · rw [e, lex_tok i h1 (by rw [h2]; exact h4) (by rw [h2]; exact h3), h2]
      simp only [List.take_length, List.drop_length, lex_nil]
    · intro k u hk
      cases k with
      | zero => simp at hk; subst hk; exact ⟨i, rfl⟩
      | succ k => simp at hk
  | t :: u :: r, i, h => by
    have ho := h t (by simp)
    obtain ⟨us, e1, e2, e3⟩ := lex_back (u :: r) (i + t.text.length + 1) (fun x hx => h x (by simp [hx]))
    have hs := own_blank ho (joinSp ((u :: r).map (·.text)))
    obtain ⟨h1, h2, h3, h4⟩ := ho
    have e : joinSp ((t :: u :: r).map (·.text)) = t.text ++ 32 :: joinSp ((u :: r).map (·.text)) := by simp [joinSp]
    have hsk : ∀ j, lex (32 :: joinSp ((u :: r).map (·.text))) j = lex (joinSp ((u :: r).map (·.text))) (j + 1) := fun j => lex_skip j (List.cons_ne_nil _ _) (by rfl)
    refine ⟨⟨t.kind, t.text, t.n, i⟩ :: us, ?_, by simp [e2], ?_⟩
    · rw [e, lex_tok i (by simp) (by rw [hs]; exact h4) (by rw [hs]; exact h3), hs]
      simp only [List.take_left, List.drop_left]
      rw [hsk, e1]
    · intro k x hk
      cases k with
      | zero => simp at hk; subst hk; exact ⟨i, rfl⟩
      | succ k => rw [List.getElem?_cons_succ] at hk ⊢; exact e3 k x hk

def spaced : List (List UInt8) → Nat
  | [] => 0
  | x :: r => 1 + x.length + spaced r
theorem joinSp_le (xs : List (List UInt8)) : (joinSp xs).length ≤ spaced xs := by
  have h : ∀ r : List (List UInt8), (r.flatMap (fun y => (32 : UInt8) :: y)).length = spaced r := by
    intro r
    induction r with
    | nil => rfl
    | cons y r ih => rw [List.flatMap_cons, List.length_append, ih]; simp [spaced]; omega
  cases xs with
  | nil => simp [joinSp]
  | cons x r => simp only [joinSp, List.length_append, h, spaced]; omega
theorem lex_spaced (n : Nat) : ∀ (l : List UInt8) (i : Nat), l.length ≤ n → spaced ((lex l i).1.map (·.text)) ≤ 2 * l.length := by
  induction n with
  | zero =>
    intro l i hn
    have : l = [] := List.eq_nil_of_length_eq_zero (by omega)
    subst this
    simp [lex_nil, spaced]
  | succ n ih =>
    intro l i hn
    by_cases hl : l = []
    · subst hl; simp [lex_nil, spaced]
    · by_cases h4 : (step l).1 = 4
      · rw [lex_bad i hl h4]; simp [spaced]
      · obtain ⟨hs1, hs2⟩ := step_le hl h4
        have hdl : (l.drop (step l).2.1).length ≤ n := by rw [List.length_drop]; omega
        have hi := ih (l.drop (step l).2.1) (i + (step l).2.1) hdl
        rw [List.length_drop] at hi
        by_cases h0 : (step l).1 = 0
        · rw [lex_skip i hl h0]; omega
        · rw [lex_tok i hl h4 h0]
          simp only [List.map_cons, spaced, List.length_take]
          omega
theorem lex_count (n : Nat) : ∀ (l : List UInt8) (i : Nat), l.length ≤ n → (lex l i).1.length ≤ l.length := by
  induction n with
  | zero =>
    intro l i hn
    have : l = [] := List.eq_nil_of_length_eq_zero (by omega)
    subst this
    simp [lex_nil]
  | succ n ih =>
    intro l i hn
    by_cases hl : l = []
    · subst hl; simp [lex_nil]
    · by_cases h4 : (step l).1 = 4
      · rw [lex_bad i hl h4]; simp
      · obtain ⟨hs1, hs2⟩ := step_le hl h4
        have hdl : (l.drop (step l).2.1).length ≤ n := by rw [List.length_drop]; omega
        have hi := ih (l.drop (step l).2.1) (i + (step l).2.1) hdl
        rw [List.length_drop] at hi
        by_cases h0 : (step l).1 = 0
        · rw [lex_skip i hl h0]; omega
        · rw [lex_tok i hl h4 h0]
          simp only [List.length_cons]
          omega

/-- what a token's own text says of its kind and number -/
theorem own_kind {t : Tk} (h : Own t) : ∃ c r, t.text = c :: r ∧ (decide (t.kind = 1) = isLt c) ∧ (decide (t.kind = 2) = isDg c) ∧ (t.kind ≠ 2 → t.n = 0) ∧ t.n ≤ 65535 := by
  obtain ⟨h1, h2, h3, h4⟩ := h
  cases hx : t.text with
  | nil => exact absurd hx h1
  | cons c r =>
    refine ⟨c, r, rfl, ?_⟩
    rw [hx] at h2
    have hsp : isSp c = true → isLt c = false ∧ isDg c = false := by
      intro h
      unfold isSp at h
      simp only [Bool.or_eq_true, beq_iff_eq] at h
      rcases h with (h | h) | h <;> subst h <;> decide
    have hlt : isLt c = true → isDg c = false := by
      unfold isLt isDg
      intro h
      simp only [Bool.or_eq_true, Bool.and_eq_true, decide_eq_true_eq, beq_iff_eq, UInt8.le_iff_toNat_le] at h
      rw [Bool.eq_false_iff]
      intro h'
      simp only [Bool.and_eq_true, decide_eq_true_eq, UInt8.le_iff_toNat_le] at h'
      have e1 : (97 : UInt8).toNat = 97 := rfl
      have e2 : (122 : UInt8).toNat = 122 := rfl
      have e3 : (65 : UInt8).toNat = 65 := rfl
      have e4 : (90 : UInt8).toNat = 90 := rfl
      have e5 : (48 : UInt8).toNat = 48 := rfl
      have e6 : (57 : UInt8).toNat = 57 := rfl
      rcases h with (h | h) | h
      · omega
      · omega
      · subst h; have : (95 : UInt8).toNat = 95 := rfl; omega
    unfold step at h2
    simp only at h2
    by_cases a1 : isSp c = true
    · rw [if_pos a1] at h2
      exact absurd (congrArg Prod.fst h2).symm h3
    · rw [if_neg a1] at h2
      by_cases a2 : [47, 47].isPrefixOf (c :: r) = true
      · rw [if_pos a2] at h2
        exact absurd (congrArg Prod.fst h2).symm h3
      · rw [if_neg a2] at h2
        by_cases a3 : isLt c = true
        · rw [if_pos a3] at h2
          have k1 : t.kind = 1 := (congrArg Prod.fst h2).symm
          have n0 : t.n = 0 := (congrArg (fun x => x.2.2) h2).symm
          rw [a3, hlt a3, k1, n0]
          simp
        · rw [if_neg a3] at h2
          have a3f : isLt c = false := by simpa using a3
          by_cases a4 : isDg c = true
          · rw [if_pos a4] at h2
            cases hn : num ((c :: r).takeWhile isDg) with
            | none => rw [hn] at h2; exact absurd (congrArg Prod.fst h2).symm h4
            | some n =>
              rw [hn] at h2
              have k1 : t.kind = 2 := (congrArg Prod.fst h2).symm
              have n0 : t.n = n := (congrArg (fun x => x.2.2) h2).symm
              have hb : n ≤ 65535 := num_le hn
              rw [a3f, a4, k1, n0]
              simp [hb]
          · rw [if_neg a4] at h2
            have a4f : isDg c = false := by simpa using a4
            cases hf : signs.find? (fun t => t.isPrefixOf (c :: r)) with
            | none => rw [hf] at h2; exact absurd (congrArg Prod.fst h2).symm h4
            | some u =>
              rw [hf] at h2
              have k1 : t.kind = 3 := (congrArg Prod.fst h2).symm
              have n0 : t.n = 0 := (congrArg (fun x => x.2.2) h2).symm
              rw [a3f, a4f, k1, n0]
              simp

/-- PLACES: each token stands at its place, behind the one ahead of it -/
def Chain (L : List UInt8) : Nat → List Tk → Prop
  | _, [] => True
  | e, t :: r => e ≤ t.pos ∧ t.pos + t.text.length ≤ L.length ∧ (L.drop t.pos).take t.text.length = t.text ∧ Own t ∧ Chain L (t.pos + t.text.length) r
theorem chain_le {L : List UInt8} {e e' : Nat} {ts : List Tk} (h : e' ≤ e) (hc : Chain L e ts) : Chain L e' ts := by
  cases ts with
  | nil => trivial
  | cons t r => exact ⟨by have := hc.1; omega, hc.2⟩
theorem lex_chain (n : Nat) : ∀ (L : List UInt8) (i : Nat), (L.drop i).length ≤ n → Chain L i (lex (L.drop i) i).1 := by
  induction n with
  | zero =>
    intro L i hn
    have : L.drop i = [] := List.eq_nil_of_length_eq_zero (by omega)
    rw [this, lex_nil]; trivial
  | succ n ih =>
    intro L i hn
    by_cases hl : L.drop i = []
    · rw [hl, lex_nil]; trivial
    · by_cases h4 : (step (L.drop i)).1 = 4
      · rw [lex_bad i hl h4]; trivial
      · obtain ⟨hs1, hs2⟩ := step_le hl h4
        have ho := lex_own _ (L.drop i) i (Nat.le_refl _)
        have hi := ih L (i + (step (L.drop i)).2.1) (by rw [List.length_drop] at hs2 hn ⊢; omega)
        by_cases h0 : (step (L.drop i)).1 = 0
        · rw [lex_skip i hl h0, List.drop_drop]; exact chain_le (by omega) hi
        · rw [lex_tok i hl h4 h0] at ho ⊢
          rw [List.drop_drop] at ho ⊢
          have hlen : ((L.drop i).take (step (L.drop i)).2.1).length = (step (L.drop i)).2.1 := by rw [List.length_take]; omega
          refine ⟨Nat.le_refl _, ?_, ?_, ho _ (by simp), ?_⟩
          · simp only [hlen]; rw [List.length_drop] at hs2; omega
          · simp only [hlen]
          · simp only [hlen]; exact hi

end LexM

