/-
  PLAIN LAWS OF LEXING: what is cut off, what is joined, what is told back. No program, no memory.
-/
import Derived.Test.YtnklcoaafgaokaaDoorLexMath
namespace LexM

theorem takeWhile_take_le {p : UInt8 → Bool} {l : List UInt8} {m : Nat} (h : (l.takeWhile p).length ≤ m) : (l.take m).takeWhile p = l.takeWhile p := by
  induction l generalizing m with
  | nil => simp
  | cons c r ih =>
    rw [List.takeWhile_cons] at h ⊢
    cases m with
    | zero =>
      split at h
      · simp at h
      · rename_i hc; rw [if_neg hc]; simp
    | succ m =>
      rw [List.take_succ_cons, List.takeWhile_cons]
      split at h
      · rename_i hc
        rw [if_pos hc, if_pos hc, ih (by simp at h; omega)]
      · rename_i hc
        rw [if_neg hc, if_neg hc]

theorem find_mono {q q' : List UInt8 → Bool} {l : List (List UInt8)} {t : List UInt8} (hq : ∀ x, q' x = true → q x = true) (h : l.find? q = some t) (ht : q' t = true) : l.find? q' = some t := by
  induction l with
  | nil => simp at h
  | cons a r ih =>
    rw [List.find?_cons] at h ⊢
    cases ha : q a with
    | true =>
      rw [ha] at h
      have e : a = t := Option.some.inj h
      subst e
      rw [ht]
    | false =>
      rw [ha] at h
      have ha' : q' a = false := by
        cases h' : q' a with
        | false => rfl
        | true => rw [hq a h'] at ha; cases ha
      rw [ha']
      exact ih h

theorem pre_of_take {t l : List UInt8} {m : Nat} (h : t.isPrefixOf (l.take m) = true) : t.isPrefixOf l = true := by
  rw [List.isPrefixOf_iff_prefix] at h ⊢
  exact h.trans (List.take_prefix m l)
theorem pre_to_take {t l : List UInt8} {m : Nat} (h : t.isPrefixOf l = true) (hm : t.length ≤ m) : t.isPrefixOf (l.take m) = true := by
  rw [List.isPrefixOf_iff_prefix] at h ⊢
  obtain ⟨z, rfl⟩ := h
  rw [List.take_append]
  rw [List.take_of_length_le hm]
  exact List.prefix_append _ _

/-- a step that is not cut goes on as it did -/
theorem step_take {l : List UInt8} {m : Nat} (hl : l ≠ []) (h4 : (step l).1 ≠ 4) (hm : (step l).2.1 ≤ m) : step (l.take m) = step l := by
  cases l with
  | nil => exact absurd rfl hl
  | cons c r =>
    have h1 := (step_len c r h4).1
    obtain ⟨k, rfl⟩ : ∃ k, m = k + 1 := ⟨m - 1, by omega⟩
    have et : (c :: r).take (k + 1) = c :: r.take k := rfl
    unfold step at h4 hm ⊢
    rw [et]
    simp only at h4 hm ⊢
    by_cases a1 : isSp c = true
    · rw [if_pos a1, if_pos a1]
    · rw [if_neg a1] at h4 hm
      rw [if_neg a1, if_neg a1]
      by_cases a2 : [47, 47].isPrefixOf (c :: r) = true
      · rw [if_pos a2] at hm
        simp only at hm
        have hlen : 2 ≤ ((c :: r).takeWhile notNl).length := by
          rw [List.isPrefixOf_iff_prefix] at a2
          obtain ⟨z, hz⟩ := a2
          rw [← hz]
          rw [List.cons_append, List.takeWhile_cons, if_pos (by decide), List.cons_append, List.takeWhile_cons, if_pos (by decide)]
          simp
        have hp2 := pre_to_take (m := k + 1) a2 (by simp only [List.length_cons, List.length_nil]; omega)
        rw [et] at hp2
        rw [if_pos hp2, if_pos a2]
        have := takeWhile_take_le hm
        rw [et] at this
        rw [this]
      · have a2' : ¬ [47, 47].isPrefixOf (c :: r.take k) = true := fun h => a2 (pre_of_take (m := k + 1) h)
        rw [if_neg a2] at h4 hm
        rw [if_neg a2, if_neg a2']
        by_cases a3 : isLt c = true
        · rw [if_pos a3] at hm
          rw [if_pos a3, if_pos a3]
          have := takeWhile_take_le hm
          rw [et] at this
          rw [this]
        · rw [if_neg a3] at h4 hm
          rw [if_neg a3, if_neg a3]
          by_cases a4 : isDg c = true
          · rw [if_pos a4] at h4 hm
            rw [if_pos a4, if_pos a4]
            cases hn : num ((c :: r).takeWhile isDg) with
            | none => rw [hn] at h4; exact absurd rfl h4
            | some n =>
              rw [hn] at hm
              have := takeWhile_take_le hm
              rw [et] at this
              rw [this, hn]
          · rw [if_neg a4] at h4 hm
            rw [if_neg a4, if_neg a4]
            cases hf : signs.find? (fun t => t.isPrefixOf (c :: r)) with
            | none => rw [hf] at h4; exact absurd rfl h4
            | some t =>
              rw [hf] at hm
              have hp := List.find?_some hf
              have := find_mono (q' := fun t => t.isPrefixOf (c :: r.take k)) (fun x hx => pre_of_take (m := k + 1) hx) hf (pre_to_take (m := k + 1) hp hm)
              rw [this]

theorem step_le {l : List UInt8} (hl : l ≠ []) (h4 : (step l).1 ≠ 4) : 1 ≤ (step l).2.1 ∧ (step l).2.1 ≤ l.length := by
  cases l with
  | nil => exact absurd rfl hl
  | cons c r => exact step_len c r h4

theorem take_ne {l : List UInt8} {m : Nat} (hl : l ≠ []) (hm : 1 ≤ m) : l.take m ≠ [] := by
  cases l with
  | nil => exact absurd rfl hl
  | cons c r => obtain ⟨k, rfl⟩ : ∃ k, m = k + 1 := ⟨m - 1, by omega⟩; exact List.cons_ne_nil _ _

/-- what is cut off behind a step -/
theorem lex_take {l : List UInt8} {m : Nat} (i : Nat) (hl : l ≠ []) (h4 : (step l).1 ≠ 4) (hm : (step l).2.1 ≤ m) :
    lex (l.take m) i = if (step l).1 = 0 then lex ((l.drop (step l).2.1).take (m - (step l).2.1)) (i + (step l).2.1)
      else (⟨(step l).1, l.take (step l).2.1, (step l).2.2, i⟩ :: (lex ((l.drop (step l).2.1).take (m - (step l).2.1)) (i + (step l).2.1)).1, (lex ((l.drop (step l).2.1).take (m - (step l).2.1)) (i + (step l).2.1)).2) := by
  have hs := step_take hl h4 hm
  have h1 := (step_le hl h4).1
  have hne : l.take m ≠ [] := take_ne hl (by omega)
  have ed : (l.take m).drop (step l).2.1 = (l.drop (step l).2.1).take (m - (step l).2.1) := by rw [List.drop_take]
  by_cases h0 : (step l).1 = 0
  · rw [if_pos h0, lex_skip i hne (by rw [hs]; exact h0), hs, ed]
  · rw [if_neg h0, lex_tok i hne (by rw [hs]; exact h4) (by rw [hs]; exact h0), hs, ed, List.take_take, Nat.min_eq_left hm]

/-- AN ERROR's PLACE: what stands ahead of it has tokens, and no error; what begins there has the error at its first byte -/
theorem lex_error (n : Nat) : ∀ (l : List UInt8) (i p : Nat) (ts : List Tk), l.length ≤ n → lex l i = (ts, some p) →
    i ≤ p ∧ p - i < l.length ∧ lex (l.take (p - i)) i = (ts, none) ∧ ∀ j, lex (l.drop (p - i)) j = ([], some j) := by
  induction n with
  | zero =>
    intro l i p ts hn h
    have : l = [] := List.eq_nil_of_length_eq_zero (by omega)
    subst this
    rw [lex_nil] at h; cases h
  | succ n ih =>
    intro l i p ts hn h
    by_cases hl : l = []
    · subst hl; rw [lex_nil] at h; cases h
    · have hpos : 0 < l.length := List.length_pos_iff.2 hl
      by_cases h4 : (step l).1 = 4
      · rw [lex_bad i hl h4] at h
        simp only [Prod.mk.injEq, Option.some.injEq] at h
        obtain ⟨rfl, rfl⟩ := h
        refine ⟨Nat.le_refl _, by omega, by simp [lex_nil], fun j => ?_⟩
        rw [Nat.sub_self, List.drop_zero]
        exact lex_bad j hl h4
      · obtain ⟨hs1, hs2⟩ := step_le hl h4
        by_cases h0 : (step l).1 = 0
        · rw [lex_skip i hl h0] at h
          obtain ⟨a, b, c, d⟩ := ih (l.drop (step l).2.1) (i + (step l).2.1) p ts (by rw [List.length_drop]; omega) h
          rw [List.length_drop] at b
          refine ⟨by omega, by omega, ?_, fun j => ?_⟩
          · rw [lex_take i hl h4 (by omega), if_pos h0, show p - i - (step l).2.1 = p - (i + (step l).2.1) from by omega]; exact c
          · have := d j
            rw [List.drop_drop, show (step l).2.1 + (p - (i + (step l).2.1)) = p - i from by omega] at this
            exact this
        · rw [lex_tok i hl h4 h0] at h
          simp only [Prod.mk.injEq] at h
          obtain ⟨h1, h2⟩ := h
          obtain ⟨a, b, c, d⟩ := ih (l.drop (step l).2.1) (i + (step l).2.1) p _ (by rw [List.length_drop]; omega) (Prod.ext rfl h2)
          rw [List.length_drop] at b
          refine ⟨by omega, by omega, ?_, fun j => ?_⟩
          · rw [lex_take i hl h4 (by omega), if_neg h0, show p - i - (step l).2.1 = p - (i + (step l).2.1) from by omega, c, ← h1]
          · have := d j
            rw [List.drop_drop, show (step l).2.1 + (p - (i + (step l).2.1)) = p - i from by omega] at this
            exact this

end LexM
