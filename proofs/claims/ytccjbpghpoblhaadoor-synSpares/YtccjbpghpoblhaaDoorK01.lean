/-
  PLAIN MATHEMATICS OF LEXING, over lists of bytes: what the tokens of a text are, and that this does not hang on what stands behind. No program, no memory.
-/
import Derived.KernelRfl
namespace LexM

/-- a token: its kind (1 name, 2 number, 3 sign), its text, its number, its place -/
structure Tk where
  kind : Nat
  text : List UInt8
  n : Nat
  pos : Nat

def isSp (c : UInt8) : Bool := c == 32 || c == 9 || c == 10
def isLt (c : UInt8) : Bool := (97 ≤ c && c ≤ 122) || (65 ≤ c && c ≤ 90) || c == 95
def isDg (c : UInt8) : Bool := 48 ≤ c && c ≤ 57
def isWd (c : UInt8) : Bool := isLt c || isDg c
def notNl (c : UInt8) : Bool := c != 10

/-- digits as a number; none: past the bound -/
def numTo (n : Nat) : List UInt8 → Option Nat
  | [] => some n
  | c :: r => if 65535 < 10 * n + (c.toNat - 48) then none else numTo (10 * n + (c.toNat - 48)) r
def num (d : List UInt8) : Option Nat := if 1 < d.length ∧ d.head? = some 48 then none else numTo 0 d

def signs : List (List UInt8) := [[60, 61], [61, 61], [33, 61], [40], [41], [123], [125], [60], [62], [91], [93], [58], [59], [44], [61], [38], [124], [94], [126], [43], [45], [42], [63], [46], [39]]

/-- what begins at the head of a text: (0, k, 0): k bytes that are passed over; (kind, k, n): a token of k bytes; (4, 0, 0): neither -/
def step (l : List UInt8) : Nat × Nat × Nat :=
  match l with
  | [] => (4, 0, 0)
  | c :: _ =>
    if isSp c then (0, 1, 0)
    else if [47, 47].isPrefixOf l then (0, (l.takeWhile notNl).length, 0)
    else if isLt c then (1, (l.takeWhile isWd).length, 0)
    else if isDg c then
      match num (l.takeWhile isDg) with
      | some n => (2, (l.takeWhile isDg).length, n)
      | none => (4, 0, 0)
    else match signs.find? (fun t => t.isPrefixOf l) with
      | some t => (3, t.length, 0)
      | none => (4, 0, 0)

/-- tokens up to the first error, and its place, if there is one -/
def lexG : Nat → List UInt8 → Nat → List Tk × Option Nat
  | 0, _, _ => ([], none)
  | _ + 1, [], _ => ([], none)
  | f + 1, c :: r, i =>
    if (step (c :: r)).1 = 4 then ([], some i)
    else if (step (c :: r)).1 = 0 then lexG f ((c :: r).drop (step (c :: r)).2.1) (i + (step (c :: r)).2.1)
    else (⟨(step (c :: r)).1, (c :: r).take (step (c :: r)).2.1, (step (c :: r)).2.2, i⟩ :: (lexG f ((c :: r).drop (step (c :: r)).2.1) (i + (step (c :: r)).2.1)).1,
      (lexG f ((c :: r).drop (step (c :: r)).2.1) (i + (step (c :: r)).2.1)).2)
def lex (l : List UInt8) (i : Nat) : List Tk × Option Nat := lexG (l.length + 1) l i

theorem takeWhile_le {α : Type} (p : α → Bool) (l : List α) : (l.takeWhile p).length ≤ l.length := by
  induction l with
  | nil => simp
  | cons c r ih => simp only [List.takeWhile_cons]; split <;> simp; omega

theorem signs_len : ∀ t ∈ signs, 1 ≤ t.length ∧ t.length ≤ 2 := by decide

theorem prefix_len {t l : List UInt8} (h : t.isPrefixOf l = true) : t.length ≤ l.length := by
  rw [List.isPrefixOf_iff_prefix] at h
  exact h.length_le

/-- a step goes on, and stays within the text -/
theorem step_len (c : UInt8) (r : List UInt8) (h : (step (c :: r)).1 ≠ 4) : 1 ≤ (step (c :: r)).2.1 ∧ (step (c :: r)).2.1 ≤ (c :: r).length := by
  have hw := takeWhile_le isWd (c :: r)
  have hd := takeWhile_le isDg (c :: r)
  have hn := takeWhile_le notNl (c :: r)
  unfold step at h ⊢
  simp only at h ⊢
  by_cases h1 : isSp c = true
  · rw [if_pos h1]; simp
  · rw [if_neg h1] at h ⊢
    by_cases h2 : [47, 47].isPrefixOf (c :: r) = true
    · rw [if_pos h2]
      refine ⟨?_, hn⟩
      have hc : c = 47 := by
        rw [List.isPrefixOf_iff_prefix] at h2
        exact (List.cons_prefix_cons.1 h2).1.symm
      subst hc
      rw [List.takeWhile_cons, if_pos (by decide)]; simp
    · rw [if_neg h2] at h ⊢
      by_cases h3 : isLt c = true
      · rw [if_pos h3]
        refine ⟨?_, hw⟩
        rw [List.takeWhile_cons, if_pos (by simp [isWd, h3])]; simp
      · rw [if_neg h3] at h ⊢
        by_cases h4 : isDg c = true
        · rw [if_pos h4] at h ⊢
          cases hnum : num ((c :: r).takeWhile isDg) with
          | none => rw [hnum] at h; exact absurd rfl h
          | some n =>
            refine ⟨?_, hd⟩
            rw [List.takeWhile_cons, if_pos h4]; simp
        · rw [if_neg h4] at h ⊢
          cases hf : signs.find? (fun t => t.isPrefixOf (c :: r)) with
          | none => rw [hf] at h; exact absurd rfl h
          | some t =>
            have hm := List.mem_of_find?_eq_some hf
            have hp := List.find?_some hf
            exact ⟨(signs_len t hm).1, prefix_len hp⟩

theorem lexG_fuel (f g : Nat) (l : List UInt8) (i : Nat) (hf : l.length < f) (hg : l.length < g) : lexG f l i = lexG g l i := by
  induction f generalizing g l i with
  | zero => omega
  | succ f ih =>
    cases g with
    | zero => omega
    | succ g =>
      cases l with
      | nil => rfl
      | cons c r =>
        unfold lexG
        by_cases h4 : (step (c :: r)).1 = 4
        · rw [if_pos h4, if_pos h4]
        · have hs := step_len c r h4
          have hl : ((c :: r).drop (step (c :: r)).2.1).length < (c :: r).length := by rw [List.length_drop]; simp at hs ⊢; omega
          rw [ih g ((c :: r).drop (step (c :: r)).2.1) (i + (step (c :: r)).2.1) (by simp at hf hl ⊢; omega) (by simp at hg hl ⊢; omega)]

theorem lex_nil (i : Nat) : lex [] i = ([], none) := rfl
theorem lex_bad {l : List UInt8} (i : Nat) (hl : l ≠ []) (h : (step l).1 = 4) : lex l i = ([], some i) := by
  cases l with
  | nil => exact absurd rfl hl
  | cons c r => unfold lex lexG; rw [if_pos h]
theorem lex_skip {l : List UInt8} (i : Nat) (hl : l ≠ []) (h : (step l).1 = 0) : lex l i = lex (l.drop (step l).2.1) (i + (step l).2.1) := by
  cases l with
  | nil => exact absurd rfl hl
  | cons c r =>
    have hs := step_len c r (by omega)
    show lexG _ _ _ = _
    unfold lexG
    rw [if_neg (by omega), if_pos h]
    exact lexG_fuel _ _ _ _ (by rw [List.length_drop]; omega) (by omega)
theorem lex_tok {l : List UInt8} (i : Nat) (hl : l ≠ []) (h4 : (step l).1 ≠ 4) (h0 : (step l).1 ≠ 0) :
    lex l i = (⟨(step l).1, l.take (step l).2.1, (step l).2.2, i⟩ :: (lex (l.drop (step l).2.1) (i + (step l).2.1)).1, (lex (l.drop (step l).2.1) (i + (step l).2.1)).2) := by
  cases l with
  | nil => exact absurd rfl hl
  | cons c r =>
    have hs := step_len c r h4
    show lexG _ _ _ = _
    unfold lexG
    rw [if_neg h4, if_neg h0]
    have e := lexG_fuel (c :: r).length (((c :: r).drop (step (c :: r)).2.1).length + 1) ((c :: r).drop (step (c :: r)).2.1) (i + (step (c :: r)).2.1) (by rw [List.length_drop]; omega) (by omega)
    rw [e]
    rfl

/-- texts with a blank between any two -/
def joinSp : List (List UInt8) → List UInt8
  | [] => []
  | x :: r => x ++ r.flatMap (fun y => 32 :: y)

/-- does a text begin so? -/
def pre (p l : List UInt8) : Bool := p.isPrefixOf l

/-- where a run of such bytes ends that begins at k -/
def endAt (p : UInt8 → Bool) (l : List UInt8) (k : Nat) : Nat := k + ((l.drop k).takeWhile p).length
theorem endAt_step {p : UInt8 → Bool} {l : List UInt8} {k : Nat} (hk : k < l.length) (h : p l[k] = true) : endAt p l (k + 1) = endAt p l k := by
  unfold endAt
  rw [List.drop_eq_getElem_cons hk, List.takeWhile_cons, if_pos h, List.length_cons]; omega
theorem endAt_stop {p : UInt8 → Bool} {l : List UInt8} {k : Nat} (hk : k < l.length) (h : p l[k] = false) : endAt p l k = k := by
  unfold endAt
  rw [List.drop_eq_getElem_cons hk, List.takeWhile_cons, if_neg (by simp [h])]; rfl
theorem endAt_end {p : UInt8 → Bool} {l : List UInt8} {k : Nat} (hk : l.length ≤ k) : endAt p l k = k := by
  unfold endAt
  rw [List.drop_eq_nil_of_le hk]; rfl
theorem endAt_le {p : UInt8 → Bool} {l : List UInt8} {k : Nat} (hk : k ≤ l.length) : k ≤ endAt p l k ∧ endAt p l k ≤ l.length := by
  have h := takeWhile_le p (l.drop k)
  rw [List.length_drop] at h
  unfold endAt; omega

theorem takeWhile_take {α : Type} (p : α → Bool) (l : List α) : l.takeWhile p = l.take (l.takeWhile p).length := by
  induction l with
  | nil => rfl
  | cons c r ih =>
    rw [List.takeWhile_cons]
    split
    · rw [List.length_cons, List.take_succ_cons, ← ih]
    · rfl

theorem endAt_sub (p : UInt8 → Bool) (l : List UInt8) (k : Nat) : endAt p l k - k = ((l.drop k).takeWhile p).length := by unfold endAt; omega

theorem takeWhile_all {p : UInt8 → Bool} {l : List UInt8} : ∀ c ∈ l.takeWhile p, p c = true := by
  induction l with
  | nil => simp
  | cons a r ih =>
    rw [List.takeWhile_cons]
    split
    · intro c hc
      rcases List.mem_cons.1 hc with rfl | hc
      · assumption
      · exact ih c hc
    · simp
theorem all_digits {l : List UInt8} {k : Nat} : ∀ c ∈ (l.drop k).take (endAt isDg l k - k), isDg c = true := by
  rw [endAt_sub, ← takeWhile_take]
  exact takeWhile_all

section
variable {l : List UInt8} {k : Nat}
theorem st_space (hk : k < l.length) (h : isSp l[k] = true) : step (l.drop k) = (0, 1, 0) := by
  rw [List.drop_eq_getElem_cons hk]; unfold step; simp only; rw [if_pos h]
theorem st_remark (hk : k < l.length) (h : isSp l[k] = false) (hp : pre [47, 47] (l.drop k) = true) : step (l.drop k) = (0, endAt notNl l k - k, 0) := by
  rw [endAt_sub]
  unfold pre at hp
  rw [List.drop_eq_getElem_cons hk] at hp ⊢; unfold step; simp only; rw [if_neg (by simp [h]), if_pos hp]
theorem st_name (hk : k < l.length) (h : isSp l[k] = false) (hp : pre [47, 47] (l.drop k) = false) (hl : isLt l[k] = true) : step (l.drop k) = (1, endAt isWd l k - k, 0) := by
  rw [endAt_sub]
  unfold pre at hp
  rw [List.drop_eq_getElem_cons hk] at hp ⊢; unfold step; simp only; rw [if_neg (by simp [h]), if_neg (by rw [hp]; simp), if_pos hl]
theorem st_num (hk : k < l.length) (h : isSp l[k] = false) (hp : pre [47, 47] (l.drop k) = false) (hl : isLt l[k] = false) (hd : isDg l[k] = true) {n : Nat}
    (hn : num ((l.drop k).take (endAt isDg l k - k)) = some n) : step (l.drop k) = (2, endAt isDg l k - k, n) := by
  rw [endAt_sub] at hn ⊢
  rw [← takeWhile_take] at hn
  unfold pre at hp
  rw [List.drop_eq_getElem_cons hk] at hp hn ⊢; unfold step; simp only; rw [if_neg (by simp [h]), if_neg (by rw [hp]; simp), if_neg (by simp [hl]), if_pos hd, hn]
theorem st_numbad (hk : k < l.length) (h : isSp l[k] = false) (hp : pre [47, 47] (l.drop k) = false) (hl : isLt l[k] = false) (hd : isDg l[k] = true)
    (hn : num ((l.drop k).take (endAt isDg l k - k)) = none) : step (l.drop k) = (4, 0, 0) := by
  rw [endAt_sub] at hn
  rw [← takeWhile_take] at hn
  unfold pre at hp
  rw [List.drop_eq_getElem_cons hk] at hp hn ⊢; unfold step; simp only; rw [if_neg (by simp [h]), if_neg (by rw [hp]; simp), if_neg (by simp [hl]), if_pos hd, hn]
theorem st_sign (hk : k < l.length) (h : isSp l[k] = false) (hp : pre [47, 47] (l.drop k) = false) (hl : isLt l[k] = false) (hd : isDg l[k] = false) {t : List UInt8}
    (hn : signs.find? (fun t => pre t (l.drop k)) = some t) : step (l.drop k) = (3, t.length, 0) := by
  unfold pre at hp hn
  rw [List.drop_eq_getElem_cons hk] at hp hn ⊢; unfold step; simp only; rw [if_neg (by simp [h]), if_neg (by rw [hp]; simp), if_neg (by simp [hl]), if_neg (by simp [hd]), hn]
theorem st_none (hk : k < l.length) (h : isSp l[k] = false) (hp : pre [47, 47] (l.drop k) = false) (hl : isLt l[k] = false) (hd : isDg l[k] = false)
    (hn : signs.find? (fun t => pre t (l.drop k)) = none) : step (l.drop k) = (4, 0, 0) := by
  unfold pre at hp hn
  rw [List.drop_eq_getElem_cons hk] at hp hn ⊢; unfold step; simp only; rw [if_neg (by simp [h]), if_neg (by rw [hp]; simp), if_neg (by simp [hl]), if_neg (by simp [hd]), hn]
end

theorem step_len' {l : List UInt8} {k : Nat} (hk : k < l.length) (h : (step (l.drop k)).1 ≠ 4) : 1 ≤ (step (l.drop k)).2.1 ∧ k + (step (l.drop k)).2.1 ≤ l.length := by
  have e := List.drop_eq_getElem_cons hk
  have h2 := step_len l[k] (l.drop (k + 1)) (by rw [← e]; exact h)
  rw [← e, List.length_drop] at h2
  exact ⟨h2.1, by omega⟩

/-- what stands so far, at place k -/
def At (l : List UInt8) (ts : List Tk) (k : Nat) : Prop := lex l 0 = (ts ++ (lex (l.drop k) k).1, (lex (l.drop k) k).2)
section
variable {l : List UInt8} {ts : List Tk} {k d kd n : Nat}
theorem drop_ne (hk : k < l.length) : l.drop k ≠ [] := by rw [List.drop_eq_getElem_cons hk]; exact List.cons_ne_nil _ _
theorem At_start (l : List UInt8) : At l [] 0 := rfl
theorem At_skip (h : At l ts k) (hk : k < l.length) (hs : step (l.drop k) = (0, d, 0)) : At l ts (k + d) := by
  unfold At at h ⊢
  rw [h, lex_skip k (drop_ne hk) (by rw [hs]), hs, List.drop_drop]
theorem At_tok (h : At l ts k) (hk : k < l.length) (hs : step (l.drop k) = (kd, d, n)) (h0 : kd ≠ 0) (h4 : kd ≠ 4) : At l (ts ++ [⟨kd, (l.drop k).take d, n, k⟩]) (k + d) := by
  unfold At at h ⊢
  rw [h, lex_tok k (drop_ne hk) (by rw [hs]; exact h4) (by rw [hs]; exact h0), hs, List.drop_drop]
  simp
theorem At_bad (h : At l ts k) (hk : k < l.length) (hs : step (l.drop k) = (4, 0, 0)) : lex l 0 = (ts, some k) := by
  unfold At at h
  rw [h, lex_bad k (drop_ne hk) (by rw [hs])]
  simp
theorem At_end (h : At l ts k) (hk : l.length ≤ k) : lex l 0 = (ts, none) := by
  unfold At at h
  rw [h, List.drop_eq_nil_of_le hk, lex_nil]
  simp
end

theorem pre_take {t l : List UInt8} (h : pre t l = true) : l.take t.length = t := by
  unfold pre at h
  rw [List.isPrefixOf_iff_prefix, List.prefix_iff_eq_take] at h
  exact h.symm

theorem find_drop {q : List UInt8 → Bool} {j : Nat} (hj : j < signs.length) (h : q (signs.getD j []) = false) : (signs.drop j).find? q = (signs.drop (j + 1)).find? q := by
  have e : signs.getD j [] = signs[j] := by rw [List.getD_eq_getElem?_getD, List.getElem?_eq_getElem hj]; rfl
  rw [e] at h
  rw [List.drop_eq_getElem_cons hj, List.find?_cons, h]
theorem find_here {q : List UInt8 → Bool} {j : Nat} (hj : j < signs.length) (h : q (signs.getD j []) = true) : (signs.drop j).find? q = some (signs.getD j []) := by
  have e : signs.getD j [] = signs[j] := by rw [List.getD_eq_getElem?_getD, List.getElem?_eq_getElem hj]; rfl
  rw [e] at h ⊢
  rw [List.drop_eq_getElem_cons hj, List.find?_cons, h]

end LexM

