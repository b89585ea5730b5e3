/-
  WHERE FAULTS STAND IN THE TEXT: from the numbers of tokens to places. Plain mathematics.
-/
import Derived.Test.YtccjbpghpoblhaaDoorK29
namespace Go.Proofs.YtccjbpghpoblhaaDoor

theorem chain_at {L : List UInt8} : ∀ {ts : List LexM.Tk} {e k : Nat} {t : LexM.Tk}, LexM.Chain L e ts → ts[k]? = some t → e ≤ t.pos ∧ t.pos ≤ L.length
  | [], _, _, _, _, h => by simp at h
  | u :: r, e, 0, t, hc, h => by
    obtain rfl : u = t := by simpa using h
    have := hc.2.1
    exact ⟨hc.1, by omega⟩
  | u :: r, e, k + 1, t, hc, h => by
    have h2 := chain_at hc.2.2.2.2 (show r[k]? = some t by simpa using h)
    have := hc.1
    exact ⟨by omega, h2.2⟩
theorem chain_mono {L : List UInt8} : ∀ {ts : List LexM.Tk} {e j k : Nat} {s t : LexM.Tk}, LexM.Chain L e ts → j ≤ k → ts[j]? = some s → ts[k]? = some t → s.pos ≤ t.pos
  | [], _, _, _, _, _, _, _, h, _ => by simp at h
  | u :: r, e, 0, 0, s, t, _, _, h1, h2 => by
    obtain rfl : u = s := by simpa using h1
    obtain rfl : u = t := by simpa using h2
    exact Nat.le_refl _
  | u :: r, e, 0, k + 1, s, t, hc, _, h1, h2 => by
    obtain rfl : u = s := by simpa using h1
    have := chain_at hc.2.2.2.2 (show r[k]? = some t by simpa using h2)
    omega
  | u :: r, e, j + 1, 0, s, t, _, hjk, _, _ => by omega
  | u :: r, e, j + 1, k + 1, s, t, hc, hjk, h1, h2 => chain_mono hc.2.2.2.2 (by omega) (show r[j]? = some s by simpa using h1) (show r[k]? = some t by simpa using h2)

theorem pl_mono {L : List UInt8} {T : List LexM.Tk} (hc : LexM.Chain L 0 T) {j k : Nat} (h : j ≤ k) : pl T L.length j ≤ pl T L.length k := by
  unfold pl
  by_cases hk : k < T.length
  · have hj : j < T.length := by omega
    rw [if_pos hj, if_pos hk, tokAt_some (List.getElem?_eq_getElem hj), tokAt_some (List.getElem?_eq_getElem hk)]
    exact chain_mono hc h (List.getElem?_eq_getElem hj) (List.getElem?_eq_getElem hk)
  · rw [if_neg hk]
    by_cases hj : j < T.length
    · rw [if_pos hj, tokAt_some (List.getElem?_eq_getElem hj)]
      exact (chain_at hc (List.getElem?_eq_getElem hj)).2
    · rw [if_neg hj]; exact Nat.le_refl _

/-- what is asked of faults with their places: few; never falling; each at a token, or the last one at the end -/
def PlOk (T : List LexM.Tk) (sz : Nat) (xs : List (Nat × Nat)) : Prop :=
  xs.length ≤ 20 ∧ (∀ (i : Nat) (x y : Nat × Nat), xs[i]? = some x → xs[i + 1]? = some y → x.2 ≤ y.2) ∧
    ∀ (i : Nat) (x : Nat × Nat), xs[i]? = some x → (x = (21, sz) ∧ i + 1 = xs.length) ∨ ((∃ (k : Nat) (t : LexM.Tk), T[k]? = some t ∧ t.pos = x.2) ∧ (x.1 = 2 ∨ x.1 = 20))

theorem pl_tok {T : List LexM.Tk} {sz k : Nat} (h : k < T.length) : ∃ (j : Nat) (t : LexM.Tk), T[j]? = some t ∧ t.pos = pl T sz k := by
  refine ⟨k, T[k], List.getElem?_eq_getElem h, ?_⟩
  unfold pl
  rw [if_pos h, tokAt_some (List.getElem?_eq_getElem h)]

theorem pairwise_step {fs : Fs} (h : fs.Pairwise (fun a b => a.2 ≤ b.2)) {i : Nat} {x y : Nat × Nat} (h1 : fs[i]? = some x) (h2 : fs[i + 1]? = some y) : x.2 ≤ y.2 := by
  obtain ⟨l1, rfl⟩ := List.getElem?_eq_some_iff.1 h1
  obtain ⟨l2, rfl⟩ := List.getElem?_eq_some_iff.1 h2
  exact List.pairwise_iff_getElem.1 h i (i + 1) l1 l2 (by omega)

theorem plok_of {L : List UInt8} {T : List LexM.Tk} (hc : LexM.Chain L 0 T) {fs : Fs} (h : FsEnd T fs) : PlOk T L.length (fs.map fun x => (x.1, pl T L.length x.2)) := by
  obtain ⟨hlen, n, hq⟩ := h
  -- the order of the tokens' numbers, and what each fault is
  have hpw : fs.Pairwise (fun a b => a.2 ≤ b.2) := by
    rcases hq with h | ⟨gs, rfl, h⟩
    · exact h.2
    · rw [List.pairwise_append]
      refine ⟨h.2, List.pairwise_singleton _ _, fun a ha b hb => ?_⟩
      obtain rfl := List.mem_singleton.1 hb
      have := (h.1 a ha).2.1
      show a.2 ≤ T.length
      omega
  have heach : ∀ (i : Nat) (x : Nat × Nat), fs[i]? = some x → (x = (21, T.length) ∧ i + 1 = fs.length) ∨ (x.2 < T.length ∧ (x.1 = 2 ∨ x.1 = 20)) := by
    intro i x hx
    rcases hq with h | ⟨gs, rfl, h⟩
    · exact .inr (h.1 x (List.mem_of_getElem? hx)).2
    · by_cases hi : i < gs.length
      · rw [List.getElem?_append_left hi] at hx
        exact .inr (h.1 x (List.mem_of_getElem? hx)).2
      · have hil : i < (gs ++ [(21, T.length)]).length := (List.getElem?_eq_some_iff.1 hx).1
        have hi2 : i = gs.length := by simp at hil; omega
        subst hi2
        rw [List.getElem?_append_right (Nat.le_refl _)] at hx
        have : (21, T.length) = x := by simpa using hx
        exact .inl ⟨this.symm, by simp⟩
  refine ⟨by rw [List.length_map]; exact hlen, ?_, ?_⟩
  · intro i x y hx hy
    rw [List.getElem?_map] at hx hy
    obtain ⟨a, ha, rfl⟩ := Option.map_eq_some_iff.1 hx
    obtain ⟨b, hb, rfl⟩ := Option.map_eq_some_iff.1 hy
    exact pl_mono hc (pairwise_step hpw ha hb)
  · intro i x hx
    rw [List.getElem?_map] at hx
    obtain ⟨a, ha, rfl⟩ := Option.map_eq_some_iff.1 hx
    rcases heach i a ha with ⟨rfl, hi⟩ | ⟨h1, h2⟩
    · left
      refine ⟨?_, by rw [List.length_map]; exact hi⟩
      show (21, pl T L.length T.length) = (21, L.length)
      unfold pl
      rw [if_neg (by omega)]
    · exact .inr ⟨pl_tok h1, h2⟩

/-- what Parse tells of a text that Lex tells the tokens of -/
theorem parse_places {l : List UInt8} (hl : l.length ≤ 20000) (he : (lexOut l).2.1 = 0) : PlOk (lexOut l).1 l.length (parseOut l).2 := by
  unfold parseOut
  rw [if_neg (by simp [he])]
  exact plok_of (lexOut_bounds hl).2.2 (pDesign_ok _ _ 0 [] [] 0 (Nat.zero_le _) ⟨(fun x hx => by cases hx), List.Pairwise.nil⟩ (by simp))
theorem parse_lexerr {l : List UInt8} (he : (lexOut l).2.1 ≠ 0) : parseOut l = ([], [((lexOut l).2.1, (lexOut l).2.2)]) := by
  unfold parseOut
  rw [if_pos he]
end Go.Proofs.YtccjbpghpoblhaaDoor

