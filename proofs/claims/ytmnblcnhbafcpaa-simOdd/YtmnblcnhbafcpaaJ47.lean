/-
  WHERE A PROPERTY IS HIT, PLAIN.
-/
import Derived.Test.YtmnblcnhbafcpaaJ43
namespace Go.Proofs.Ytmnblcnhbafcpaa
open NetM

/-- states of the beginning of a trace -/
theorem stsL_pre {n : Nt} {t : List (List Nat)} {k : Nat} (h : k ≤ t.length) : stsL n (t.take k) (k + 1) = (stsL n t (t.length + 1)).take (k + 1) := by
  refine List.ext_getElem? fun i => ?_
  by_cases hi : i < k + 1
  · rw [List.getElem?_take_of_lt hi, stsL_at hi, stsL_at (by omega), stAt_pre (t := t.take k) (u := t) (fun j hj => List.getElem?_take_of_lt (by omega))]
  · rw [List.getElem?_eq_none (by rw [stsL_len]; omega), List.getElem?_eq_none (by rw [List.length_take, stsL_len]; omega)]
theorem bitsAt_pre {n : Nt} {t u : List (List Nat)} {k : Nat} (h : ∀ j, j ≤ k → t[j]? = u[j]?) : bitsAt n t k = bitsAt n u k := by
  unfold bitsAt
  rw [valAt_pre h]
/-- bits of the beginning of a trace -/
theorem runL_pre {n : Nt} {t : List (List Nat)} {k : Nat} (h : k ≤ t.length) : runL n (t.take k) k = (runL n t t.length).take k := by
  refine List.ext_getElem? fun i => ?_
  by_cases hi : i < k
  · rw [List.getElem?_take_of_lt hi, runL_at hi, runL_at (by omega), bitsAt_pre (t := t.take k) (u := t) (fun j hj => List.getElem?_take_of_lt (by omega))]
  · rw [List.getElem?_eq_none (by rw [runL_len]; omega), List.getElem?_eq_none (by rw [List.length_take, runL_len]; omega)]
/-- all assumptions are so at this cycle -/
def lgA (n : Nt) (t : List (List Nat)) (j : Nat) : Bool := legL n.props (bitsAt n t j)
/-- the property is of its kind at this cycle -/
def htA (n : Nt) (t : List (List Nat)) (p : Pr) (pi j : Nat) : Bool := hitB p ((bitsAt n t j)[pi]?.getD false)
theorem hitF_spec {n : Nt} {t : List (List Nat)} {p : Pr} {pi : Nat} : ∀ {m s k : Nat}, hitF n t p pi s m = (k, true) → s ≤ k ∧ k < s + m ∧ (∀ j, s ≤ j → j ≤ k → lgA n t j = true) ∧ (∀ j, s ≤ j → j < k → htA n t p pi j = false) ∧ htA n t p pi k = true
  | 0, s, k, h => by simp [hitF] at h
  | m + 1, s, k, h => by
    rw [hitF] at h
    by_cases hl : legL n.props (bitsAt n t s) = false
    · rw [if_pos hl] at h
      simp at h
    · rw [if_neg hl] at h
      have hl1 : lgA n t s = true := by simpa [lgA] using hl
      by_cases hb : hitB p ((bitsAt n t s)[pi]?.getD false) = true
      · rw [if_pos hb] at h
        obtain rfl : s = k := by simpa using h
        refine ⟨Nat.le_refl _, by omega, fun j h1 h2 => ?_, fun j h1 h2 => by omega, hb⟩
        obtain rfl : j = s := by omega
        exact hl1
      · rw [if_neg hb] at h
        obtain ⟨i1, i2, i3, i4, i5⟩ := hitF_spec h
        refine ⟨by omega, by omega, fun j h1 h2 => ?_, fun j h1 h2 => ?_, i5⟩
        · by_cases e : j = s
          · rw [e]
            exact hl1
          · exact i3 j (by omega) h2
        · by_cases e : j = s
          · rw [e]
            simpa [htA] using hb
          · exact i4 j (by omega) h2
theorem hitF_mk {n : Nt} {t : List (List Nat)} {p : Pr} {pi : Nat} : ∀ {m s k : Nat}, s ≤ k → k < s + m → (∀ j, s ≤ j → j ≤ k → lgA n t j = true) → (∀ j, s ≤ j → j < k → htA n t p pi j = false) → htA n t p pi k = true → hitF n t p pi s m = (k, true)
  | 0, s, k, h1, h2, _, _, _ => by omega
  | m + 1, s, k, h1, h2, h3, h4, h5 => by
    have hl := h3 s (Nat.le_refl _) h1
    unfold lgA at hl
    rw [hitF, if_neg (by rw [hl]; decide)]
    by_cases e : s = k
    · subst e
      unfold htA at h5
      rw [if_pos h5]
    · have hb := h4 s (Nat.le_refl _) (by omega)
      unfold htA at hb
      rw [if_neg (by rw [hb]; decide)]
      exact hitF_mk (by omega) (by omega) (fun j q1 q2 => h3 j (by omega) q2) (fun j q1 q2 => h4 j (by omega) q2) h5
/-- none is hit: cycle 0 -/
theorem hitF_none {n : Nt} {t : List (List Nat)} {p : Pr} {pi : Nat} : ∀ {m s : Nat}, (hitF n t p pi s m).2 = false → hitF n t p pi s m = (0, false)
  | 0, s, _ => rfl
  | m + 1, s, h => by
    rw [hitF] at h ⊢
    by_cases hl : legL n.props (bitsAt n t s) = false
    · rw [if_pos hl]
    · rw [if_neg hl] at h ⊢
      by_cases hb : hitB p ((bitsAt n t s)[pi]?.getD false) = true
      · rw [if_pos hb] at h
        simp at h
      · rw [if_neg hb] at h ⊢
        exact hitF_none h
/-- the first cycle that is of its kind, or not lawful -/
theorem hitF_stop {n : Nt} {t : List (List Nat)} {p : Pr} {pi : Nat} : ∀ {m s k : Nat}, s ≤ k → k < s + m → (∀ j, s ≤ j → j < k → htA n t p pi j = false) → lgA n t k = false → (hitF n t p pi s m).2 = false
  | 0, s, k, h1, h2, _, _ => by omega
  | m + 1, s, k, h1, h2, h3, h4 => by
    rw [hitF]
    by_cases hl : legL n.props (bitsAt n t s) = false
    · rw [if_pos hl]
    · rw [if_neg hl]
      by_cases e : s = k
      · subst e
        exact absurd h4 hl
      · have hb := h3 s (Nat.le_refl _) (by omega)
        unfold htA at hb
        rw [if_neg (by rw [hb]; decide)]
        exact hitF_stop (by omega) (by omega) (fun j q1 q2 => h3 j (by omega) q2) h4
theorem hitF_clear {n : Nt} {t : List (List Nat)} {p : Pr} {pi : Nat} {m s : Nat} (h : ∀ j, s ≤ j → j < s + m → htA n t p pi j = false) : (hitF n t p pi s m).2 = false := by
  cases e : (hitF n t p pi s m).2 with
  | false => rfl
  | true =>
    obtain ⟨h1, h2, -, -, h5⟩ := hitF_spec (k := (hitF n t p pi s m).1) (by rw [← e])
    rw [h _ h1 h2] at h5
    simp at h5
theorem lgA_pre {n : Nt} {t u : List (List Nat)} {k : Nat} (h : ∀ j, j ≤ k → t[j]? = u[j]?) : lgA n t k = lgA n u k := by
  unfold lgA
  rw [bitsAt_pre h]
theorem htA_pre {n : Nt} {t u : List (List Nat)} {p : Pr} {pi k : Nat} (h : ∀ j, j ≤ k → t[j]? = u[j]?) : htA n t p pi k = htA n u p pi k := by
  unfold htA
  rw [bitsAt_pre h]
/-- what comes behind a hit does not count -/
theorem hitF_cut {n : Nt} {t u : List (List Nat)} {p : Pr} {pi m m' k : Nat} (h : hitF n t p pi 0 m = (k, true)) (hu : ∀ j, j ≤ k → t[j]? = u[j]?) (hm : k < m') : hitF n u p pi 0 m' = (k, true) := by
  obtain ⟨h1, h2, h3, h4, h5⟩ := hitF_spec h
  refine hitF_mk (Nat.zero_le _) (by omega) (fun j q1 q2 => ?_) (fun j q1 q2 => ?_) ?_
  · rw [← lgA_pre (t := t) (fun i hi => hu i (by omega))]
    exact h3 j q1 q2
  · rw [← htA_pre (t := t) (fun i hi => hu i (by omega))]
    exact h4 j q1 q2
  · rw [← htA_pre (t := t) hu]
    exact h5
/-- ahead of a hit there is none -/
theorem hitF_ahead {n : Nt} {t u : List (List Nat)} {p : Pr} {pi m k : Nat} (h : hitF n t p pi 0 m = (k, true)) (hu : ∀ j, j < k → t[j]? = u[j]?) : (hitF n u p pi 0 k).2 = false := by
  obtain ⟨h1, h2, h3, h4, h5⟩ := hitF_spec h
  refine hitF_clear fun j q1 q2 => ?_
  rw [← htA_pre (t := t) (fun i hi => hu i (by omega))]
  exact h4 j q1 (by omega)
end Go.Proofs.Ytmnblcnhbafcpaa
