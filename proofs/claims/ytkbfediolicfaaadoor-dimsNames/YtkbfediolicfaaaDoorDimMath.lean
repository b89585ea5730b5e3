/-
  WHAT NUMBERS ARE, OF PARAMETERS: plain mathematics. An Errno is told by its number: 0 is OK, 40 no parameter, 41 out of range.
-/
namespace DimM
abbrev Ps := List (ByteArray × Int)

/-- the number of the first parameter of that name -/
def look (s : ByteArray) : Ps → Option Int
  | [] => none
  | p :: r => if p.1 = s then some p.2 else look s r

theorem look_none {s : ByteArray} {l : Ps} (h : look s l = none) : ∀ (i : Nat) (p : ByteArray × Int), l[i]? = some p → p.1 ≠ s := by
  induction l with
  | nil => intro i p hp; simp at hp
  | cons q r ih =>
    unfold look at h
    split at h
    · cases h
    · rename_i hq
      intro i p hp
      cases i with
      | zero => simp at hp; subst hp; exact hq
      | succ i => exact ih h i p (by simpa using hp)

theorem look_some {s : ByteArray} {l : Ps} {v : Int} (h : look s l = some v) : ∃ i : Nat, l[i]? = some (s, v) ∧ ∀ (j : Nat) (p : ByteArray × Int), j < i → l[j]? = some p → p.1 ≠ s := by
  induction l with
  | nil => simp [look] at h
  | cons q r ih =>
    unfold look at h
    split at h
    · rename_i hq
      refine ⟨0, ?_, fun j p hj => by omega⟩
      have : q.2 = v := by simpa using h
      subst hq this
      rfl
    · rename_i hq
      obtain ⟨i, h1, h2⟩ := ih h
      refine ⟨i + 1, by simpa using h1, fun j p hj hp => ?_⟩
      cases j with
      | zero => simp at hp; subst hp; exact hq
      | succ j => exact h2 j p (by omega) (by simpa using hp)

theorem look_mem {s : ByteArray} {l : Ps} {v : Int} (h : look s l = some v) : ∃ p ∈ l, p.2 = v := by
  obtain ⟨i, h1, _⟩ := look_some h
  exact ⟨_, List.mem_of_getElem? h1, rfl⟩

/-- what is added -/
def adds (s : ByteArray) (l : Ps) : Option Int := if s.data = #[] then some 0 else look s l

def fits (n v : Int) : Bool := decide (0 ≤ n) && decide (n ≤ 65535) && decide (0 ≤ n + v) && decide (n + v ≤ 65535)
/-- a number: what it is, and the error -/
def val (s : ByteArray) (n : Int) (l : Ps) : Int × Int :=
  match adds s l with
  | none => (0, 40)
  | some v => if fits n v then (n + v, 0) else (0, 41)
def wid (s : ByteArray) (n : Int) (l : Ps) : Int × Int :=
  if (val s n l).2 = 0 then (if 1 ≤ (val s n l).1 ∧ (val s n l).1 ≤ 16 then ((val s n l).1, 0) else (0, 41)) else (0, (val s n l).2)

/-- many: the numbers, and the error -/
def vals (l : Ps) : List (ByteArray × Int) → List Int × Int
  | [] => ([], 0)
  | d :: r => if (val d.1 d.2 l).2 = 0 then (if (vals l r).2 = 0 then ((val d.1 d.2 l).1 :: (vals l r).1, 0) else ([], (vals l r).2)) else ([], (val d.1 d.2 l).2)

def Fine (l : Ps) : Prop := ∀ p ∈ l, 0 ≤ p.2 ∧ p.2 ≤ 65535
theorem adds_fine {s : ByteArray} {l : Ps} {v : Int} (hl : Fine l) (h : adds s l = some v) : 0 ≤ v ∧ v ≤ 65535 := by
  unfold adds at h
  split at h
  · have : v = 0 := by simpa using h.symm
    omega
  · obtain ⟨p, hp, rfl⟩ := look_mem h
    exact hl p hp

theorem val_cases (s : ByteArray) (n : Int) (l : Ps) : (adds s l = none ∧ val s n l = (0, 40)) ∨ (∃ v, adds s l = some v ∧ fits n v = true ∧ val s n l = (n + v, 0)) ∨ (∃ v, adds s l = some v ∧ fits n v = false ∧ val s n l = (0, 41)) := by
  unfold val
  rcases adds s l with _ | v
  · exact .inl ⟨rfl, rfl⟩
  · rcases hf : fits n v with _ | _
    · exact .inr (.inr ⟨v, rfl, hf, by simp [hf]⟩)
    · exact .inr (.inl ⟨v, rfl, hf, by simp [hf]⟩)

theorem vals_err {l : Ps} {ds : List (ByteArray × Int)} (h : (vals l ds).2 ≠ 0) : (vals l ds).1 = [] := by
  cases ds with
  | nil => simp [vals] at h
  | cons d r =>
    unfold vals at h ⊢
    split
    · split
      · rename_i h1 h2; simp [h1, h2] at h
      · rfl
    · rfl

def join (xs : List Int) (p : List Int × Int) : List Int × Int := if p.2 = 0 then (xs ++ p.1, 0) else ([], p.2)
theorem join_nil (l : Ps) (ds : List (ByteArray × Int)) : join [] (vals l ds) = vals l ds := by
  unfold join
  split
  · rename_i h; rw [List.nil_append]; exact Prod.ext rfl h.symm
  · rename_i h; exact Prod.ext (vals_err h).symm rfl
theorem join_step {l : Ps} {d : ByteArray × Int} {r : List (ByteArray × Int)} {x : Int} (xs : List Int) (h : val d.1 d.2 l = (x, 0)) : join xs (vals l (d :: r)) = join (xs ++ [x]) (vals l r) := by
  unfold join
  rw [vals, h]
  simp only [if_true]
  by_cases h2 : (vals l r).2 = 0
  · simp [h2]
  · simp [h2]
theorem join_err {l : Ps} {d : ByteArray × Int} {r : List (ByteArray × Int)} {x e : Int} (xs : List Int) (h : val d.1 d.2 l = (x, e)) (he : e ≠ 0) : join xs (vals l (d :: r)) = ([], e) := by
  unfold join
  rw [vals, h]
  simp [he]
theorem join_end (l : Ps) (xs : List Int) : join xs (vals l []) = (xs, 0) := by simp [join, vals]
end DimM
