/-
  strings.Cut at a dot: the shelf's contract, laid at this program.
-/
import Derived.Test.YtjkaeabnjkhllaaScTgt
import Derived.Shelf.Strings.Cut
namespace Go.Proofs.Ytjkaeabnjkhllaa
open Go.RowKit Go.Shelf
def laysCut_ren : Go.Shelf.Ren := ⟨fun | 145 => 73 | 220 => 74 | 219 => 75 | 217 => 76 | 225 => 77 | 224 => 78 | 267 => 79 | 266 => 80 | 314 => 81 | n => n, fun | 9 => 9 | 4 => 4 | 59 => 127 | 3 => 3 | 5 => 5 | 46 => 131 | 146 => 133 | 51 => 132 | n => n, fun | 1 => 0 | n => n⟩
theorem laysCut : Go.Proofs.Lays.n145 Try.prog laysCut_ren := {
  mixed := by kernel_rfl
  f145 := Try.func73.trans (congrArg some (by kernel_rfl))
  f217 := Try.func76.trans (congrArg some (by kernel_rfl))
  f219 := Try.func75.trans (congrArg some (by kernel_rfl))
  f220 := Try.func74.trans (congrArg some (by kernel_rfl))
  f224 := Try.func78.trans (congrArg some (by kernel_rfl))
  f225 := Try.func77.trans (congrArg some (by kernel_rfl))
  f266 := Try.func80.trans (congrArg some (by kernel_rfl))
  f267 := Try.func79.trans (congrArg some (by kernel_rfl))
  f314 := Try.func81.trans (congrArg some (by kernel_rfl))
  t3 := Try.underlying3
  a3 := Try.isAgg3
  z3 := Try.sizeOf3
  v3 := Try.zeroValue3
  t4 := Try.underlying4
  a4 := Try.isAgg4
  z4 := Try.sizeOf4
  v4 := Try.zeroValue4
  t5 := Try.underlying5
  a5 := Try.isAgg5
  z5 := Try.sizeOf5
  v5 := Try.zeroValue5
  t9 := Try.underlying9
  a9 := Try.isAgg9
  z9 := Try.sizeOf9
  v9 := Try.zeroValue9
  t46 := Try.underlying131
  a46 := Try.isAgg131
  z46 := Try.sizeOf131
  v46 := Try.zeroValue131
  t51 := Try.underlying132
  a51 := Try.isAgg132
  z51 := Try.sizeOf132
  v51 := Try.zeroValue132
  t59 := Try.underlying127
  a59 := Try.isAgg127
  z59 := Try.sizeOf127
  v59 := Try.zeroValue127
  t146 := Try.underlying133
  a146 := Try.isAgg133
  z146 := Try.sizeOf133
  v146 := Try.zeroValue133
  g1 := by kernel_rfl }

theorem index_dot : ∀ l : List UInt8, Lib.index l [46] = match dotAt l with | none => -1 | some k => (k : Int)
  | [] => rfl
  | b :: l => by
    have ih := index_dot l
    rw [Lib.index, dotAt]
    by_cases hb : b = 46
    · subst hb
      simp
    · have h1 : ([46] : List UInt8).isPrefixOf (b :: l) = false := by
        simp [List.isPrefixOf]
        intro e
        exact hb e.symm
      rw [h1, if_neg (by simp), if_neg hb, ih]
      cases h : dotAt l with
      | none => simp
      | some k =>
        have : ¬ ((k : Int) == -1) = true := by simp
        simp only [Option.map_some]
        rw [if_neg this]
        simp
theorem dotAt_lt : ∀ {l : List UInt8} {k : Nat}, dotAt l = some k → k < l.length
  | [], _, h => by cases h
  | b :: l, k, h => by
    rw [dotAt] at h
    split at h
    · cases h
      simp
    · cases hd : dotAt l with
      | none => rw [hd] at h; cases h
      | some j =>
        rw [hd] at h
        have := dotAt_lt hd
        cases h
        simp
        omega
abbrev dotS : ByteArray := ⟨#[46]⟩
theorem cut_none (s : ByteArray) (m : Int) (w : World) (hs : s.size < 4294967281) (hm : w.cell? ⟨0, 0, none⟩ = some (.int .i64 m)) (hd : dotAt s.data.toList = none) :
    Calls Try.prog 73 #[.string s, .string dotS] w fun e w' => e = .returned (.tuple #[.string s, .string ByteArray.empty, .bool false]) ∧ Gr w w' := by
  have h := Any.strings_Cut laysCut s dotS m w hs hm
  have hix : Lib.indexB s dotS = -1 := by
    show Lib.index s.data.toList [46] = -1
    rw [index_dot, hd]
  obtain ⟨e1, e2, e3⟩ := Lib.cutB_miss s dotS hix
  rw [e1, e2, e3] at h
  exact h.mono fun e w' ⟨h1, n, h2⟩ => ⟨h1, by rw [h2]; exact Gr.drewN _ _⟩
theorem cut_some (s : ByteArray) (m : Int) (k : Nat) (w : World) (hs : s.size < 4294967281) (hm : w.cell? ⟨0, 0, none⟩ = some (.int .i64 m)) (hd : dotAt s.data.toList = some k) :
    Calls Try.prog 73 #[.string s, .string dotS] w fun e w' => e = .returned (.tuple #[.string (s.extract 0 k), .string (s.extract (k + 1) s.size), .bool true]) ∧ Gr w w' := by
  have h := Any.strings_Cut laysCut s dotS m w hs hm
  have hix : Lib.indexB s dotS = (k : Nat) := by
    show Lib.index s.data.toList [46] = _
    rw [index_dot, hd]
  obtain ⟨e1, e2, e3⟩ := Lib.cutB_hit s dotS k hix
  rw [e1, e2, e3] at h
  exact h.mono fun e w' ⟨h1, n, h2⟩ => ⟨h1, by rw [h2]; exact Gr.drewN _ _⟩

theorem look_mem {s : ByteArray} : ∀ {l : List (ByteArray × Nat × Nat)}, look l s ≠ (0, 0) → (s, look l s) ∈ l
  | [], h => absurd rfl h
  | p :: r, h => by
    rw [look] at h ⊢
    split
    · rename_i hp
      rw [← hp]
      exact List.mem_cons_self
    · rename_i hp
      rw [if_neg hp] at h
      exact List.mem_cons_of_mem _ (look_mem h)
theorem parPl_mem {x : ByteArray × Nat × Nat} : ∀ {l : List ByteArray} {i : Nat}, x ∈ parPl l i → x.2.1 = 1
  | [], i, h => by cases h
  | n :: r, i, h => by
    rw [parPl] at h
    rcases List.mem_cons.1 h with rfl | h
    · rfl
    · exact parPl_mem h
theorem porPl_mem {x : ByteArray × Nat × Nat} : ∀ {l : List (Bool × ByteArray × Dm)} {i : Nat}, x ∈ porPl l i → x.2.1 = 2 ∨ x.2.1 = 3
  | [], i, h => by cases h
  | n :: r, i, h => by
    rw [porPl] at h
    rcases List.mem_cons.1 h with rfl | h
    · simp only []
      split
      · exact .inl rfl
      · exact .inr rfl
    · exact porPl_mem h
theorem itmPl_mem {x : ByteArray × Nat × Nat} : ∀ {l : List It} {i : Nat}, x ∈ itmPl l i → ∃ k y, l[k]? = some y ∧ x = (y.name, itemKind y.kind, i + k)
  | [], i, h => by cases h
  | y :: r, i, h => by
    rw [itmPl] at h
    split at h
    · obtain ⟨k, z, h1, h2⟩ := itmPl_mem h
      exact ⟨k + 1, z, by simpa using h1, by rw [h2, show i + 1 + k = i + (k + 1) by omega]⟩
    · rcases List.mem_cons.1 h with rfl | h
      · exact ⟨0, y, rfl, rfl⟩
      · obtain ⟨k, z, h1, h2⟩ := itmPl_mem h
        exact ⟨k + 1, z, by simpa using h1, by rw [h2, show i + 1 + k = i + (k + 1) by omega]⟩
/-- an instance stands among the items -/
theorem kind_inst {m : Mo} {s : ByteArray} (h : (kindOf m s).1 = 7) : ∃ x, m.items[(kindOf m s).2]? = some x ∧ x.name = s ∧ x.kind = 7 := by
  have hm : (s, kindOf m s) ∈ placesOf m := look_mem (fun e => by rw [kindOf, e] at h; cases h)
  rcases List.mem_append.1 hm with h1 | h1
  · have := parPl_mem h1
    simp only [] at this
    omega
  rcases List.mem_append.1 h1 with h1 | h1
  · have := porPl_mem h1
    simp only [] at this
    omega
  · obtain ⟨k, y, h2, h3⟩ := itmPl_mem h1
    simp only [Prod.mk.injEq] at h3
    have h4 : kindOf m s = (itemKind y.kind, 0 + k) := h3.2
    rw [h4] at h ⊢
    simp only [Nat.zero_add] at h ⊢
    refine ⟨y, h2, h3.1.symm, ?_⟩
    unfold itemKind at h
    split at h
    · omega
    split at h
    · omega
    split at h
    · omega
    split at h
    · assumption
    · omega
end Go.Proofs.Ytjkaeabnjkhllaa
