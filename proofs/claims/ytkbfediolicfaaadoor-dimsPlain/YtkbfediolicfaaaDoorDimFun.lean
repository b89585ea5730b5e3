/-
  THE FUNCTIONS OF dims, WALKED.
-/
import Derived.Test.YtkbfediolicfaaaDoorDimMem
namespace Go.Proofs.YtkbfediolicfaaaDoor
open Go.RowKit
open DimM

theorem within_yes (n a b : Int) (w : World) (h1 : a ≤ n) (h2 : n ≤ b) : Calls Tryd.prog 24 #[.int .i64 n, .int .i64 a, .int .i64 b] w fun e w' => e = .returned (.bool true) ∧ w = w' := by
  go_enter Tryd.func24, Tryd.ntmps24
  go_wp2
  go_ret
  exact ⟨rfl, rfl⟩
theorem within_no (n a b : Int) (w : World) (h : n < a ∨ b < n) : Calls Tryd.prog 24 #[.int .i64 n, .int .i64 a, .int .i64 b] w fun e w' => e = .returned (.bool false) ∧ w = w' := by
  by_cases h1 : a ≤ n
  · have h2 : ¬ n ≤ b := by omega
    go_enter Tryd.func24, Tryd.ntmps24
    go_wp2
    go_ret
    exact ⟨rfl, rfl⟩
  · go_enter Tryd.func24, Tryd.ntmps24
    go_wp2
    go_ret
    exact ⟨rfl, rfl⟩

/-- parameters, as a function value looks them up -/
def Fnd (w : World) (B g h : Nat) (l : Ps) : Prop :=
  g < B ∧ h < B ∧ l.length ≤ maxLen ∧ ∃ A1 c1 A2 c2, w.cell? ⟨g, 0, none⟩ = some (.slice A1 l.length c1) ∧ w.cell? ⟨h, 0, none⟩ = some (.slice A2 l.length c2) ∧ Strs w B A1 (l.map Prod.fst) ∧ Ints w B A2 (l.map Prod.snd)
theorem Fnd.below {w w' : World} {B g h : Nat} {l : Ps} (hf : Fnd w B g h l) (hb : Below B w w') : Fnd w' B g h l := by
  obtain ⟨h1, h2, h3, A1, c1, A2, c2, h4, h5, h6, h7⟩ := hf
  exact ⟨h1, h2, h3, A1, c1, A2, c2, (hb.cell (p := ⟨g, 0, none⟩) h1).trans h4, (hb.cell (p := ⟨h, 0, none⟩) h2).trans h5, h6.below hb, h7.below hb⟩

theorem map_len (l : Ps) : (l.map Prod.fst).length = l.length := by simp

theorem find_yes (s : ByteArray) (v : Int) (B g h : Nat) (l : Ps) (w : World) (hF : Hid (Fnd w B g h l)) (hl : Hid (DimM.look s l = some v)) :
    Calls Tryd.prog 25 #[.string s, .pointer (some ⟨g, 0, none⟩), .pointer (some ⟨h, 0, none⟩)] w fun e w' => e = .returned (.tuple #[.int .i64 v, .nilIface]) ∧ w = w' := by
  obtain ⟨h1, h2, h3, A1, c1, A2, c2, h4, h5, h6, h7⟩ := hF.out
  obtain ⟨i, hi, hb⟩ := look_some hl.out
  have hil : i < l.length := (List.getElem?_eq_some_iff.1 hi).1
  obtain ⟨b, off, rfl, hbl, c0⟩ := h7 i v (by rw [List.getElem?_map, hi]; rfl)
  have HC := Index_hit A1 c1 B (l.map Prod.fst) s i w (by rw [map_len]; exact h3) (Lib.hid h6) (Lib.hid (by rw [List.getElem?_map, hi]; rfl)) (Lib.hid (by
    intro j t hj ht
    rw [List.getElem?_map] at ht
    obtain ⟨p, hp, rfl⟩ := Option.map_eq_some_iff.1 ht
    exact hb j p hj hp))
  rw [map_len] at HC
  have H := Lib.hid HC
  clear HC hi hb h6 h7
  unfold maxLen at h3
  have hi1 : (i : Int) < (l.length : Int) := by omega
  have hi0 : (0 : Int) ≤ (i : Int) := by omega
  go_enter Tryd.func25, Tryd.ntmps25
  go_wp2_with fail
  refine H.out.mono ?_
  rintro e w' ⟨rfl, rfl⟩
  go_wp2
  go_ret2
  exact ⟨rfl, rfl⟩

theorem find_no (s : ByteArray) (B g h : Nat) (l : Ps) (w : World) (hF : Hid (Fnd w B g h l)) (hl : Hid (DimM.look s l = none)) :
    Calls Tryd.prog 25 #[.string s, .pointer (some ⟨g, 0, none⟩), .pointer (some ⟨h, 0, none⟩)] w fun e w' => e = .returned (.tuple #[.int .i64 0, .iface 31 (.int .i64 40)]) ∧ w = w' := by
  obtain ⟨h1, h2, h3, A1, c1, A2, c2, h4, h5, h6, h7⟩ := hF.out
  have hb := look_none hl.out
  have HC := Index_miss A1 c1 B (l.map Prod.fst) s w (by rw [map_len]; exact h3) (Lib.hid h6) (Lib.hid (by
    intro j t ht
    rw [List.getElem?_map] at ht
    obtain ⟨p, hp, rfl⟩ := Option.map_eq_some_iff.1 ht
    exact hb j p hp))
  rw [map_len] at HC
  have H := Lib.hid HC
  clear HC hb h6 h7
  unfold maxLen at h3
  go_enter Tryd.func25, Tryd.ntmps25
  go_wp2_with fail
  refine H.out.mono ?_
  rintro e w' ⟨rfl, rfl⟩
  go_wp2
  go_ret2
  exact ⟨rfl, rfl⟩

theorem among_any (A1 A2 : Option Addr) (n1 c1 n2 c2 : Nat) (w : World) : Calls Tryd.prog 20 #[.slice A1 n1 c1, .slice A2 n2 c2] w fun e w' => e = .returned (.func (.func 25) #[] #[.pointer (some ⟨w.heap.size, 0, none⟩), .pointer (some ⟨w.heap.size + 1, 0, none⟩)]) ∧ w' = (w.alloc (.cells #[.slice A1 n1 c1] 27)).alloc (.cells #[.slice A2 n2 c2] 28) := by
  go_enter Tryd.func20, Tryd.ntmps20
  go_wp2
  go_ret
  exact ⟨rfl, rfl⟩

theorem errno_nil (w : World) : Calls Tryd.prog 21 #[.nilIface] w fun e w' => e = .returned (.int .i64 0) ∧ Below w.heap.size w w' := by
  go_enter Tryd.func21, Tryd.ntmps21
  go_wp2_with fail
  refine (as_nil _ _).mono ?_
  rintro e w' ⟨rfl, rfl⟩
  go_wp2
  go_ret
  exact ⟨rfl, (Below.refl _ _).alloc (Nat.le_refl _) _⟩

def ErrTy (w : World) : Prop := w.cell? ⟨0, 0, none⟩ = some (.iface 74 (.agg #[.pointer (some ⟨1, 48, none⟩)]))
theorem ErrTy.pos {w : World} (h : ErrTy w) : 0 < w.heap.size := by
  rcases Nat.eq_zero_or_pos w.heap.size with h0 | h1
  · unfold ErrTy at h; simp [World.cell?, h0] at h
  · exact h1
theorem ErrTy.below {w w' : World} {B : Nat} (h : ErrTy w) (hb : Below B w w') (hB : 0 < B) : ErrTy w' := (hb.cell (p := ⟨0, 0, none⟩) hB).trans h

set_option maxHeartbeats 1000000 in
theorem errno_hit (n : Int) (w : World) (hg : Hid (ErrTy w)) : Calls Tryd.prog 21 #[.iface 31 (.int .i64 n)] w fun e w' => e = .returned (.int .i64 n) ∧ Below w.heap.size w w' := by
  have hp := hg.out.pos
  go_enter Tryd.func21, Tryd.ntmps21
  go_wp2_with fail
  refine (as_hit n ⟨w.heap.size, 0, none⟩ (.int .i64 0) (w.alloc (.cells #[.int .i64 0] 31)) (by rw [World.cell?_alloc_lt _ _ ⟨0, 0, none⟩ hp]; exact hg.out) (by simp) (by simp)).mono ?_
  rintro e w' ⟨rfl, rfl⟩
  go_wp2
  go_ret
  refine ⟨rfl, ?_⟩
  have b1 := (Below.refl w.heap.size w).alloc (Nat.le_refl _) (.cells #[.int .i64 n] 31)
  refine Below.alloc ?_ ?_ _
  · refine Below.alloc ?_ ?_ _
    · refine Below.alloc ?_ ?_ _
      · exact b1.alloc (by simp) _
      · simp; omega
    · simp; omega
  · simp; omega

theorem str_empty {s : ByteArray} (h : s.data = #[]) : s.toList = [] := by rw [toList_data, h]
theorem str_full {s : ByteArray} (h : s.data ≠ #[]) : s.toList.isEmpty = false := by
  rw [toList_data]
  rw [List.isEmpty_eq_false_iff]
  intro e
  apply h
  exact Array.toList_inj.1 e

abbrev Fv (g h : Nat) : Value := .func (.func 25) #[] #[.pointer (some ⟨g, 0, none⟩), .pointer (some ⟨h, 0, none⟩)]

set_option maxHeartbeats 1000000 in
theorem value_param (s : ByteArray) (n : Int) (B g h : Nat) (l : Ps) (w : World) (hB : B ≤ w.heap.size) (hF : Hid (Fnd w B g h l)) (ha : Hid (adds s l = none)) :
    Calls Tryd.prog 19 #[.agg #[.string s, .int .i64 n], Fv g h] w fun e w' => e = .returned (.tuple #[.int .i64 0, .iface 31 (.int .i64 40)]) ∧ w' = w.alloc (.cells #[.string s, .int .i64 n] 23) := by
  have hx : s.data ≠ #[] ∧ DimM.look s l = none := by
    have := ha.out
    unfold adds at this
    split at this
    · cases this
    · exact ⟨by assumption, this⟩
  have hs := str_full hx.1
  have HL := Lib.hid hx.2
  clear hx
  go_enter Tryd.func19, Tryd.ntmps19
  go_wp2_with fail
  refine (find_no s B g h l _ (Lib.hid (hF.out.below ((Below.refl _ _).alloc hB _))) HL).mono ?_
  rintro e w' ⟨rfl, rfl⟩
  go_wp2
  go_ret2
  exact ⟨rfl, rfl⟩

/-- the number is looked up, or there is none to look up: the walk up to the test of what fits -/
theorem adds_some {s : ByteArray} {l : Ps} {v : Int} (h : adds s l = some v) : (s.data = #[] ∧ v = 0) ∨ (s.data ≠ #[] ∧ DimM.look s l = some v) := by
  unfold adds at h
  split at h
  · rename_i e; exact .inl ⟨e, by simpa using h.symm⟩
  · rename_i e; exact .inr ⟨e, h⟩

set_option maxHeartbeats 1000000 in
theorem value_ok (s : ByteArray) (n v : Int) (B g h : Nat) (l : Ps) (w : World) (hB : B ≤ w.heap.size) (hF : Hid (Fnd w B g h l)) (ha : Hid (adds s l = some v)) (hf : fits n v = true) :
    Calls Tryd.prog 19 #[.agg #[.string s, .int .i64 n], Fv g h] w fun e w' => e = .returned (.tuple #[.int .i64 (n + v), .nilIface]) ∧ w' = w.alloc (.cells #[.string s, .int .i64 n] 23) := by
  have hf' : 0 ≤ n ∧ n ≤ 65535 ∧ 0 ≤ n + v ∧ n + v ≤ 65535 := by simpa [fits, and_assoc] using hf
  obtain ⟨f1, f2, f3, f4⟩ := hf'
  clear hf
  rcases adds_some ha.out with ⟨hs, rfl⟩ | ⟨hs, hl⟩
  · have hs' := str_empty hs
    have hs2 : s.toList.isEmpty = true := by rw [hs']; rfl
    have HS := Lib.hid hs
    clear hs hs'
    rw [Int.add_zero]
    go_enter Tryd.func19, Tryd.ntmps19
    go_wp2_with (go_at_call 24; refine (within_yes _ _ _ _ (by omega) (by omega)).mono ?_; rintro e w' ⟨rfl, rfl⟩)
    go_ret2
    exact ⟨rfl, rfl⟩
  · have hs' := str_full hs
    have HL := Lib.hid hl
    have HS := Lib.hid hs
    clear hs hl
    go_enter Tryd.func19, Tryd.ntmps19
    go_wp2_with fail
    refine (find_yes s v B g h l _ (Lib.hid (hF.out.below ((Below.refl _ _).alloc hB _))) HL).mono ?_
    rintro e w' ⟨rfl, rfl⟩
    go_wp2_with (go_at_call 24; refine (within_yes _ _ _ _ (by omega) (by omega)).mono ?_; rintro e w' ⟨rfl, rfl⟩)
    go_ret2
    exact ⟨rfl, rfl⟩

set_option maxHeartbeats 1000000 in
theorem value_range (s : ByteArray) (n v : Int) (B g h : Nat) (l : Ps) (w : World) (hB : B ≤ w.heap.size) (hF : Hid (Fnd w B g h l)) (ha : Hid (adds s l = some v)) (hv0 : 0 ≤ v) (hv1 : v ≤ 65535) (hf : fits n v = false) :
    Calls Tryd.prog 19 #[.agg #[.string s, .int .i64 n], Fv g h] w fun e w' => e = .returned (.tuple #[.int .i64 0, .iface 31 (.int .i64 41)]) ∧ w' = w.alloc (.cells #[.string s, .int .i64 n] 23) := by
  have hf' : (n < 0 ∨ 65535 < n) ∨ (0 ≤ n ∧ n ≤ 65535 ∧ 65535 < n + v) := by
    have : ¬ fits n v = true := by rw [hf]; simp
    simp [fits, and_assoc] at this
    omega
  clear hf
  rcases adds_some ha.out with ⟨hs, rfl⟩ | ⟨hs, hl⟩
  · have hs' := str_empty hs
    have hs2 : s.toList.isEmpty = true := by rw [hs']; rfl
    have HS := Lib.hid hs
    clear hs hs'
    rcases hf' with hf' | ⟨_, _, _⟩
    · go_enter Tryd.func19, Tryd.ntmps19
      go_wp2_with (go_at_call 24; refine (within_no _ _ _ _ (by omega)).mono ?_; rintro e w' ⟨rfl, rfl⟩)
      go_ret2
      exact ⟨rfl, rfl⟩
    · omega
  · have hs' := str_full hs
    have HL := Lib.hid hl
    have HS := Lib.hid hs
    clear hs hl
    rcases hf' with hf' | ⟨f1, f2, f3⟩
    · go_enter Tryd.func19, Tryd.ntmps19
      go_wp2_with fail
      refine (find_yes s v B g h l _ (Lib.hid (hF.out.below ((Below.refl _ _).alloc hB _))) HL).mono ?_
      rintro e w' ⟨rfl, rfl⟩
      go_wp2_with (go_at_call 24; refine (within_no _ _ _ _ (by omega)).mono ?_; rintro e w' ⟨rfl, rfl⟩)
      go_ret2
      exact ⟨rfl, rfl⟩
    · go_enter Tryd.func19, Tryd.ntmps19
      go_wp2_with fail
      refine (find_yes s v B g h l _ (Lib.hid (hF.out.below ((Below.refl _ _).alloc hB _))) HL).mono ?_
      rintro e w' ⟨rfl, rfl⟩
      go_wp2_with fail
      refine (within_yes _ _ _ _ (by omega) (by omega)).mono ?_
      rintro e w' ⟨rfl, rfl⟩
      go_wp2_with fail
      refine (within_no _ _ _ _ (by omega)).mono ?_
      rintro e w' ⟨rfl, rfl⟩
      go_wp2
      go_ret2
      exact ⟨rfl, rfl⟩

/-- an error, as its number -/
def errV (e : Int) : Value := if e = 0 then .nilIface else .iface 31 (.int .i64 e)
theorem errV_nil : errV 0 = .nilIface := rfl
theorem errV_of {e : Int} (h : e ≠ 0) : errV e = .iface 31 (.int .i64 e) := if_neg h

theorem value_any (s : ByteArray) (n : Int) (B g h : Nat) (l : Ps) (w : World) (hB : B ≤ w.heap.size) (hF : Hid (Fnd w B g h l)) (hl : Hid (Fine l)) :
    Calls Tryd.prog 19 #[.agg #[.string s, .int .i64 n], Fv g h] w fun e w' => e = .returned (.tuple #[.int .i64 (val s n l).1, errV (val s n l).2]) ∧ w' = w.alloc (.cells #[.string s, .int .i64 n] 23) := by
  rcases val_cases s n l with ⟨h1, h2⟩ | ⟨v, h1, h2, h3⟩ | ⟨v, h1, h2, h3⟩
  · rw [h2]; exact value_param s n B g h l w hB hF (Lib.hid h1)
  · rw [h3]; exact value_ok s n v B g h l w hB hF (Lib.hid h1) h2
  · rw [h3]
    have := adds_fine hl.out h1
    exact value_range s n v B g h l w hB hF (Lib.hid h1) this.1 this.2 h2

theorem errno_any (n : Int) (w : World) (hg : Hid (ErrTy w)) : Calls Tryd.prog 21 #[errV n] w fun e w' => e = .returned (.int .i64 n) ∧ Below w.heap.size w w' := by
  by_cases h : n = 0
  · subst h; exact errno_nil w
  · rw [errV_of h]; exact errno_hit n w hg
end Go.Proofs.YtkbfediolicfaaaDoor
