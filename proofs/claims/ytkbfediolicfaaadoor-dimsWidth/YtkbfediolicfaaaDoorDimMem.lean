/-
  ROWS OF NAMES, OF NUMBERS, OF DIMENSIONS IN MEMORY; slices.Index of names, WALKED.
-/
import Derived.Test.YtkbfediolicfaaaDoorDimAs
import Derived.Test.YtkbfediolicfaaaDoorDimMath
import Derived.Below
import Derived.Laws.Rows
import Derived.Laws.StructEq
import Derived.BigQuiet
import Derived.Deep.QuietTactic
import Derived.Deep.RegionWith
import Derived.Deep.LoopGhost
import Derived.Outline
namespace Go.Proofs.YtkbfediolicfaaaDoor
open Go.RowKit
open DimM

/-- a row of names -/
def Strs (w : World) (B : Nat) (A : Option Addr) (ns : List ByteArray) : Prop :=
  ∀ (i : Nat) (s : ByteArray), ns[i]? = some s → ∃ b off, A = some ⟨b, off, none⟩ ∧ b < B ∧ w.cell? ⟨b, off + i, none⟩ = some (.string s)
/-- a row of numbers -/
def Ints (w : World) (B : Nat) (A : Option Addr) (ns : List Int) : Prop :=
  ∀ (i : Nat) (s : Int), ns[i]? = some s → ∃ b off, A = some ⟨b, off, none⟩ ∧ b < B ∧ w.cell? ⟨b, off + i, none⟩ = some (.int .i64 s)
/-- a row of dimensions -/
def Dms (w : World) (B : Nat) (A : Option Addr) (ds : List (ByteArray × Int)) : Prop :=
  ∀ (i : Nat) (d : ByteArray × Int), ds[i]? = some d → ∃ b off, A = some ⟨b, off, none⟩ ∧ b < B ∧ w.cell? ⟨b, off + i * 2, none⟩ = some (.string d.1) ∧ w.cell? ⟨b, off + i * 2 + 1, none⟩ = some (.int .i64 d.2)
/-- a row of parameters, as the laws take them -/
def Nmd (w : World) (B : Nat) (A : Option Addr) (ds : List (ByteArray × Int)) : Prop :=
  ∀ (i : Nat) (d : ByteArray × Int), ds[i]? = some d → ∃ b off, A = some ⟨b, off, none⟩ ∧ b < B ∧ w.cell? ⟨b, off + i * 2, none⟩ = some (.string d.1) ∧ w.cell? ⟨b, off + i * 2 + 1, none⟩ = some (.int .u16 d.2)

theorem Strs.below {w w' : World} {B : Nat} {A : Option Addr} {ns : List ByteArray} (h : Strs w B A ns) (hb : Below B w w') : Strs w' B A ns := by
  intro i s hi
  obtain ⟨b, off, e, hlt, hc⟩ := h i s hi
  exact ⟨b, off, e, hlt, by rw [hb.cell (p := ⟨b, off + i, none⟩) hlt]; exact hc⟩
theorem Ints.below {w w' : World} {B : Nat} {A : Option Addr} {ns : List Int} (h : Ints w B A ns) (hb : Below B w w') : Ints w' B A ns := by
  intro i s hi
  obtain ⟨b, off, e, hlt, hc⟩ := h i s hi
  exact ⟨b, off, e, hlt, by rw [hb.cell (p := ⟨b, off + i, none⟩) hlt]; exact hc⟩
theorem Dms.below {w w' : World} {B : Nat} {A : Option Addr} {ns : List (ByteArray × Int)} (h : Dms w B A ns) (hb : Below B w w') : Dms w' B A ns := by
  intro i s hi
  obtain ⟨b, off, e, hlt, hc, hc'⟩ := h i s hi
  exact ⟨b, off, e, hlt, by rw [hb.cell (p := ⟨b, _, none⟩) hlt]; exact hc, by rw [hb.cell (p := ⟨b, _, none⟩) hlt]; exact hc'⟩
theorem Nmd.below {w w' : World} {B : Nat} {A : Option Addr} {ns : List (ByteArray × Int)} (h : Nmd w B A ns) (hb : Below B w w') : Nmd w' B A ns := by
  intro i s hi
  obtain ⟨b, off, e, hlt, hc, hc'⟩ := h i s hi
  exact ⟨b, off, e, hlt, by rw [hb.cell (p := ⟨b, _, none⟩) hlt]; exact hc, by rw [hb.cell (p := ⟨b, _, none⟩) hlt]; exact hc'⟩
theorem Strs.more {w : World} {B B' : Nat} {A : Option Addr} {ns : List ByteArray} (h : Strs w B A ns) (hb : B ≤ B') : Strs w B' A ns := by
  intro i s hi
  obtain ⟨b, off, e, hlt, hc⟩ := h i s hi
  exact ⟨b, off, e, by omega, hc⟩
theorem Ints.more {w : World} {B B' : Nat} {A : Option Addr} {ns : List Int} (h : Ints w B A ns) (hb : B ≤ B') : Ints w B' A ns := by
  intro i s hi
  obtain ⟨b, off, e, hlt, hc⟩ := h i s hi
  exact ⟨b, off, e, by omega, hc⟩
theorem Dms.more {w : World} {B B' : Nat} {A : Option Addr} {ns : List (ByteArray × Int)} (h : Dms w B A ns) (hb : B ≤ B') : Dms w B' A ns := by
  intro i s hi
  obtain ⟨b, off, e, hlt, hc⟩ := h i s hi
  exact ⟨b, off, e, by omega, hc⟩
theorem Nmd.more {w : World} {B B' : Nat} {A : Option Addr} {ns : List (ByteArray × Int)} (h : Nmd w B A ns) (hb : B ≤ B') : Nmd w B' A ns := by
  intro i s hi
  obtain ⟨b, off, e, hlt, hc⟩ := h i s hi
  exact ⟨b, off, e, by omega, hc⟩

theorem toList_data (s : ByteArray) : s.toList = s.data.toList := ByteArray.toList_eq s
theorem toList_ne {s t : ByteArray} (h : s ≠ t) : (s.toList == t.toList) = false := by
  rw [toList_data, toList_data]
  rw [beq_eq_false_iff_ne]
  intro e
  apply h
  apply ByteArray.ext
  exact Array.toList_inj.1 e
theorem toList_eq (s : ByteArray) : (s.toList == s.toList) = true := by simp

set_option maxHeartbeats 1000000 in
theorem Index_hit (A : Option Addr) (c B : Nat) (ns : List ByteArray) (s : ByteArray) (m : Nat) (w : World) (hn : ns.length ≤ maxLen) (hT : Hid (Strs w B A ns)) (hm : Hid (ns[m]? = some s)) (hb : Hid (∀ (j : Nat) (t : ByteArray), j < m → ns[j]? = some t → t ≠ s)) :
    Calls Tryd.prog 26 #[.slice A ns.length c, .string s] w fun e w' => e = .returned (.int .i64 (m : Nat)) ∧ w = w' := by
  unfold maxLen at hn
  have hml : m < ns.length := (List.getElem?_eq_some_iff.1 hm.out).1
  go_enter Tryd.func26, Tryd.ntmps26
  go_wp2
  go_loopg [8] (m + 1) (fun g i wr => ∃ k : Nat, k + g = m + 1 ∧ k ≤ m ∧ i = .int .i64 k ∧ w = wr)
  case atStart => exact ⟨0, by omega, by omega, rfl, rfl⟩
  case round =>
    obtain ⟨k, hkg, hkm, rfl, rfl⟩ := hrel
    have HK := Lib.hid hkg
    clear hkg
    have hlt : k < ns.length := by omega
    have hsome : ns[k]? = some ns[k] := List.getElem?_eq_getElem hlt
    have hcase : (k < m ∧ ns[k] ≠ s) ∨ (k = m ∧ ns[k] = s) := by
      by_cases h : k < m
      · exact .inl ⟨h, hb.out k _ h hsome⟩
      · have : k = m := by omega
        subst this
        exact .inr ⟨rfl, Option.some.inj (hsome.symm.trans hm.out)⟩
    generalize ns[k] = t at hsome hcase
    obtain ⟨b, off, rfl, hbl, c0⟩ := hT.out k t hsome
    clear hsome
    have hi1 : (k : Int) < (ns.length : Int) := by omega
    have hi0 : (0 : Int) ≤ (k : Int) := by omega
    rcases hcase with ⟨h1, h2⟩ | ⟨rfl, rfl⟩
    · have h3 := toList_ne (fun h => h2 h.symm)
      go_wp2
      go_roundg (gk - 1)
      case measure => have := HK.out; omega
      case rel => exact ⟨k + 1, by have := HK.out; omega, by omega, by go_num, rfl⟩
    · go_wp2
      go_ret
      exact ⟨rfl, rfl⟩

set_option maxHeartbeats 1000000 in
theorem Index_miss (A : Option Addr) (c B : Nat) (ns : List ByteArray) (s : ByteArray) (w : World) (hn : ns.length ≤ maxLen) (hT : Hid (Strs w B A ns)) (hb : Hid (∀ (j : Nat) (t : ByteArray), ns[j]? = some t → t ≠ s)) :
    Calls Tryd.prog 26 #[.slice A ns.length c, .string s] w fun e w' => e = .returned (.int .i64 (-1)) ∧ w = w' := by
  unfold maxLen at hn
  go_enter Tryd.func26, Tryd.ntmps26
  go_wp2
  go_loopg [8] ns.length (fun g i wr => ∃ k : Nat, k + g = ns.length ∧ i = .int .i64 k ∧ w = wr)
  case atStart => exact ⟨0, by omega, rfl, rfl⟩
  case round =>
    obtain ⟨k, hkg, rfl, rfl⟩ := hrel
    have HK := Lib.hid hkg
    have hkl : k ≤ ns.length := by omega
    clear hkg
    by_cases hlt : k < ns.length
    · have hsome : ns[k]? = some ns[k] := List.getElem?_eq_getElem hlt
      have hne := hb.out k _ hsome
      generalize ns[k] = t at hsome hne
      obtain ⟨b, off, rfl, hbl, c0⟩ := hT.out k t hsome
      clear hsome
      have hi1 : (k : Int) < (ns.length : Int) := by omega
      have hi0 : (0 : Int) ≤ (k : Int) := by omega
      have h3 := toList_ne (fun h => hne h.symm)
      go_wp2
      go_roundg (gk - 1)
      case measure => have := HK.out; omega
      case rel => exact ⟨k + 1, by have := HK.out; omega, by go_num, rfl⟩
    · go_wp2
      go_ret
      exact ⟨rfl, rfl⟩
end Go.Proofs.YtkbfediolicfaaaDoor
