/-
  THE DOCUMENT's ANSWER TO LAYER 4, WALKED.
-/
import Derived.Test.YtkbfediolicfaaaDoorDimLawD
namespace Go.Proofs.YtkbfediolicfaaaDoor
open Go.RowKit
open DimM

/-- what the reference's look-up keeps -/
def Rk (w0 : World) (s : ByteArray) (n : Int) (A1 A2 : Option Addr) (ps : Ps) (w : World) : Prop :=
  Below w0.heap.size w0 w ∧ EnvAt w A1 A2 ps ∧ w.cell? ⟨w0.heap.size, 0, none⟩ = some (.string s) ∧ w.cell? ⟨w0.heap.size, 1, none⟩ = some (.int .i64 n)
theorem Rk.drewN {w0 w : World} {s : ByteArray} {n : Int} {A1 A2 : Option Addr} {ps : Ps} (h : Rk w0 s n A1 A2 ps w) (k : Nat) : Rk w0 s n A1 A2 ps (w.drewN k) :=
  ⟨below_drewN h.1 k, h.2.1, h.2.2.1, h.2.2.2⟩

def RefRet (w : World) (p : Int × Int) (e : Ending) (w' : World) : Prop := e = .returned (.tuple #[.int .i64 p.1, .int .i64 p.2]) ∧ Below w.heap.size w w'

set_option maxRecDepth 100000 in
set_option maxHeartbeats 2000000 in
theorem RefValue_miss (s : ByteArray) (n : Int) (A1 A2 : Option Addr) (c1 c2 : Nat) (l : Ps) (w : World) (hE : Hid (EnvAt w A1 A2 l)) (hs : Hid (s.data ≠ #[])) (hl : Hid (DimM.look s l = none)) :
    Calls Tryd.prog 13 #[.agg #[.string s, .int .i64 n], .slice A1 l.length c1, .slice A2 l.length c2] w (RefRet w (0, 40)) := by
  have hlen := hE.out.1
  have hs2 := str_full hs.out
  have hb0 : Below w.heap.size w (w.alloc (.cells #[.string s, .int .i64 n] 23)) := (Below.refl _ _).alloc (Nat.le_refl _) _
  have K0 : Hid (Rk w s n A1 A2 l (w.alloc (.cells #[.string s, .int .i64 n] 23))) := Lib.hid ⟨hb0, hE.out.below hb0, by simp, by simp⟩
  have HN := Lib.hid (look_none hl.out)
  clear hb0
  go_enter Tryd.func13, Tryd.ntmps13
  go_wp2
  go_loopg [9, 10] l.length (fun g a i wr => ∃ k : Nat, k + g = l.length ∧ a = .int .i64 (-1) ∧ i = .int .i64 k ∧ Hid (Rk w s n A1 A2 l wr))
  case atStart => exact ⟨0, by omega, rfl, rfl, K0⟩
  case round =>
    obtain ⟨k, hkg, rfl, rfl, KR⟩ := hrel
    have HK := Lib.hid hkg
    have hkl : k ≤ l.length := by omega
    clear hkg
    by_cases hlt : k < l.length
    · have hsome : l[k]? = some l[k] := List.getElem?_eq_getElem hlt
      have hne := HN.out k _ hsome
      obtain ⟨b, off, rfl, hbl, c0⟩ := KR.out.2.1.2.2.1 k l[k].1 (by rw [List.getElem?_map, hsome]; rfl)
      obtain ⟨_, _, d0, d1⟩ := KR.out
      clear hsome
      generalize l[k] = d at hne c0
      obtain ⟨u, m⟩ := d
      simp only at hne c0
      have h3 := toList_ne hne
      have hi1 : (k : Int) < (l.length : Int) := by omega
      have hi0 : (0 : Int) ≤ (k : Int) := by omega
      go_wp2
      go_quiet (fail)
      go_wp2
      go_roundg (gk - 1)
      case measure => have := HK.out; omega
      case rel => exact ⟨k + 1, by have := HK.out; omega, rfl, by go_num, Lib.hid (KR.out.drewN _)⟩
    · go_wp2
      go_ret2
      exact ⟨rfl, KR.out.1⟩

theorem val_at {s : ByteArray} {n v : Int} {l : Ps} (ha : adds s l = some v) (hv0 : 0 ≤ v) : (n < 0 ∧ val s n l = (0, 41)) ∨ (¬ n < 0 ∧ 65535 < n ∧ val s n l = (0, 41)) ∨ (¬ n < 0 ∧ ¬ 65535 < n ∧ 65535 < n + v ∧ val s n l = (0, 41)) ∨ (¬ n < 0 ∧ ¬ 65535 < n ∧ ¬ 65535 < n + v ∧ val s n l = (n + v, 0)) := by
  by_cases h1 : n < 0
  · exact .inl ⟨h1, val_no ha (fits_no _ _ (by omega))⟩
  · by_cases h2 : 65535 < n
    · exact .inr (.inl ⟨h1, h2, val_no ha (fits_no _ _ (by omega))⟩)
    · by_cases h3 : 65535 < n + v
      · exact .inr (.inr (.inl ⟨h1, h2, h3, val_no ha (fits_no _ _ (by omega))⟩))
      · exact .inr (.inr (.inr ⟨h1, h2, h3, val_of ha ((fits_iff _ _).2 (by omega))⟩))

set_option maxRecDepth 100000 in
set_option maxHeartbeats 2000000 in
theorem RefValue_empty (s : ByteArray) (n : Int) (A1 A2 : Option Addr) (c1 c2 : Nat) (l : Ps) (w : World) (hs : Hid (s.data = #[])) :
    Calls Tryd.prog 13 #[.agg #[.string s, .int .i64 n], .slice A1 l.length c1, .slice A2 l.length c2] w (RefRet w (val s n l)) := by
  have hs2 : s.toList.isEmpty = true := by rw [str_empty hs.out]; rfl
  have ha : adds s l = some 0 := by unfold adds; rw [if_pos hs.out]
  have hbel : Below w.heap.size w (w.alloc (.cells #[.string s, .int .i64 n] 23)) := (Below.refl _ _).alloc (Nat.le_refl _) _
  have HB := Lib.hid hbel
  clear hbel
  rcases val_at (n := n) ha (Int.le_refl 0) with ⟨h1, h⟩ | ⟨h1, h2, h⟩ | ⟨h1, h2, h3, h⟩ | ⟨h1, h2, h3, h⟩
  · rw [h]
    have HH := Lib.hid (And.intro h ha)
    clear h ha
    go_enter Tryd.func13, Tryd.ntmps13
    go_wp2
    go_ret2
    exact ⟨rfl, HB.out⟩
  · rw [h]
    have HH := Lib.hid (And.intro h ha)
    clear h ha
    go_enter Tryd.func13, Tryd.ntmps13
    go_wp2
    go_ret2
    exact ⟨rfl, HB.out⟩
  · omega
  · rw [h, Int.add_zero]
    have HH := Lib.hid (And.intro h ha)
    clear h ha
    go_enter Tryd.func13, Tryd.ntmps13
    go_wp2
    go_ret2
    exact ⟨rfl, HB.out⟩

set_option maxRecDepth 100000 in
set_option maxHeartbeats 4000000 in
theorem RefValue_hit (s : ByteArray) (n v : Int) (A1 A2 : Option Addr) (c1 c2 : Nat) (l : Ps) (w : World) (hE : Hid (EnvAt w A1 A2 l)) (hs : Hid (s.data ≠ #[])) (hl : Hid (DimM.look s l = some v)) :
    Calls Tryd.prog 13 #[.agg #[.string s, .int .i64 n], .slice A1 l.length c1, .slice A2 l.length c2] w (RefRet w (val s n l)) := by
  have hlen := hE.out.1
  have hs2 := str_full hs.out
  have ha : adds s l = some v := by unfold adds; rw [if_neg hs.out]; exact hl.out
  have hv := adds_fine hE.out.2.1 ha
  obtain ⟨hv0, hv1⟩ := hv
  have HV := Lib.hid (val_at (n := n) ha hv0)
  clear ha
  have hb0 : Below w.heap.size w (w.alloc (.cells #[.string s, .int .i64 n] 23)) := (Below.refl _ _).alloc (Nat.le_refl _) _
  have K0 : Hid (Rk w s n A1 A2 l (w.alloc (.cells #[.string s, .int .i64 n] 23))) := Lib.hid ⟨hb0, hE.out.below hb0, by simp, by simp⟩
  obtain ⟨m, hm, hbef⟩ := look_some hl.out
  have hml : m < l.length := (List.getElem?_eq_some_iff.1 hm).1
  have HN := Lib.hid (And.intro hm hbef)
  clear hb0 hm hbef
  go_enter Tryd.func13, Tryd.ntmps13
  go_wp2
  go_loopg [9, 10] l.length (fun g a i wr => ∃ (k : Nat) (z : Int), k + g = l.length ∧ a = .int .i64 z ∧ i = .int .i64 k ∧ Hid ((k ≤ m ∧ z = -1) ∨ (m < k ∧ z = m)) ∧ Hid (Rk w s n A1 A2 l wr))
  case atStart => exact ⟨0, -1, by omega, rfl, rfl, Lib.hid (.inl ⟨by omega, rfl⟩), K0⟩
  case round =>
    obtain ⟨k, z, hkg, rfl, rfl, HZ, KR⟩ := hrel
    have HK := Lib.hid hkg
    have hkl : k ≤ l.length := by omega
    clear hkg
    obtain ⟨_, _, d0, d1⟩ := KR.out
    by_cases hlt : k < l.length
    · have hsome : l[k]? = some l[k] := List.getElem?_eq_getElem hlt
      have hcase : (k < m ∧ z = -1 ∧ l[k].1 ≠ s) ∨ (k = m ∧ z = -1 ∧ l[k].1 = s) ∨ (m < k ∧ z = m) := by
        rcases HZ.out with ⟨h1, h2⟩ | ⟨h1, h2⟩
        · by_cases h : k < m
          · exact .inl ⟨h, h2, HN.out.2 k _ h hsome⟩
          · have hkm : k = m := by omega
            subst hkm
            have := Option.some.inj (hsome.symm.trans HN.out.1)
            exact .inr (.inl ⟨rfl, h2, by rw [this]⟩)
        · exact .inr (.inr ⟨h1, h2⟩)
      obtain ⟨b, off, rfl, hbl, c0⟩ := KR.out.2.1.2.2.1 k l[k].1 (by rw [List.getElem?_map, hsome]; rfl)
      clear hsome
      generalize l[k] = d at hcase c0
      obtain ⟨u, q⟩ := d
      simp only at hcase c0
      have hi1 : (k : Int) < (l.length : Int) := by omega
      have hi0 : (0 : Int) ≤ (k : Int) := by omega
      clear HZ
      rcases hcase with ⟨h1, rfl, h2⟩ | ⟨h1, rfl, h2⟩ | ⟨h1, rfl⟩
      · have h3 := toList_ne h2
        go_wp2
        go_quiet (fail)
        go_wp2
        go_roundg (gk - 1)
        case measure => have := HK.out; omega
        case rel => exact ⟨k + 1, -1, by have := HK.out; omega, rfl, by go_num, Lib.hid (.inl ⟨by omega, rfl⟩), Lib.hid (KR.out.drewN _)⟩
      · have HKM := Lib.hid h1
        clear h1
        subst h2
        have h3 := toList_eq u
        go_wp2
        go_quiet (fail)
        go_wp2
        go_roundg (gk - 1)
        case measure => have := HK.out; omega
        case rel => exact ⟨k + 1, (k : Int), by have := HK.out; omega, rfl, by go_num, Lib.hid (.inr ⟨by have := HKM.out; omega, by rw [HKM.out]⟩), Lib.hid (KR.out.drewN _)⟩
      · have h3 : ¬ (m : Int) < 0 := by omega
        go_wp2
        go_quiet (fail)
        go_wp2
        go_roundg (gk - 1)
        case measure => have := HK.out; omega
        case rel => exact ⟨k + 1, (m : Int), by have := HK.out; omega, rfl, by go_num, Lib.hid (.inr ⟨by omega, rfl⟩), Lib.hid (KR.out.drewN _)⟩
    · have hz : z = m := by
        rcases HZ.out with ⟨h1, h2⟩ | ⟨h1, h2⟩
        · omega
        · exact h2
      subst hz
      clear HZ
      obtain ⟨b, off, rfl, hbl, c0⟩ := KR.out.2.1.2.2.2 m v (by rw [List.getElem?_map, HN.out.1]; rfl)
      have hi1 : (m : Int) < (l.length : Int) := by omega
      have hi0 : (0 : Int) ≤ (m : Int) := by omega
      have hi2 : ¬ (m : Int) < 0 := by omega
      rcases HV.out with ⟨h1, h⟩ | ⟨h1, h2, h⟩ | ⟨h1, h2, h3, h⟩ | ⟨h1, h2, h3, h⟩
      all_goals
        have HH := Lib.hid h
        clear h
        go_wp2
        go_ret2
        exact ⟨by rw [HH.out]; rfl, KR.out.1⟩

theorem RefValue_any (s : ByteArray) (n : Int) (A1 A2 : Option Addr) (c1 c2 : Nat) (l : Ps) (w : World) (hE : Hid (EnvAt w A1 A2 l)) :
    Calls Tryd.prog 13 #[.agg #[.string s, .int .i64 n], .slice A1 l.length c1, .slice A2 l.length c2] w (RefRet w (val s n l)) := by
  by_cases hs : s.data = #[]
  · exact RefValue_empty s n A1 A2 c1 c2 l w (Lib.hid hs)
  · rcases hl : DimM.look s l with _ | v
    · have hv : val s n l = (0, 40) := by unfold val adds; rw [if_neg hs, hl]
      rw [hv]
      exact RefValue_miss s n A1 A2 c1 c2 l w hE (Lib.hid hs) (Lib.hid hl)
    · exact RefValue_hit s n v A1 A2 c1 c2 l w hE (Lib.hid hs) (Lib.hid hl)
end Go.Proofs.YtkbfediolicfaaaDoor
