/-
  dims.Value, Width AND Values, WALKED.
-/
import Derived.Test.YtkbfediolicfaaaDoorDimFun
namespace Go.Proofs.YtkbfediolicfaaaDoor
open Go.RowKit
open DimM

set_option maxHeartbeats 1000000 in
theorem width_any (s : ByteArray) (n : Int) (B g h : Nat) (l : Ps) (w : World) (hB : B ≤ w.heap.size) (hF : Hid (Fnd w B g h l)) (hl : Hid (Fine l)) :
    Calls Tryd.prog 22 #[.agg #[.string s, .int .i64 n], Fv g h] w fun e w' => e = .returned (.tuple #[.int .i64 (wid s n l).1, errV (wid s n l).2]) ∧ Below w.heap.size w w' := by
  have HC := Lib.hid (value_any s n B g h l (w.alloc (.cells #[.string s, .int .i64 n] 23)) (by simp; omega) (Lib.hid (hF.out.below ((Below.refl _ _).alloc hB _))) hl)
  have hbel : Below w.heap.size w ((w.alloc (.cells #[.string s, .int .i64 n] 23)).alloc (.cells #[.string s, .int .i64 n] 23)) := ((Below.refl _ _).alloc (Nat.le_refl _) _).alloc (by simp) _
  have HB := Lib.hid hbel
  clear hbel
  unfold wid
  generalize val s n l = p at HC
  obtain ⟨x, e⟩ := p
  by_cases he : e = 0
  · subst he
    rw [errV_nil] at HC
    simp only [if_true]
    by_cases hx : 1 ≤ x ∧ x ≤ 16
    · rw [if_pos hx]
      obtain ⟨h1, h2⟩ := hx
      go_enter Tryd.func22, Tryd.ntmps22
      go_wp2_with fail
      refine HC.out.mono ?_
      rintro e w' ⟨rfl, rfl⟩
      go_wp2_with (go_at_call 24; refine (within_yes _ _ _ _ (by omega) (by omega)).mono ?_; rintro e w' ⟨rfl, rfl⟩)
      go_ret2
      exact ⟨rfl, HB.out⟩
    · rw [if_neg hx]
      have hx' : x < 1 ∨ 16 < x := by omega
      clear hx
      go_enter Tryd.func22, Tryd.ntmps22
      go_wp2_with fail
      refine HC.out.mono ?_
      rintro e w' ⟨rfl, rfl⟩
      go_wp2_with (go_at_call 24; refine (within_no _ _ _ _ (by omega)).mono ?_; rintro e w' ⟨rfl, rfl⟩)
      go_ret2
      exact ⟨rfl, HB.out⟩
  · simp only [if_neg he]
    rw [errV_of he] at HC ⊢
    go_enter Tryd.func22, Tryd.ntmps22
    go_wp2_with fail
    refine HC.out.mono ?_
    rintro e w' ⟨rfl, rfl⟩
    go_wp2
    go_ret2
    exact ⟨rfl, HB.out⟩

/-- names and numbers of parameters in memory -/
def EnvAt (w : World) (A1 A2 : Option Addr) (l : Ps) : Prop := l.length ≤ 1000 ∧ Fine l ∧ Strs w w.heap.size A1 (l.map Prod.fst) ∧ Ints w w.heap.size A2 (l.map Prod.snd)
theorem EnvAt.below {w w' : World} {A1 A2 : Option Addr} {l : Ps} (h : EnvAt w A1 A2 l) (hb : Below w.heap.size w w') : EnvAt w' A1 A2 l :=
  ⟨h.1, h.2.1, (h.2.2.1.below hb).more hb.size, (h.2.2.2.below hb).more hb.size⟩
theorem Fnd_of {w w1 : World} {A1 A2 : Option Addr} {c1 c2 g : Nat} {l : Ps} (h : EnvAt w A1 A2 l) (hb : Below w.heap.size w w1) (hg : w1.heap.size = g) :
    Fnd ((w1.alloc (.cells #[.slice A1 l.length c1] 27)).alloc (.cells #[.slice A2 l.length c2] 28)) (g + 2) g (g + 1) l := by
  subst hg
  have h' := h.below hb
  have hb2 : Below w1.heap.size w1 ((w1.alloc (.cells #[.slice A1 l.length c1] 27)).alloc (.cells #[.slice A2 l.length c2] 28)) := ((Below.refl _ _).alloc (Nat.le_refl _) _).alloc (by simp) _
  refine ⟨by omega, by omega, by unfold maxLen; have := h.1; omega, A1, c1, A2, c2, ?_, ?_, (h'.2.2.1.below hb2).more (by omega), (h'.2.2.2.below hb2).more (by omega)⟩
  · rw [World.cell?_alloc_lt _ _ ⟨w1.heap.size, 0, none⟩ (by simp)]; simp
  · simp
theorem Fnd.drew {w : World} {B g h : Nat} {l : Ps} (hf : Fnd w B g h l) : Fnd w.drew B g h l := hf

/-- the world in which a dimension is looked up -/
abbrev askW (w : World) (s : ByteArray) (n : Int) (A1 A2 : Option Addr) (k c1 c2 : Nat) : World :=
  (((w.alloc (.cells #[.string s, .int .i64 n] 23)).alloc (.cells #[.slice A1 k c1] 27)).alloc (.cells #[.slice A2 k c2] 28)).drew
theorem askW_below (w : World) (s : ByteArray) (n : Int) (A1 A2 : Option Addr) (k c1 c2 : Nat) : Below w.heap.size w (askW w s n A1 A2 k c1 c2) :=
  ((((Below.refl _ _).alloc (Nat.le_refl _) _).alloc (by simp) _).alloc (by simp; omega) _).drew
theorem askW_size (w : World) (s : ByteArray) (n : Int) (A1 A2 : Option Addr) (k c1 c2 : Nat) : (askW w s n A1 A2 k c1 c2).heap.size = w.heap.size + 3 := by
  show (((w.alloc (.cells #[.string s, .int .i64 n] 23)).alloc (.cells #[.slice A1 k c1] 27)).alloc (.cells #[.slice A2 k c2] 28)).heap.size = _
  simp
theorem askW_fnd {w : World} {A1 A2 : Option Addr} {l : Ps} (h : EnvAt w A1 A2 l) (s : ByteArray) (n : Int) (c1 c2 : Nat) : Fnd (askW w s n A1 A2 l.length c1 c2) (w.heap.size + 3) (w.heap.size + 1) (w.heap.size + 1 + 1) l :=
  (Fnd_of h ((Below.refl _ _).alloc (Nat.le_refl _) _) (by simp)).drew

set_option maxHeartbeats 1000000 in
theorem Value_any (s : ByteArray) (n : Int) (A1 A2 : Option Addr) (c1 c2 : Nat) (l : Ps) (w : World) (hE : Hid (EnvAt w A1 A2 l)) (hg : Hid (ErrTy w)) :
    Calls Tryd.prog 12 #[.agg #[.string s, .int .i64 n], .slice A1 l.length c1, .slice A2 l.length c2] w fun e w' => e = .returned (.tuple #[.int .i64 (val s n l).1, .int .i64 (val s n l).2]) ∧ Below w.heap.size w w' := by
  have HC := Lib.hid (value_any s n (w.heap.size + 3) (w.heap.size + 1) (w.heap.size + 1 + 1) l (askW w s n A1 A2 l.length c1 c2) (by rw [askW_size]; omega) (Lib.hid (askW_fnd hE.out s n c1 c2)) (Lib.hid hE.out.2.1))
  have hbel := (askW_below w s n A1 A2 l.length c1 c2).alloc (by rw [askW_size]; omega) (.cells #[.string s, .int .i64 n] 23)
  have HB := Lib.hid hbel
  have HG := Lib.hid (hg.out.below hbel hg.out.pos)
  clear hbel
  generalize val s n l = p at HC
  obtain ⟨x, e⟩ := p
  simp only
  simp only at HC
  generalize hev : errV e = ev at HC
  have HE := Lib.hid hev
  clear hev
  go_enter Tryd.func12, Tryd.ntmps12
  go_wp2_with fail
  go_region_with (first
    | (go_at_call 20; refine (among_any _ _ _ _ _ _ _).mono ?_; rintro e w1 ⟨rfl, rfl⟩)
    | (go_at_call 19; refine HC.out.mono ?_; rintro e w2 ⟨rfl, rfl⟩))
  all_goals
    have HN := Lib.hid (errno_any e _ HG)
    rw [HE.out] at HN
    go_wp2_with (go_at_call 21; refine HN.out.mono ?_; rintro e w3 ⟨rfl, hb⟩)
    go_ret2
    exact ⟨rfl, HB.out.trans (hb.mono HB.out.size)⟩

set_option maxHeartbeats 1000000 in
theorem Width_any (s : ByteArray) (n : Int) (A1 A2 : Option Addr) (c1 c2 : Nat) (l : Ps) (w : World) (hE : Hid (EnvAt w A1 A2 l)) (hg : Hid (ErrTy w)) :
    Calls Tryd.prog 14 #[.agg #[.string s, .int .i64 n], .slice A1 l.length c1, .slice A2 l.length c2] w fun e w' => e = .returned (.tuple #[.int .i64 (wid s n l).1, .int .i64 (wid s n l).2]) ∧ Below w.heap.size w w' := by
  have HC := Lib.hid (width_any s n (w.heap.size + 3) (w.heap.size + 1) (w.heap.size + 1 + 1) l (askW w s n A1 A2 l.length c1 c2) (by rw [askW_size]; omega) (Lib.hid (askW_fnd hE.out s n c1 c2)) (Lib.hid hE.out.2.1))
  have HA := Lib.hid (askW_below w s n A1 A2 l.length c1 c2)
  generalize wid s n l = p at HC
  obtain ⟨x, e⟩ := p
  simp only
  simp only at HC
  generalize hev : errV e = ev at HC
  have HE := Lib.hid hev
  clear hev
  go_enter Tryd.func14, Tryd.ntmps14
  go_wp2_with fail
  go_region_with (first
    | (go_at_call 20; refine (among_any _ _ _ _ _ _ _).mono ?_; rintro e w1 ⟨rfl, rfl⟩)
    | (go_at_call 22; refine HC.out.mono ?_; rintro e w2 ⟨rfl, hb2⟩; have HB2 := Lib.hid (HA.out.trans (hb2.mono HA.out.size)); clear hb2))
  all_goals
    have HN := Lib.hid (errno_any e _ (Lib.hid (hg.out.below HB2.out hg.out.pos)))
    rw [HE.out] at HN
    go_wp2_with (go_at_call 21; refine HN.out.mono ?_; rintro e w3 ⟨rfl, hb⟩)
    go_ret2
    exact ⟨rfl, HB2.out.trans (hb.mono HB2.out.size)⟩
end Go.Proofs.YtkbfediolicfaaaDoor
