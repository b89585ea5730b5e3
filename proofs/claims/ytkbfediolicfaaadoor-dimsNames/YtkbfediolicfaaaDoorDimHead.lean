/-
  proofmarklaw04.head, WALKED: the document's examples are told as it says.
-/
import Derived.Test.YtkbfediolicfaaaDoorDimEnv
namespace Go.Proofs.YtkbfediolicfaaaDoor
open Go.RowKit
open DimM

def hdL : Ps := [(⟨#[110]⟩, 4), (⟨#[109]⟩, 65535), (⟨#[110]⟩, 9)]
def hdD : List (ByteArray × Int) := [(⟨#[]⟩, 2), (⟨#[110]⟩, 0)]
theorem v1 : val ⟨#[110]⟩ 1 hdL = (5, 0) := by kernel_rfl
theorem v2 : val ⟨#[109]⟩ 1 hdL = (0, 41) := by kernel_rfl
theorem v3 : val ⟨#[107]⟩ 0 hdL = (0, 40) := by kernel_rfl
theorem v4 : wid ⟨#[]⟩ 16 [] = (16, 0) := by kernel_rfl
theorem v5 : wid ⟨#[]⟩ 17 [] = (0, 41) := by kernel_rfl
theorem v6 : vals hdL hdD = ([2, 4], 0) := by kernel_rfl

theorem env_hd (w : World) : EnvAt ((w.alloc (.cells #[.string ⟨#[110]⟩, .string ⟨#[109]⟩, .string ⟨#[110]⟩] 9)).alloc (.cells #[.int .i64 4, .int .i64 65535, .int .i64 9] 3)) (some ⟨w.heap.size, 0, none⟩) (some ⟨w.heap.size + 1, 0, none⟩) hdL := by
  refine ⟨by decide, ?_, ?_, ?_⟩
  · intro p hp
    simp [hdL] at hp
    rcases hp with rfl | rfl | rfl <;> decide
  · intro i s hi
    refine ⟨w.heap.size, 0, rfl, by simp; omega, ?_⟩
    rw [World.cell?_alloc_lt _ _ ⟨w.heap.size, 0 + i, none⟩ (by simp)]
    match i, hi with
    | 0, hi => simp [hdL] at hi; subst hi; simp
    | 1, hi => simp [hdL] at hi; subst hi; simp
    | 2, hi => simp [hdL] at hi; subst hi; simp
    | i + 3, hi => simp [hdL] at hi
  · intro i s hi
    refine ⟨w.heap.size + 1, 0, rfl, by simp, ?_⟩
    match i, hi with
    | 0, hi => simp [hdL] at hi; subst hi; simp
    | 1, hi => simp [hdL] at hi; subst hi; simp
    | 2, hi => simp [hdL] at hi; subst hi; simp
    | i + 3, hi => simp [hdL] at hi
theorem env_nil (w : World) : EnvAt w none none [] := ⟨by decide, (fun p hp => by cases hp), (fun i s hi => by simp at hi), (fun i s hi => by simp at hi)⟩
theorem dms_hd (w : World) : Dms (w.alloc (.cells #[.string ⟨#[]⟩, .int .i64 2, .string ⟨#[110]⟩, .int .i64 0] 23)) (w.heap.size + 1) (some ⟨w.heap.size, 0, none⟩) hdD := by
  intro i d hi
  refine ⟨w.heap.size, 0, rfl, by omega, ?_⟩
  match i, hi with
  | 0, hi => simp [hdD] at hi; subst hi; simp
  | 1, hi => simp [hdD] at hi; subst hi; simp
  | i + 2, hi => simp [hdD] at hi
theorem ints_24 (w : World) : Ints (w.alloc (.cells #[.int .i64 2, .int .i64 4] 3)) (w.heap.size + 1) (some ⟨w.heap.size, 0, none⟩) [2, 4] := by
  intro i d hi
  refine ⟨w.heap.size, 0, rfl, by omega, ?_⟩
  match i, hi with
  | 0, hi => simp at hi; subst hi; simp
  | 1, hi => simp at hi; subst hi; simp
  | i + 2, hi => simp at hi

theorem Value_is {s : ByteArray} {n x e : Int} {A1 A2 : Option Addr} {c1 c2 k : Nat} {l : Ps} {w : World} (hE : EnvAt w A1 A2 l) (hg : ErrTy w) (hk : l.length = k) (hv : val s n l = (x, e)) :
    Calls Tryd.prog 12 #[.agg #[.string s, .int .i64 n], .slice A1 k c1, .slice A2 k c2] w fun ev w' => ev = .returned (.tuple #[.int .i64 x, .int .i64 e]) ∧ Below w.heap.size w w' := by
  subst hk
  have := Value_any s n A1 A2 c1 c2 l w (Lib.hid hE) (Lib.hid hg)
  rw [hv] at this
  exact this
theorem Width_is {s : ByteArray} {n x e : Int} {A1 A2 : Option Addr} {c1 c2 k : Nat} {l : Ps} {w : World} (hE : EnvAt w A1 A2 l) (hg : ErrTy w) (hk : l.length = k) (hv : wid s n l = (x, e)) :
    Calls Tryd.prog 14 #[.agg #[.string s, .int .i64 n], .slice A1 k c1, .slice A2 k c2] w fun ev w' => ev = .returned (.tuple #[.int .i64 x, .int .i64 e]) ∧ Below w.heap.size w w' := by
  subst hk
  have := Width_any s n A1 A2 c1 c2 l w (Lib.hid hE) (Lib.hid hg)
  rw [hv] at this
  exact this
def RowGot (w : World) (xs : List Int) (n : Nat) (ev : Int) (e : Ending) (w' : World) : Prop := ∃ A c, e = .returned (.tuple #[.slice A n c, .int .i64 ev]) ∧ Ints w' w'.heap.size A xs ∧ Below w.heap.size w w'
theorem Values_is {A : Option Addr} {c kd n : Nat} {ds : List (ByteArray × Int)} {xs : List Int} {e : Int} {A1 A2 : Option Addr} {c1 c2 k : Nat} {l : Ps} {w : World} (hd : ds.length ≤ 1000) (hD : Dms w w.heap.size A ds) (hE : EnvAt w A1 A2 l) (hg : ErrTy w) (hkd : ds.length = kd) (hk : l.length = k) (hv : vals l ds = (xs, e)) (hn : xs.length = n) :
    Calls Tryd.prog 16 #[.slice A kd c, .slice A1 k c1, .slice A2 k c2] w (RowGot w xs n e) := by
  subst hk hkd hn
  have := Values_any A c ds A1 A2 c1 c2 l w hd (Lib.hid hD) (Lib.hid hE) (Lib.hid hg)
  rw [hv] at this
  exact this
theorem Same_is {A A' : Option Addr} {c c' B n : Nat} {xs : List Int} {w : World} (hn : xs.length = n) (h1 : n ≤ 1000) (hT : Ints w B A xs) (hT' : Ints w B A' xs) :
    Calls Tryd.prog 18 #[.slice A n c, .slice A' n c'] w fun e w' => e = .returned (.bool true) ∧ ∃ n, w' = w.drewN n := by
  subst hn; exact SameInts_yes A A' c c' B xs w h1 (Lib.hid hT) (Lib.hid hT')

theorem below_drewN {B : Nat} {a w : World} (h : Below B a w) (n : Nat) : Below B a (w.drewN n) := ⟨h.os, h.tape, h.output, h.size, h.block⟩

set_option maxRecDepth 100000 in
set_option maxHeartbeats 2000000 in
theorem head_any (w : World) (hg : Hid (ErrTy w)) : Calls Tryd.prog 10 #[] w fun e w' => e = .returned (.bool true) ∧ Below w.heap.size w w' := by
  have hp := hg.out.pos
  go_enter Tryd.func10, Tryd.ntmps10
  go_wp2_with fail
  have hb0 : Below w.heap.size w ((w.alloc (.cells #[.string ⟨#[110]⟩, .string ⟨#[109]⟩, .string ⟨#[110]⟩] 9)).alloc (.cells #[.int .i64 4, .int .i64 65535, .int .i64 9] 3)) := ((Below.refl _ _).alloc (Nat.le_refl _) _).alloc (by simp) _
  have H0 := Lib.hid (And.intro hb0 (And.intro (env_hd w) (hg.out.below hb0 hp)))
  clear hb0
  refine (Value_is (k := 3) (l := hdL) H0.out.2.1 H0.out.2.2 rfl v1).mono ?_
  rintro e w1 ⟨rfl, hb⟩
  have H1 := Lib.hid (And.intro (H0.out.1.trans (hb.mono H0.out.1.size)) (And.intro (H0.out.2.1.below hb) (H0.out.2.2.below hb H0.out.2.2.pos)))
  clear hb
  go_wp2_with fail
  refine (Value_is (k := 3) (l := hdL) H1.out.2.1 H1.out.2.2 rfl v2).mono ?_
  rintro e w2 ⟨rfl, hb⟩
  have H2 := Lib.hid (And.intro (H1.out.1.trans (hb.mono H1.out.1.size)) (And.intro (H1.out.2.1.below hb) (H1.out.2.2.below hb H1.out.2.2.pos)))
  clear hb
  go_wp2_with fail
  refine (Value_is (k := 3) (l := hdL) H2.out.2.1 H2.out.2.2 rfl v3).mono ?_
  rintro e w3 ⟨rfl, hb⟩
  have H3 := Lib.hid (And.intro (H2.out.1.trans (hb.mono H2.out.1.size)) (And.intro (H2.out.2.1.below hb) (H2.out.2.2.below hb H2.out.2.2.pos)))
  clear hb
  go_wp2_with fail
  refine (Width_is (k := 0) (l := []) (env_nil w3) H3.out.2.2 rfl v4).mono ?_
  rintro e w4 ⟨rfl, hb⟩
  have H4 := Lib.hid (And.intro (H3.out.1.trans (hb.mono H3.out.1.size)) (And.intro (H3.out.2.1.below hb) (H3.out.2.2.below hb H3.out.2.2.pos)))
  clear hb
  go_wp2_with fail
  refine (Width_is (k := 0) (l := []) (env_nil w4) H4.out.2.2 rfl v5).mono ?_
  rintro e w5 ⟨rfl, hb⟩
  have H5 := Lib.hid (And.intro (H4.out.1.trans (hb.mono H4.out.1.size)) (And.intro (H4.out.2.1.below hb) (H4.out.2.2.below hb H4.out.2.2.pos)))
  clear hb
  go_wp2_with fail
  have hba : Below w5.heap.size w5 (w5.alloc (.cells #[.string ⟨#[]⟩, .int .i64 2, .string ⟨#[110]⟩, .int .i64 0] 23)) := (Below.refl _ _).alloc (Nat.le_refl _) _
  refine (Values_is (kd := 2) (k := 3) (n := 2) (l := hdL) (ds := hdD) (by decide) ((dms_hd w5).more (by simp)) (H5.out.2.1.below hba) (H5.out.2.2.below hba H5.out.2.2.pos) rfl rfl v6 rfl).mono ?_
  rintro e w6 ⟨A, c, rfl, hI, hb⟩
  have hb6 := (H5.out.1.trans (hba.mono H5.out.1.size))
  have H6 := Lib.hid (And.intro (hb6.trans (hb.mono hb6.size)) hI)
  clear hb hI hb6 hba
  go_wp2_with fail
  refine (Same_is (n := 2) (xs := [2, 4]) (B := w6.heap.size + 1) rfl (by omega) ((H6.out.2.below ((Below.refl _ _).alloc (Nat.le_refl _) _)).more (by omega)) (ints_24 w6)).mono ?_
  rintro e w7 ⟨rfl, n7, rfl⟩
  go_wp2
  go_ret
  exact ⟨rfl, below_drewN (H6.out.1.alloc H6.out.1.size _) _⟩
end Go.Proofs.YtkbfediolicfaaaDoor
