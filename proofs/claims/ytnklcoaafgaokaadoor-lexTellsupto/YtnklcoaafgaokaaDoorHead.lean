/-
  proofmarklaw01.head, WALKED: the document's examples are told as it says.
-/
import Derived.Test.YtnklcoaafgaokaaDoorSame
namespace Go.Proofs.YtnklcoaafgaokaaDoor
open Go.RowKit
open LexM (joinSp)

theorem Toks.more {w : World} {B B' : Nat} {A : Option Addr} {ts : List GTk} (h : Toks w B A ts) (hb : B ≤ B') : Toks w B' A ts := by
  intro i t ht
  obtain ⟨b, off, e, hlt, c⟩ := h i t ht
  exact ⟨b, off, e, by omega, c⟩
theorem Toks.drewN {w : World} {B : Nat} {A : Option Addr} {ts : List GTk} (h : Toks w B A ts) (n : Nat) : Toks (w.drewN n) B A ts := h
theorem Toks.alloc {w : World} {A : Option Addr} {ts : List GTk} (h : Toks w w.heap.size A ts) (o : Obj) : Toks (w.alloc o) w.heap.size A ts := h.below ((Below.refl _ _).alloc (Nat.le_refl _) _)

theorem below_drewN {B : Nat} {a w : World} (h : Below B a w) (n : Nat) : Below B a (w.drewN n) := ⟨h.os, h.tape, h.output, h.size, h.block⟩
theorem below_over {B n : Nat} {w w3 w5 : World} {o : Obj} (h : Below B w w3) (hB : B ≤ w3.heap.size) (h5 : Below ((w3.alloc o).drewN n).heap.size ((w3.alloc o).drewN n) w5) : Below B w w5 :=
  (below_drewN (h.alloc hB o) n).trans (h5.mono (by
    show B ≤ (w3.alloc o).heap.size
    simp; omega))

def hd1 : List LexM.Tk := [⟨1, [97], 0, 0⟩, ⟨3, [60, 61], 0, 1⟩, ⟨2, [49, 50], 12, 3⟩]
theorem out1 : lexOut (⟨#[97, 60, 61, 49, 50, 47, 47, 32, 120]⟩ : ByteArray).data.toList = (hd1, 0, 0) := by kernel_rfl
theorem out2 : lexOut (⟨#[120, 32, 48, 55]⟩ : ByteArray).data.toList = ([], 10, 2) := by kernel_rfl
theorem out3 : lexOut (⟨#[120, 32, 33, 32, 121]⟩ : ByteArray).data.toList = ([], 10, 2) := by kernel_rfl
theorem text1 : str (joinSp (gTexts (hd1.map gOf))) = ⟨#[97, 32, 60, 61, 32, 49, 50]⟩ := by kernel_rfl

theorem Same_of {A A' : Option Addr} {c c' B n : Nat} {ts : List GTk} {w : World} (h : ts.length = n) (hn : n ≤ maxLen) (hT : Toks w B A ts) (hT' : Toks w B A' ts) :
    Calls Tryd.prog 14 #[.slice A n c, .slice A' n c'] w fun e w' => e = .returned (.bool true) ∧ ∃ n, w' = w.drewN n := by
  subst h; exact Same_yes A A' c c' B ts w hn (Lib.hid hT) (Lib.hid hT')
theorem Text_of {A : Option Addr} {c n : Nat} {ts : List GTk} {w : World} {r : ByteArray} (h : ts.length = n) (hn : n ≤ maxLen) (hT : Toks w w.heap.size A ts) (hr : str (joinSp (gTexts ts)) = r) (hL : r.size ≤ 140737488355328) :
    Calls Tryd.prog 15 #[.slice A n c] w fun e w' => e = .returned (.string r) ∧ Below w.heap.size w w' := by
  subst h hr; exact Text_any A c ts w hn (Lib.hid hT) (Lib.hid (by rw [str_size] at hL; exact hL))

theorem want_toks (w : World) (x : LexM.Tk) (y : LexM.Tk) (z : LexM.Tk) :
    Toks (w.alloc (.cells #[.int .i64 x.kind, .string (str x.text), .int .i64 x.n, .int .i64 x.pos, .int .i64 y.kind, .string (str y.text), .int .i64 y.n, .int .i64 y.pos, .int .i64 z.kind, .string (str z.text), .int .i64 z.n, .int .i64 z.pos] 33)) (w.heap.size + 1) (some ⟨w.heap.size, 0, none⟩) ([x, y, z].map gOf) := by
  intro i t ht
  refine ⟨w.heap.size, 0, rfl, by omega, ?_⟩
  match i, ht with
  | 0, ht => simp at ht; subst ht; simp [gOf]
  | 1, ht => simp at ht; subst ht; simp [gOf]
  | 2, ht => simp at ht; subst ht; simp [gOf]
  | i + 3, ht => simp at ht

set_option maxRecDepth 100000 in
set_option maxHeartbeats 1000000 in
theorem head_any (w : World) (hsg : Hid (SgLaid w)) : Calls Tryd.prog 10 #[] w fun e w' => e = .returned (.bool true) ∧ Below w.heap.size w w' := by
  go_enter Tryd.func10, Tryd.ntmps10
  go_wp2_with fail
  refine (Lex_is (len := 3) 0 0 w (by decide) hsg.out out1 rfl rfl rfl).mono ?_
  rintro e w1 ⟨A1, c1, rfl, _, ht1, hb1⟩
  have H1 := Lib.hid (And.intro ht1 hb1)
  clear ht1 hb1
  go_wp2_with fail
  refine (Lex_is (len := 0) 10 2 w1 (by decide) (sg_below hsg.out H1.out.2) out2 rfl rfl rfl).mono ?_
  rintro e w2 ⟨A2, c2, rfl, _, _, hb2⟩
  have H2 := Lib.hid hb2
  clear hb2
  go_wp2_with fail
  refine (Lex_is (len := 0) 10 2 w2 (by decide) (sg_below (sg_below hsg.out H1.out.2) H2.out) out3 rfl rfl rfl).mono ?_
  rintro e w3 ⟨A3, c3, rfl, _, _, hb3⟩
  have H3 := Lib.hid hb3
  clear hb3
  have ht3 : Toks w3 w3.heap.size A1 (hd1.map gOf) := (((H1.out.1.below H2.out).more H2.out.size).below H3.out).more H3.out.size
  have HT3 := Lib.hid ht3
  clear ht3
  go_wp2_with fail
  refine (Same_of (n := 3) (ts := hd1.map gOf) (B := w3.heap.size + 1) rfl (by unfold maxLen; omega) ((HT3.out.alloc _).more (by omega)) (want_toks w3 ⟨1, [97], 0, 0⟩ ⟨3, [60, 61], 0, 1⟩ ⟨2, [49, 50], 12, 3⟩)).mono ?_
  rintro e w4 ⟨rfl, n4, rfl⟩
  go_wp2_with fail
  refine (Text_of (n := 3) (ts := hd1.map gOf) (r := ⟨#[97, 32, 60, 61, 32, 49, 50]⟩) rfl (by unfold maxLen; omega) (((HT3.out.alloc _).more (by simp)).drewN n4) text1 (by decide)).mono ?_
  rintro e w5 ⟨rfl, hb5⟩
  go_wp2
  go_ret
  refine ⟨rfl, ?_⟩
  have s1 := H1.out.2.size
  have s2 := H2.out.size
  have s3 := H3.out.size
  exact below_over ((H1.out.2.trans (H2.out.mono s1)).trans (H3.out.mono (by omega))) (by omega) hb5

end Go.Proofs.YtnklcoaafgaokaaDoor
