/-
  head, WALKED.
-/
import Derived.Test.YtfnamjnggmndmaaVTdo
import Derived.Test.YtfnamjnggmndmaaVNum
namespace Go.Proofs.Ytfnamjnggmndmaa
open Go.RowKit
open VecM

/-- what vec.Do tells, at whatever world -/
def DoIs (nd a b c wb r : Value) : Prop := ∀ u, Calls Try.prog 12 #[nd, a, b, c, wb] u fun e w' => e = .returned r ∧ Below u.heap.size u w'
theorem do_is {op W N Lo a b c wb : Nat} (ho : isOp op) (hW : W ≤ 16) (hL : Lo ≤ 16) (hwb : wb ≤ 16) (ha : a < 65536) (hb : b < 65536) {r : Nat} (hr : doV op W N Lo a b c wb = r) : DoIs (ndV op W N Lo) (.int .i64 (a : Nat)) (.int .i64 (b : Nat)) (.int .i64 (c : Nat)) (.int .i64 (wb : Nat)) (.int .i64 (r : Nat)) :=
  fun u => by rw [← hr]; exact Do_any op W N Lo a b c wb ho hW hL hwb ha hb u
theorem isOp_of {op : Nat} (h : (op == 1 || op == 3 || op == 4 || op == 5 || op == 6 || op == 7 || op == 8 || op == 9 || op == 10 || op == 11 || op == 12 || op == 13 || op == 14 || op == 15 || op == 16 || op == 17 || op == 18) = true) : isOp op := by
  simp at h
  unfold isOp
  omega
theorem hd_bits : bitsL 6 4 = [false, true, true, false] := by decide
theorem hd_num : numL [false, true, true, false] = 6 := by decide
theorem bls_hd (w : World) : Bls (w.alloc (.cells #[.bool false, .bool true, .bool true, .bool false] 4)) (w.heap.size + 1) (some ⟨w.heap.size, 0, none⟩) [false, true, true, false] := by
  intro i d hi
  refine ⟨w.heap.size, 0, rfl, by omega, ?_⟩
  simp only [World.cell?, heap_new]
  match i, hi with
  | 0, hi => simp at hi; subst hi; simp
  | 1, hi => simp at hi; subst hi; simp
  | 2, hi => simp at hi; subst hi; simp
  | 3, hi => simp at hi; subst hi; simp
  | i + 4, hi => simp at hi

set_option maxRecDepth 100000 in
set_option maxHeartbeats 4000000 in
theorem head_any (w : World) : Calls Try.prog 10 #[] w fun e w' => e = .returned (.bool true) ∧ Below w.heap.size w w' := by
  have D1 := Lib.hid (show DoIs (.agg #[.int .i64 10, .int .i64 4, .int .i64 0, .int .i64 0, .int .i64 0, .int .i64 0, .int .i64 0]) (.int .i64 2) (.int .i64 3) (.int .i64 0) (.int .i64 0) (.int .i64 15) from do_is (op := 10) (W := 4) (N := 0) (Lo := 0) (a := 2) (b := 3) (c := 0) (wb := 0) (isOp_of rfl) (by decide) (by decide) (by decide) (by decide) (by decide) (r := 15) rfl)
  have D2 := Lib.hid (show DoIs (.agg #[.int .i64 17, .int .i64 7, .int .i64 0, .int .i64 0, .int .i64 0, .int .i64 0, .int .i64 0]) (.int .i64 5) (.int .i64 3) (.int .i64 0) (.int .i64 4) (.int .i64 83) from do_is (op := 17) (W := 7) (N := 0) (Lo := 0) (a := 5) (b := 3) (c := 0) (wb := 4) (isOp_of rfl) (by decide) (by decide) (by decide) (by decide) (by decide) (r := 83) rfl)
  have D3 := Lib.hid (show DoIs (.agg #[.int .i64 18, .int .i64 2, .int .i64 0, .int .i64 0, .int .i64 0, .int .i64 2, .int .i64 1]) (.int .i64 13) (.int .i64 0) (.int .i64 0) (.int .i64 0) (.int .i64 2) from do_is (op := 18) (W := 2) (N := 2) (Lo := 1) (a := 13) (b := 0) (c := 0) (wb := 0) (isOp_of rfl) (by decide) (by decide) (by decide) (by decide) (by decide) (r := 2) rfl)
  have D4 := Lib.hid (show DoIs (.agg #[.int .i64 5, .int .i64 1, .int .i64 0, .int .i64 0, .int .i64 0, .int .i64 0, .int .i64 3]) (.int .i64 7) (.int .i64 0) (.int .i64 0) (.int .i64 0) (.int .i64 1) from do_is (op := 5) (W := 1) (N := 0) (Lo := 3) (a := 7) (b := 0) (c := 0) (wb := 0) (isOp_of rfl) (by decide) (by decide) (by decide) (by decide) (by decide) (r := 1) rfl)
  have D5 := Lib.hid (show DoIs (.agg #[.int .i64 16, .int .i64 5, .int .i64 0, .int .i64 0, .int .i64 0, .int .i64 0, .int .i64 0]) (.int .i64 1) (.int .i64 9) (.int .i64 8) (.int .i64 0) (.int .i64 9) from do_is (op := 16) (W := 5) (N := 0) (Lo := 0) (a := 1) (b := 9) (c := 8) (wb := 0) (isOp_of rfl) (by decide) (by decide) (by decide) (by decide) (by decide) (r := 9) rfl)
  have M1 := Lib.hid (show ∀ u, Calls Try.prog 14 #[.int .i64 4] u fun e w' => e = .returned (.int .i64 15) ∧ u = w' from fun u => Mask_any 4 (by decide) u)
  have M2 := Lib.hid (show ∀ u, Calls Try.prog 14 #[.int .i64 0] u fun e w' => e = .returned (.int .i64 0) ∧ u = w' from fun u => Mask_any 0 (by decide) u)
  have B1 := Lib.hid (show ∀ u, Calls Try.prog 17 #[.int .i64 6, .int .i64 4] u (BitsRet u 6 4) from fun u => Bits_any 6 4 (by decide) u)
  go_enter Try.func10, Try.ntmps10
  go_wp2_with fail
  refine (D1.out _).mono ?_
  rintro e w1 ⟨rfl, hb⟩
  have S1 := Lib.hid hb
  clear hb
  go_wp2_with fail
  refine (D2.out _).mono ?_
  rintro e w2 ⟨rfl, hb⟩
  have S2 := Lib.hid (S1.out.trans (hb.mono S1.out.size))
  clear hb
  go_wp2_with fail
  refine (D3.out _).mono ?_
  rintro e w3 ⟨rfl, hb⟩
  have S3 := Lib.hid (S2.out.trans (hb.mono S2.out.size))
  clear hb
  go_wp2_with fail
  refine (D4.out _).mono ?_
  rintro e w4 ⟨rfl, hb⟩
  have S4 := Lib.hid (S3.out.trans (hb.mono S3.out.size))
  clear hb
  go_wp2_with fail
  refine (D5.out _).mono ?_
  rintro e w5 ⟨rfl, hb⟩
  have S5 := Lib.hid (S4.out.trans (hb.mono S4.out.size))
  clear hb
  go_wp2_with fail
  refine (M1.out _).mono ?_
  rintro e w' ⟨rfl, rfl⟩
  go_wp2_with fail
  refine (M2.out _).mono ?_
  rintro e w' ⟨rfl, rfl⟩
  go_wp2_with fail
  refine (B1.out _).mono ?_
  rintro e w6 ⟨A, c, rfl, hB, hb⟩
  rw [hd_bits] at hB
  have S6 := Lib.hid (S5.out.trans (hb.mono S5.out.size))
  have HB := Lib.hid hB
  clear hb hB
  go_wp2_with fail
  refine (Same_yes A _ c 4 (w6.heap.size + 1) [false, true, true, false] _ (by decide) (Lib.hid ((HB.out.below ((Below.refl _ _).alloc (Nat.le_refl _) _)).more (Nat.le_succ _))) (Lib.hid (bls_hd w6))).mono ?_
  rintro e w7 ⟨rfl, n7, rfl⟩
  have S7 := Lib.hid (Below.drewN (S6.out.alloc S6.out.size (.cells #[.bool false, .bool true, .bool true, .bool false] 4)) n7)
  generalize (w6.alloc (.cells #[.bool false, .bool true, .bool true, .bool false] 4)).drewN n7 = w8 at S7 ⊢
  go_wp2_with fail
  have HN := Num_any (some ⟨w8.heap.size, 0, none⟩) 4 [false, true, true, false] _ (by decide) (Lib.hid ((bls_hd w8).more (by simp)))
  refine HN.mono ?_
  rintro e w' ⟨rfl, rfl⟩
  rw [hd_num]
  go_wp2_with fail
  go_ret
  exact ⟨rfl, S7.out.alloc S7.out.size _⟩
end Go.Proofs.Ytfnamjnggmndmaa
