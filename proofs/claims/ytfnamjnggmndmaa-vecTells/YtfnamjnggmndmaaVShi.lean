/-
  VecShift, WALKED.
-/
import Derived.Test.YtfnamjnggmndmaaVPar
namespace Go.Proofs.Ytfnamjnggmndmaa
open Go.RowKit
open VecM

theorem twice_math (x k : Nat) (hk : 1 ≤ k) : x / 2 ^ 0 % 2 ^ (k - 1) * 2 ^ 1 + 0 = (x + x) % 2 ^ k := by
  have h : 2 ^ k = 2 * 2 ^ (k - 1) := by rw [← Nat.pow_succ', show (k - 1).succ = k by omega]
  rw [h, show x + x = 2 * x by omega, Nat.mul_mod_mul_left, Nat.pow_zero, Nat.div_one]
  omega
theorem inv_math {x k : Nat} (hk : k ≤ 16) (hx : x < 2 ^ k) : (65535 - x) % 2 ^ k = 2 ^ k - 1 - x := by
  have h : 65536 = 2 ^ k * 2 ^ (16 - k) := by rw [← Nat.pow_add, show k + (16 - k) = 16 by omega]
  have h1 : 1 ≤ 2 ^ (16 - k) := Nat.one_le_two_pow
  have h2 : 2 ^ k * 2 ^ (16 - k) = 2 ^ k * (2 ^ (16 - k) - 1) + 2 ^ k := by
    conv => lhs; rw [show 2 ^ (16 - k) = (2 ^ (16 - k) - 1) + 1 by omega, Nat.mul_add, Nat.mul_one]
  have e : 65535 - x = 2 ^ k - 1 - x + 2 ^ k * (2 ^ (16 - k) - 1) := by omega
  rw [e, Nat.add_mul_mod_self_left, Nat.mod_eq_of_lt (by omega)]

set_option maxRecDepth 100000 in
set_option maxHeartbeats 4000000 in
theorem shift_walk (a wd : Nat) (ha : a < 65536) (hwd : wd < 256) (w : World) :
    Calls Try.prog 9 #[.int .u16 (a : Nat), .int .u8 (wd : Nat)] w fun e w' => e = .returned (.bool true) ∧ Below w.heap.size w w' := by
  obtain ⟨k, hk, hk2, hk16⟩ : ∃ k, wd % 15 + 2 = k ∧ 2 ≤ k ∧ k ≤ 16 := ⟨_, rfl, by omega, by omega⟩
  have hkI : (wd : Int) % 15 + 2 = (k : Int) := by omega
  obtain ⟨q, hq⟩ : ∃ q, 2 ^ k - 1 = q := ⟨_, rfl⟩
  have RM := Lib.hid (rmask_is (by omega) hq)
  have hx := and_mask_nat (a := a) (k := k) (by omega)
  have hx1 := mod_lt16 a k hk16
  have hx2 := mod_lt_pow a k
  rw [hq] at hx
  generalize a % 2 ^ k = x at hx hx1 hx2
  obtain ⟨km, hkm⟩ : ∃ km, k - 1 = km := ⟨_, rfl⟩
  have hkmI : (k : Int) - 1 = (km : Int) := by omega
  obtain ⟨kn, hkn⟩ : ∃ kn, k - 2 = kn := ⟨_, rfl⟩
  have hknI : (k : Int) - 2 = (kn : Int) := by omega
  have htw := twice_math x k (by omega)
  have hinv := inv_math hk16 hx2
  rw [hkm] at htw
  obtain ⟨l, hl⟩ : ∃ l, x / 2 ^ 0 % 2 ^ km = l := ⟨_, rfl⟩
  have hl1 : l < 65536 := by rw [← hl]; exact mod_lt16 _ _ (by omega)
  rw [hl] at htw
  obtain ⟨v, hv⟩ : ∃ v, (65535 - x) % 2 ^ k = v := ⟨_, rfl⟩
  have hv1 : v < 65536 := by rw [← hv]; exact mod_lt16 _ _ (by omega)
  obtain ⟨t, ht⟩ : ∃ t, (x + x) % 2 ^ k = t := ⟨_, rfl⟩
  rw [ht] at htw
  have L := Lib.hid (show DoIs (.agg #[.int .i64 18, .int .i64 (km : Nat), .int .i64 0, .int .i64 0, .int .i64 0, .int .i64 (kn : Nat), .int .i64 0]) _ (.int .i64 0) (.int .i64 0) (.int .i64 0) (.int .i64 (l : Nat)) from do_is (op := 18) (W := km) (N := kn) (Lo := 0) (a := x) (b := 0) (c := 0) (wb := 0) (isOp_of rfl) (by omega) (by omega) (by decide) hx1 (by decide) hl)
  have T := Lib.hid (show DoIs (.agg #[.int .i64 17, .int .i64 (k : Nat), .int .i64 0, .int .i64 0, .int .i64 0, .int .i64 0, .int .i64 0]) _ (.int .i64 0) (.int .i64 0) (.int .i64 1) (.int .i64 (t : Nat)) from do_is (op := 17) (W := k) (N := 0) (Lo := 0) (a := l) (b := 0) (c := 0) (wb := 1) (isOp_of rfl) (by omega) (by omega) (by decide) hl1 (by decide) htw)
  have WI := Lib.hid (show DoIs (.agg #[.int .i64 17, .int .i64 (k : Nat), .int .i64 0, .int .i64 0, .int .i64 0, .int .i64 0, .int .i64 0]) (.int .i64 0) _ (.int .i64 0) _ (.int .i64 (l : Nat)) from do_is (op := 17) (W := k) (N := 0) (Lo := 0) (a := 0) (b := l) (c := 0) (wb := km) (isOp_of rfl) (by omega) (by omega) (by omega) (by decide) hl1 (by simp [doV]))
  have V := Lib.hid (show DoIs (.agg #[.int .i64 3, .int .i64 (k : Nat), .int .i64 0, .int .i64 0, .int .i64 0, .int .i64 0, .int .i64 0]) _ (.int .i64 0) (.int .i64 0) _ (.int .i64 (v : Nat)) from do_is (op := 3) (W := k) (N := 0) (Lo := 0) (a := x) (b := 0) (c := 0) (wb := k) (isOp_of rfl) (by omega) (by omega) (by omega) hx1 (by decide) hv)
  have AD := Lib.hid (show DoIs (.agg #[.int .i64 9, .int .i64 (k : Nat), .int .i64 0, .int .i64 0, .int .i64 0, .int .i64 0, .int .i64 0]) _ _ (.int .i64 0) _ (.int .i64 (t : Nat)) from do_is (op := 9) (W := k) (N := 0) (Lo := 0) (a := x) (b := x) (c := 0) (wb := k) (isOp_of rfl) (by omega) (by omega) (by omega) hx1 hx1 ht)
  have H0 := Lib.hid (head_any w)
  have hro : ∃ r e : Nat, ((r = 0 ∧ e = 1) ∨ (r = 1 ∧ e = 0)) ∧ doV 4 1 0 k v 0 0 0 = r ∧ doV 5 1 0 k x 0 0 0 = e := by
    by_cases h : x = 2 ^ k - 1
    · exact ⟨0, 1, .inl ⟨rfl, rfl⟩, if_pos (by omega), if_pos h⟩
    · exact ⟨1, 0, .inr ⟨rfl, rfl⟩, if_neg (by omega), if_neg h⟩
  obtain ⟨r, e0, hre, hr, he⟩ := hro
  have R := Lib.hid (show DoIs (.agg #[.int .i64 4, .int .i64 1, .int .i64 0, .int .i64 0, .int .i64 0, .int .i64 0, .int .i64 (k : Nat)]) _ (.int .i64 0) (.int .i64 0) (.int .i64 0) (.int .i64 (r : Nat)) from do_is (op := 4) (W := 1) (N := 0) (Lo := k) (a := v) (b := 0) (c := 0) (wb := 0) (isOp_of rfl) (by omega) (by omega) (by decide) hv1 (by decide) hr)
  have E := Lib.hid (show DoIs (.agg #[.int .i64 5, .int .i64 1, .int .i64 0, .int .i64 0, .int .i64 0, .int .i64 0, .int .i64 (k : Nat)]) _ (.int .i64 0) (.int .i64 0) (.int .i64 0) (.int .i64 (e0 : Nat)) from do_is (op := 5) (W := 1) (N := 0) (Lo := k) (a := x) (b := 0) (c := 0) (wb := 0) (isOp_of rfl) (by omega) (by omega) (by decide) hx1 (by decide) he)
  have hrI : (1 : Int) - (r : Int) = (e0 : Int) := by omega
  clear hk hq hx2 hkm hkn hl htw hinv hv ht hr he
  go_enter Try.func9, Try.ntmps9
  go_wp2_with fail
  refine (H0.out).mono ?_
  rintro e w1 ⟨rfl, hb⟩
  have S1 := Lib.hid hb
  clear hb
  go_wp2_with fail
  refine (RM.out _).mono ?_
  rintro e w' ⟨rfl, rfl⟩
  go_wp2_with fail
  refine (L.out _).mono ?_
  rintro e w2 ⟨rfl, hb⟩
  have S2 := Lib.hid (S1.out.trans (hb.mono S1.out.size))
  clear hb
  go_wp2_with fail
  refine (T.out _).mono ?_
  rintro e w3 ⟨rfl, hb⟩
  have S3 := Lib.hid (S2.out.trans (hb.mono S2.out.size))
  clear hb
  go_wp2_with fail
  refine (WI.out _).mono ?_
  rintro e w4 ⟨rfl, hb⟩
  have S4 := Lib.hid (S3.out.trans (hb.mono S3.out.size))
  clear hb
  go_wp2_with fail
  refine (E.out _).mono ?_
  rintro e w5 ⟨rfl, hb⟩
  have S5 := Lib.hid (S4.out.trans (hb.mono S4.out.size))
  clear hb
  go_wp2_with fail
  refine (V.out _).mono ?_
  rintro e w6 ⟨rfl, hb⟩
  have S6 := Lib.hid (S5.out.trans (hb.mono S5.out.size))
  clear hb
  go_wp2_with fail
  refine (R.out _).mono ?_
  rintro e w7 ⟨rfl, hb⟩
  have S7 := Lib.hid (S6.out.trans (hb.mono S6.out.size))
  clear hb
  go_wp2_with fail
  refine (AD.out _).mono ?_
  rintro e w8 ⟨rfl, hb⟩
  have S8 := Lib.hid (S7.out.trans (hb.mono S7.out.size))
  clear hb
  go_wp2_with fail
  go_ret
  exact ⟨rfl, S8.out⟩
end Go.Proofs.Ytfnamjnggmndmaa
