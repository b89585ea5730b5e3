/-
  VecParts, WALKED.
-/
import Derived.Test.YtfnamjnggmndmaaVOrd
namespace Go.Proofs.Ytfnamjnggmndmaa
open Go.RowKit
open VecM

theorem parts_math {x k lo : Nat} (hl : lo ≤ k) (hx : x < 2 ^ k) : x / 2 ^ lo % 2 ^ (k - lo) * 2 ^ lo + x / 2 ^ 0 % 2 ^ lo = x := by
  have h1 : x / 2 ^ lo < 2 ^ (k - lo) := by
    rw [Nat.div_lt_iff_lt_mul (Nat.two_pow_pos _), ← Nat.pow_add, show k - lo + lo = k by omega]
    exact hx
  rw [Nat.mod_eq_of_lt h1, Nat.pow_zero, Nat.div_one]
  exact Nat.div_add_mod' x (2 ^ lo)
theorem mod_lt_pow (a k : Nat) : a % 2 ^ k < 2 ^ k := Nat.mod_lt _ (Nat.two_pow_pos k)

set_option maxRecDepth 100000 in
set_option maxHeartbeats 4000000 in
theorem parts_walk (a wd at_ : Nat) (ha : a < 65536) (hwd : wd < 256) (hat : at_ < 256) (w : World) :
    Calls Try.prog 8 #[.int .u16 (a : Nat), .int .u8 (wd : Nat), .int .u8 (at_ : Nat)] w fun e w' => e = .returned (.bool true) ∧ Below w.heap.size w w' := by
  obtain ⟨k, hk, hk2, hk16⟩ : ∃ k, wd % 15 + 2 = k ∧ 2 ≤ k ∧ k ≤ 16 := ⟨_, rfl, by omega, by omega⟩
  have hkI : (wd : Int) % 15 + 2 = (k : Int) := by omega
  obtain ⟨q, hq⟩ : ∃ q, 2 ^ k - 1 = q := ⟨_, rfl⟩
  have RM := Lib.hid (rmask_is (by omega) hq)
  have hx := and_mask_nat (a := a) (k := k) (by omega)
  have hx1 := mod_lt16 a k hk16
  have hx2 := mod_lt_pow a k
  rw [hq] at hx
  generalize a % 2 ^ k = x at hx hx1 hx2
  obtain ⟨km, hkm⟩ : ∃ km, k - 1 = km := ⟨_, rfl⟩
  have hkmI : (k : Int) - 1 = (km : Int) := by omega
  obtain ⟨lo, hlo, hlo1, hlok⟩ : ∃ lo, at_ % km + 1 = lo ∧ 1 ≤ lo ∧ lo < k := ⟨_, rfl, by omega, by have := Nat.mod_lt at_ (show 0 < km by omega); omega⟩
  have hloI : (at_ : Int) % (km : Int) + 1 = (lo : Int) := by omega
  obtain ⟨kl, hkl⟩ : ∃ kl, k - lo = kl := ⟨_, rfl⟩
  have hklI : (k : Int) - (lo : Int) = (kl : Int) := by omega
  obtain ⟨lm, hlm⟩ : ∃ lm, lo - 1 = lm := ⟨_, rfl⟩
  have hlmI : (lo : Int) - 1 = (lm : Int) := by omega
  have hkm1 : 1 ≤ km := by omega
  have hcat := parts_math (x := x) (k := k) (lo := lo) (by omega) hx2
  rw [hkl] at hcat
  obtain ⟨u, hu⟩ : ∃ u, x / 2 ^ lo % 2 ^ kl = u := ⟨_, rfl⟩
  obtain ⟨l, hl⟩ : ∃ l, x / 2 ^ 0 % 2 ^ lo = l := ⟨_, rfl⟩
  have hu1 : u < 65536 := by rw [← hu]; exact mod_lt16 _ _ (by omega)
  have hl1 : l < 65536 := by rw [← hl]; exact mod_lt16 _ _ (by omega)
  rw [hu, hl] at hcat
  have U := Lib.hid (show DoIs _ _ (.int .i64 0) (.int .i64 0) (.int .i64 0) (.int .i64 (u : Nat)) from do_is (op := 18) (W := kl) (N := km) (Lo := lo) (a := x) (b := 0) (c := 0) (wb := 0) (isOp_of rfl) (by omega) (by omega) (by decide) hx1 (by decide) hu)
  have L := Lib.hid (show DoIs (.agg #[.int .i64 18, .int .i64 (lo : Nat), .int .i64 0, .int .i64 0, .int .i64 0, .int .i64 (lm : Nat), .int .i64 0]) _ (.int .i64 0) (.int .i64 0) (.int .i64 0) (.int .i64 (l : Nat)) from do_is (op := 18) (W := lo) (N := lm) (Lo := 0) (a := x) (b := 0) (c := 0) (wb := 0) (isOp_of rfl) (by omega) (by omega) (by decide) hx1 (by decide) hl)
  have C := Lib.hid (show DoIs (.agg #[.int .i64 17, .int .i64 (k : Nat), .int .i64 0, .int .i64 0, .int .i64 0, .int .i64 0, .int .i64 0]) _ _ (.int .i64 0) _ (.int .i64 (x : Nat)) from do_is (op := 17) (W := k) (N := 0) (Lo := 0) (a := u) (b := l) (c := 0) (wb := lo) (isOp_of rfl) (by omega) (by omega) (by omega) hu1 hl1 hcat)
  have H0 := Lib.hid (head_any w)
  have hro : ∃ r e : Nat, ((r = 0 ∧ e = 1) ∨ (r = 1 ∧ e = 0)) ∧ doV 4 1 0 k x 0 0 0 = r ∧ doV 12 1 0 k x 0 0 k = e := by
    by_cases h : x = 0
    · exact ⟨0, 1, .inl ⟨rfl, rfl⟩, if_pos h, if_pos h⟩
    · exact ⟨1, 0, .inr ⟨rfl, rfl⟩, if_neg h, if_neg h⟩
  obtain ⟨r, e0, hre, hr, he⟩ := hro
  have R := Lib.hid (show DoIs (.agg #[.int .i64 4, .int .i64 1, .int .i64 0, .int .i64 0, .int .i64 0, .int .i64 0, .int .i64 (k : Nat)]) _ (.int .i64 0) (.int .i64 0) (.int .i64 0) (.int .i64 (r : Nat)) from do_is (op := 4) (W := 1) (N := 0) (Lo := k) (a := x) (b := 0) (c := 0) (wb := 0) (isOp_of rfl) (by omega) (by omega) (by decide) hx1 (by decide) hr)
  have E := Lib.hid (show DoIs (.agg #[.int .i64 12, .int .i64 1, .int .i64 0, .int .i64 0, .int .i64 0, .int .i64 0, .int .i64 (k : Nat)]) _ (.int .i64 0) (.int .i64 0) _ (.int .i64 (e0 : Nat)) from do_is (op := 12) (W := 1) (N := 0) (Lo := k) (a := x) (b := 0) (c := 0) (wb := k) (isOp_of rfl) (by omega) (by omega) (by omega) hx1 (by decide) he)
  have hrI : (1 : Int) - (e0 : Int) = (r : Int) := by omega
  clear hk hq hx2 hlo hkl hlm hkm hu hl hcat hr he
  go_enter Try.func8, Try.ntmps8
  go_wp2_with fail
  refine (H0.out).mono ?_
  rintro e w1 ⟨rfl, hb⟩
  have S1 := Lib.hid hb
  clear hb
  go_wp2_with fail
  refine (RM.out _).mono ?_
  rintro e w' ⟨rfl, rfl⟩
  go_wp2_with fail
  refine (U.out _).mono ?_
  rintro e w2 ⟨rfl, hb⟩
  have S2 := Lib.hid (S1.out.trans (hb.mono S1.out.size))
  clear hb
  go_wp2_with fail
  refine (L.out _).mono ?_
  rintro e w3 ⟨rfl, hb⟩
  have S3 := Lib.hid (S2.out.trans (hb.mono S2.out.size))
  clear hb
  go_wp2_with fail
  refine (C.out _).mono ?_
  rintro e w4 ⟨rfl, hb⟩
  have S4 := Lib.hid (S3.out.trans (hb.mono S3.out.size))
  clear hb
  go_wp2_with fail
  refine (L.out _).mono ?_
  rintro e w5 ⟨rfl, hb⟩
  have S5 := Lib.hid (S4.out.trans (hb.mono S4.out.size))
  clear hb
  go_wp2_with fail
  refine (R.out _).mono ?_
  rintro e w6 ⟨rfl, hb⟩
  have S6 := Lib.hid (S5.out.trans (hb.mono S5.out.size))
  clear hb
  go_wp2_with fail
  refine (E.out _).mono ?_
  rintro e w7 ⟨rfl, hb⟩
  have S7 := Lib.hid (S6.out.trans (hb.mono S6.out.size))
  clear hb
  go_wp2_with fail
  go_ret
  exact ⟨rfl, S7.out⟩
end Go.Proofs.Ytfnamjnggmndmaa
