/-
  VecOrder, WALKED.
-/
import Derived.Test.YtfnamjnggmndmaaVHead
namespace Go.Proofs.Ytfnamjnggmndmaa
open Go.RowKit
open VecM

theorem rmask_is {k q : Nat} (hk : k ≤ 32) (hq : 2 ^ k - 1 = q) : ∀ u, Calls Try.prog 15 #[.int .i64 (k : Nat)] u fun e w' => e = .returned (.int .i64 (q : Nat)) ∧ u = w' := fun u => by rw [← hq]; exact RMask_any k hk u
theorem mod_lt16 (a k : Nat) (hk : k ≤ 16) : a % 2 ^ k < 65536 :=
  Nat.lt_of_lt_of_le (Nat.mod_lt _ (Nat.two_pow_pos k)) (Nat.pow_le_pow_right (n := 2) (i := k) (j := 16) (by decide) hk)

set_option maxRecDepth 100000 in
set_option maxHeartbeats 4000000 in
theorem order_walk (a b wd : Nat) (ha : a < 65536) (hb : b < 65536) (hwd : wd < 256) (w : World) :
    Calls Try.prog 6 #[.int .u16 (a : Nat), .int .u16 (b : Nat), .int .u8 (wd : Nat)] w fun e w' => e = .returned (.bool true) ∧ Below w.heap.size w w' := by
  obtain ⟨k, hk, hk16⟩ : ∃ k, wd % 16 + 1 = k ∧ k ≤ 16 := ⟨_, rfl, by omega⟩
  have hkI : (wd : Int) % 16 + 1 = (k : Int) := by omega
  obtain ⟨q, hq⟩ : ∃ q, 2 ^ k - 1 = q := ⟨_, rfl⟩
  have RM := Lib.hid (rmask_is (by omega) hq)
  have hx := and_mask_nat (a := a) (k := k) (by omega)
  have hy := and_mask_nat (a := b) (k := k) (by omega)
  have hx1 := mod_lt16 a k hk16
  have hy1 := mod_lt16 b k hk16
  rw [hq] at hx hy
  generalize a % 2 ^ k = x at hx hx1
  generalize b % 2 ^ k = y at hy hy1
  have mk : ∀ (op x y r : Nat), isOp op → x < 65536 → y < 65536 → doV op 1 0 k x y 0 k = r → DoIs (ndV op 1 0 k) (.int .i64 (x : Nat)) (.int .i64 (y : Nat)) (.int .i64 0) (.int .i64 (k : Nat)) (.int .i64 (r : Nat)) := fun op x y r ho h1 h2 h3 => do_is ho (by decide) hk16 hk16 h1 h2 h3
  have H0 := Lib.hid (head_any w)
  rcases Nat.lt_trichotomy x y with h | h | h
  · have L := Lib.hid (show DoIs _ _ _ _ _ (.int .i64 1) from mk 14 x y 1 (isOp_of rfl) hx1 hy1 (by simp only [doV]; first | exact if_pos (by omega) | exact if_neg (by omega)))
    have G := Lib.hid (show DoIs _ _ _ _ _ (.int .i64 0) from mk 14 y x 0 (isOp_of rfl) hy1 hx1 (by simp only [doV]; first | exact if_pos (by omega) | exact if_neg (by omega)))
    have E1 := Lib.hid (show DoIs _ _ _ _ _ (.int .i64 1) from mk 15 x y 1 (isOp_of rfl) hx1 hy1 (by simp only [doV]; first | exact if_pos (by omega) | exact if_neg (by omega)))
    have E2 := Lib.hid (show DoIs _ _ _ _ _ (.int .i64 0) from mk 12 x y 0 (isOp_of rfl) hx1 hy1 (by simp only [doV]; first | exact if_pos (by omega) | exact if_neg (by omega)))
    have E3 := Lib.hid (show DoIs _ _ _ _ _ (.int .i64 1) from mk 13 x y 1 (isOp_of rfl) hx1 hy1 (by simp only [doV]; first | exact if_pos (by omega) | exact if_neg (by omega)))
    have hlt : (x : Int) < (y : Int) := by omega
    clear mk hq hk h
    go_enter Try.func6, Try.ntmps6
    go_wp2_with fail
    refine (H0.out).mono ?_
    rintro e w1 ⟨rfl, hb⟩
    have S1 := Lib.hid hb
    clear hb
    go_wp2_with fail
    refine (RM.out _).mono ?_
    rintro e w' ⟨rfl, rfl⟩
    go_wp2_with fail
    refine (RM.out _).mono ?_
    rintro e w' ⟨rfl, rfl⟩
    go_wp2_with fail
    refine (L.out _).mono ?_
    rintro e w2 ⟨rfl, hb⟩
    have S2 := Lib.hid (S1.out.trans (hb.mono S1.out.size))
    clear hb
    go_wp2_with fail
    refine (G.out _).mono ?_
    rintro e w3 ⟨rfl, hb⟩
    have S3 := Lib.hid (S2.out.trans (hb.mono S2.out.size))
    clear hb
    go_wp2_with fail
    refine (E1.out _).mono ?_
    rintro e w4 ⟨rfl, hb⟩
    have S4 := Lib.hid (S3.out.trans (hb.mono S3.out.size))
    clear hb
    go_wp2_with fail
    refine (E2.out _).mono ?_
    rintro e w5 ⟨rfl, hb⟩
    have S5 := Lib.hid (S4.out.trans (hb.mono S4.out.size))
    clear hb
    go_wp2_with fail
    refine (E3.out _).mono ?_
    rintro e w6 ⟨rfl, hb⟩
    have S6 := Lib.hid (S5.out.trans (hb.mono S5.out.size))
    clear hb
    go_wp2_with fail
    go_ret
    exact ⟨rfl, S6.out⟩
  · have L := Lib.hid (show DoIs _ _ _ _ _ (.int .i64 0) from mk 14 x y 0 (isOp_of rfl) hx1 hy1 (by simp only [doV]; first | exact if_pos (by omega) | exact if_neg (by omega)))
    have G := Lib.hid (show DoIs _ _ _ _ _ (.int .i64 0) from mk 14 y x 0 (isOp_of rfl) hy1 hx1 (by simp only [doV]; first | exact if_pos (by omega) | exact if_neg (by omega)))
    have E1 := Lib.hid (show DoIs _ _ _ _ _ (.int .i64 1) from mk 15 x y 1 (isOp_of rfl) hx1 hy1 (by simp only [doV]; first | exact if_pos (by omega) | exact if_neg (by omega)))
    have E2 := Lib.hid (show DoIs _ _ _ _ _ (.int .i64 1) from mk 12 x y 1 (isOp_of rfl) hx1 hy1 (by simp only [doV]; first | exact if_pos (by omega) | exact if_neg (by omega)))
    have E3 := Lib.hid (show DoIs _ _ _ _ _ (.int .i64 0) from mk 13 x y 0 (isOp_of rfl) hx1 hy1 (by simp only [doV]; first | exact if_pos (by omega) | exact if_neg (by omega)))
    have hlt : ¬ ((x : Int) < (y : Int)) := by omega
    clear mk hq hk h
    go_enter Try.func6, Try.ntmps6
    go_wp2_with fail
    refine (H0.out).mono ?_
    rintro e w1 ⟨rfl, hb⟩
    have S1 := Lib.hid hb
    clear hb
    go_wp2_with fail
    refine (RM.out _).mono ?_
    rintro e w' ⟨rfl, rfl⟩
    go_wp2_with fail
    refine (RM.out _).mono ?_
    rintro e w' ⟨rfl, rfl⟩
    go_wp2_with fail
    refine (L.out _).mono ?_
    rintro e w2 ⟨rfl, hb⟩
    have S2 := Lib.hid (S1.out.trans (hb.mono S1.out.size))
    clear hb
    go_wp2_with fail
    refine (G.out _).mono ?_
    rintro e w3 ⟨rfl, hb⟩
    have S3 := Lib.hid (S2.out.trans (hb.mono S2.out.size))
    clear hb
    go_wp2_with fail
    refine (E1.out _).mono ?_
    rintro e w4 ⟨rfl, hb⟩
    have S4 := Lib.hid (S3.out.trans (hb.mono S3.out.size))
    clear hb
    go_wp2_with fail
    refine (E2.out _).mono ?_
    rintro e w5 ⟨rfl, hb⟩
    have S5 := Lib.hid (S4.out.trans (hb.mono S4.out.size))
    clear hb
    go_wp2_with fail
    refine (E3.out _).mono ?_
    rintro e w6 ⟨rfl, hb⟩
    have S6 := Lib.hid (S5.out.trans (hb.mono S5.out.size))
    clear hb
    go_wp2_with fail
    go_ret
    exact ⟨by show Ending.returned (.bool (!decide (x < y))) = _; rw [decide_eq_false (by omega)]; rfl, S6.out⟩
  · have L := Lib.hid (show DoIs _ _ _ _ _ (.int .i64 0) from mk 14 x y 0 (isOp_of rfl) hx1 hy1 (by simp only [doV]; first | exact if_pos (by omega) | exact if_neg (by omega)))
    have G := Lib.hid (show DoIs _ _ _ _ _ (.int .i64 1) from mk 14 y x 1 (isOp_of rfl) hy1 hx1 (by simp only [doV]; first | exact if_pos (by omega) | exact if_neg (by omega)))
    have E1 := Lib.hid (show DoIs _ _ _ _ _ (.int .i64 0) from mk 15 x y 0 (isOp_of rfl) hx1 hy1 (by simp only [doV]; first | exact if_pos (by omega) | exact if_neg (by omega)))
    have E2 := Lib.hid (show DoIs _ _ _ _ _ (.int .i64 0) from mk 12 x y 0 (isOp_of rfl) hx1 hy1 (by simp only [doV]; first | exact if_pos (by omega) | exact if_neg (by omega)))
    have E3 := Lib.hid (show DoIs _ _ _ _ _ (.int .i64 1) from mk 13 x y 1 (isOp_of rfl) hx1 hy1 (by simp only [doV]; first | exact if_pos (by omega) | exact if_neg (by omega)))
    have hlt : ¬ ((x : Int) < (y : Int)) := by omega
    clear mk hq hk h
    go_enter Try.func6, Try.ntmps6
    go_wp2_with fail
    refine (H0.out).mono ?_
    rintro e w1 ⟨rfl, hb⟩
    have S1 := Lib.hid hb
    clear hb
    go_wp2_with fail
    refine (RM.out _).mono ?_
    rintro e w' ⟨rfl, rfl⟩
    go_wp2_with fail
    refine (RM.out _).mono ?_
    rintro e w' ⟨rfl, rfl⟩
    go_wp2_with fail
    refine (L.out _).mono ?_
    rintro e w2 ⟨rfl, hb⟩
    have S2 := Lib.hid (S1.out.trans (hb.mono S1.out.size))
    clear hb
    go_wp2_with fail
    refine (G.out _).mono ?_
    rintro e w3 ⟨rfl, hb⟩
    have S3 := Lib.hid (S2.out.trans (hb.mono S2.out.size))
    clear hb
    go_wp2_with fail
    refine (E1.out _).mono ?_
    rintro e w4 ⟨rfl, hb⟩
    have S4 := Lib.hid (S3.out.trans (hb.mono S3.out.size))
    clear hb
    go_wp2_with fail
    refine (E2.out _).mono ?_
    rintro e w5 ⟨rfl, hb⟩
    have S5 := Lib.hid (S4.out.trans (hb.mono S4.out.size))
    clear hb
    go_wp2_with fail
    refine (E3.out _).mono ?_
    rintro e w6 ⟨rfl, hb⟩
    have S6 := Lib.hid (S5.out.trans (hb.mono S5.out.size))
    clear hb
    go_wp2_with fail
    go_ret
    exact ⟨by show Ending.returned (.bool (!decide (x < y))) = _; rw [decide_eq_false (by omega)]; rfl, S6.out⟩
end Go.Proofs.Ytfnamjnggmndmaa
