/-
  THE DOCUMENT'S Do, WALKED, op by op.
-/
import Derived.Test.YtmnblcnhbafcpaaJ03
namespace Go.Proofs.Ytmnblcnhbafcpaa
open Go.RowKit
open VecM
variable {xA xB xC : Int}

theorem inv_math {x k : Nat} (hk : k ≤ 16) (hx : x < 2 ^ k) : (65535 - x) % 2 ^ k = 2 ^ k - 1 - x := by
  have h : 65536 = 2 ^ k * 2 ^ (16 - k) := by rw [← Nat.pow_add, show k + (16 - k) = 16 by omega]
  have h1 : 1 ≤ 2 ^ (16 - k) := Nat.one_le_two_pow
  have h2 : 2 ^ k * 2 ^ (16 - k) = 2 ^ k * (2 ^ (16 - k) - 1) + 2 ^ k := by
    conv => lhs; rw [show 2 ^ (16 - k) = (2 ^ (16 - k) - 1) + 1 by omega, Nat.mul_add, Nat.mul_one]
  have e : 65535 - x = 2 ^ k - 1 - x + 2 ^ k * (2 ^ (16 - k) - 1) := by omega
  rw [e, Nat.add_mul_mod_self_left, Nat.mod_eq_of_lt (by omega)]
theorem rmask_is {k q : Nat} (hk : k ≤ 32) (hq : 2 ^ k - 1 = q) : ∀ u, Calls Try.prog 27 #[.int .i64 (k : Nat)] u fun e w' => e = .returned (.int .i64 (q : Nat)) ∧ u = w' := fun u => by rw [← hq]; exact RMask_any k hk u
def DoIs (nd a b c wb r : Value) : Prop := ∀ u, Calls Try.prog 44 #[nd, a, b, c, wb] u fun e w' => e = .returned r ∧ Below u.heap.size u w'
theorem do_is {op W N Lo a b c wb : Nat} (ho : isOp op) (hW : W ≤ 16) (hL : Lo ≤ 16) (hwb : wb ≤ 16) (ha : a < 65536) (hb : b < 65536) {r : Nat} (hr : doV op W N Lo a b c wb = r) : DoIs (ndV xA xB xC op W N Lo) (.int .i64 (a : Nat)) (.int .i64 (b : Nat)) (.int .i64 (c : Nat)) (.int .i64 (wb : Nat)) (.int .i64 (r : Nat)) :=
  fun u => by rw [← hr]; exact Do_any op W N Lo a b c wb ho hW hL hwb ha hb u
theorem isOp_of {op : Nat} (h : (op == 1 || op == 3 || op == 4 || op == 5 || op == 6 || op == 7 || op == 8 || op == 9 || op == 10 || op == 11 || op == 12 || op == 13 || op == 14 || op == 15 || op == 16 || op == 17 || op == 18) = true) : isOp op := by
  simp at h
  unfold isOp
  omega
def RGot (r : Nat) (w : World) (e : Ending) (w' : World) : Prop := e = .returned (.int .i64 (r : Nat)) ∧ Below w.heap.size w w'
theorem one_is {b : Bool} {r : Nat} (h : (if b then 1 else 0) = r) : ∀ u, Calls Try.prog 56 #[.bool b] u fun e w' => e = .returned (.int .i64 (r : Nat)) ∧ u = w' := fun u => by
  subst h
  have := one_any b u
  cases b <;> exact this
theorem lt_mod {a k : Nat} (h : a < 2 ^ k) : a % 2 ^ k = a := Nat.mod_eq_of_lt h
set_option maxRecDepth 100000 in
set_option maxHeartbeats 1000000 in
theorem rdo_1 (W N Lo a b c wb : Nat) (hW : W ≤ 16) (hL : Lo ≤ 16) (hwb : wb ≤ 16) (ha : a < 65536) (hb : b < 65536)  (w : World) : Calls Try.prog 52 #[ndV xA xB xC 1 W N Lo, .int .i64 a, .int .i64 b, .int .i64 c, .int .i64 wb] w (RGot (N) w) := by
  go_enter Try.func52, Try.ntmps52
  go_wp2
  go_ret
  exact ⟨rfl, bel_alloc _ _⟩

set_option maxRecDepth 100000 in
set_option maxHeartbeats 1000000 in
theorem rdo_3 (W N Lo a b c wb : Nat) (hW : W ≤ 16) (hL : Lo ≤ 16) (hwb : wb ≤ 16) (ha : a < 65536) (hb : b < 65536) (hA : a < 2 ^ W) (w : World) : Calls Try.prog 52 #[ndV xA xB xC 3 W N Lo, .int .i64 a, .int .i64 b, .int .i64 c, .int .i64 wb] w (RGot ((65535 - a) % 2 ^ W) w) := by
  obtain ⟨q, hq⟩ : ∃ q, 2 ^ W - 1 = q := ⟨_, rfl⟩
  have RM := Lib.hid (rmask_is (k := W) (by omega) hq)
  have hm := inv_math hW hA
  have HM := Lib.hid (show (q : Int) - (a : Int) = (((65535 - a) % 2 ^ W : Nat) : Int) by rw [hm, hq]; omega)
  have hq1 : q < 65536 := by have := (pow_le32 (k := W) (by omega)); have h2 : 2 ^ W ≤ 65536 := Nat.pow_le_pow_right (n := 2) (i := W) (j := 16) (by decide) hW; omega
  clear hm hq
  go_enter Try.func52, Try.ntmps52
  go_wp2_with fail
  refine (RM.out _).mono ?_
  rintro e w1 ⟨rfl, rfl⟩
  go_wp2
  go_ret
  exact ⟨by rw [← HM.out]; rfl, bel_alloc _ _⟩
set_option maxRecDepth 100000 in
set_option maxHeartbeats 1000000 in
theorem rdo_4 (W N Lo a b c wb : Nat) (hW : W ≤ 16) (hL : Lo ≤ 16) (hwb : wb ≤ 16) (ha : a < 65536) (hb : b < 65536)  (w : World) : Calls Try.prog 52 #[ndV xA xB xC 4 W N Lo, .int .i64 a, .int .i64 b, .int .i64 c, .int .i64 wb] w (RGot (if a = 0 then 0 else 1) w) := by
  obtain ⟨r, hr⟩ : ∃ r, (if a = 0 then 0 else 1) = r := ⟨_, rfl⟩
  have H1 := Lib.hid (one_is (b := ((a : Int) != 0)) (r := r) (by rw [← hr]; by_cases h : a = 0 <;> simp [h] <;> try omega))
  rw [hr]
  clear hr
  go_enter Try.func52, Try.ntmps52
  go_wp2_with fail
  refine (H1.out _).mono ?_
  rintro e w1 ⟨rfl, rfl⟩
  go_wp2
  go_ret
  exact ⟨rfl, bel_alloc _ _⟩

set_option maxRecDepth 100000 in
set_option maxHeartbeats 1000000 in
theorem rdo_5 (W N Lo a b c wb : Nat) (hW : W ≤ 16) (hL : Lo ≤ 16) (hwb : wb ≤ 16) (ha : a < 65536) (hb : b < 65536)  (w : World) : Calls Try.prog 52 #[ndV xA xB xC 5 W N Lo, .int .i64 a, .int .i64 b, .int .i64 c, .int .i64 wb] w (RGot (if a = 2 ^ Lo - 1 then 1 else 0) w) := by
  obtain ⟨q, hq⟩ : ∃ q, 2 ^ Lo - 1 = q := ⟨_, rfl⟩
  have RM := Lib.hid (rmask_is (k := Lo) (by omega) hq)
  obtain ⟨r, hr⟩ : ∃ r, (if a = q then 1 else 0) = r := ⟨_, rfl⟩
  have H1 := Lib.hid (one_is (b := ((a : Int) == (q : Int))) (r := r) (by rw [← hr]; by_cases h : a = q <;> simp [h] <;> try omega))
  rw [hq, hr]
  clear hr hq
  go_enter Try.func52, Try.ntmps52
  go_wp2_with fail
  refine (RM.out _).mono ?_
  rintro e w1 ⟨rfl, rfl⟩
  go_wp2_with fail
  refine (H1.out _).mono ?_
  rintro e w1 ⟨rfl, rfl⟩
  go_wp2
  go_ret
  exact ⟨rfl, bel_alloc _ _⟩

set_option maxRecDepth 100000 in
set_option maxHeartbeats 1000000 in
theorem rdo_6 (W N Lo a b c wb : Nat) (hW : W ≤ 16) (hL : Lo ≤ 16) (hwb : wb ≤ 16) (ha : a < 65536) (hb : b < 65536) (hA : a < 2 ^ W) (hB : b < 2 ^ W) (w : World) : Calls Try.prog 52 #[ndV xA xB xC 6 W N Lo, .int .i64 a, .int .i64 b, .int .i64 c, .int .i64 wb] w (RGot ((a &&& b) % 2 ^ W) w) := by
  have h1 : (a &&& b) % 2 ^ W = a &&& b := lt_mod (Nat.and_lt_two_pow _ hB)
  have HM := Lib.hid (and_nat (a := a) (b := b) (by omega) (by omega))
  rw [h1]
  clear h1
  go_enter Try.func52, Try.ntmps52
  go_wp2
  go_ret
  exact ⟨by rw [← HM.out]; rfl, bel_alloc _ _⟩
set_option maxRecDepth 100000 in
set_option maxHeartbeats 1000000 in
theorem rdo_7 (W N Lo a b c wb : Nat) (hW : W ≤ 16) (hL : Lo ≤ 16) (hwb : wb ≤ 16) (ha : a < 65536) (hb : b < 65536) (hA : a < 2 ^ W) (hB : b < 2 ^ W) (w : World) : Calls Try.prog 52 #[ndV xA xB xC 7 W N Lo, .int .i64 a, .int .i64 b, .int .i64 c, .int .i64 wb] w (RGot ((a ||| b) % 2 ^ W) w) := by
  have h1 : (a ||| b) % 2 ^ W = a ||| b := lt_mod (Nat.or_lt_two_pow hA hB)
  have HM := Lib.hid (or_nat (a := a) (b := b) (by omega) (by omega))
  rw [h1]
  clear h1
  go_enter Try.func52, Try.ntmps52
  go_wp2
  go_ret
  exact ⟨by rw [← HM.out]; rfl, bel_alloc _ _⟩
set_option maxRecDepth 100000 in
set_option maxHeartbeats 1000000 in
theorem rdo_8 (W N Lo a b c wb : Nat) (hW : W ≤ 16) (hL : Lo ≤ 16) (hwb : wb ≤ 16) (ha : a < 65536) (hb : b < 65536) (hA : a < 2 ^ W) (hB : b < 2 ^ W) (w : World) : Calls Try.prog 52 #[ndV xA xB xC 8 W N Lo, .int .i64 a, .int .i64 b, .int .i64 c, .int .i64 wb] w (RGot ((a ^^^ b) % 2 ^ W) w) := by
  have h1 : (a ^^^ b) % 2 ^ W = a ^^^ b := lt_mod (Nat.xor_lt_two_pow hA hB)
  have HM := Lib.hid (xor_nat (a := a) (b := b) (by omega) (by omega))
  rw [h1]
  clear h1
  go_enter Try.func52, Try.ntmps52
  go_wp2
  go_ret
  exact ⟨by rw [← HM.out]; rfl, bel_alloc _ _⟩
set_option maxRecDepth 100000 in
set_option maxHeartbeats 1000000 in
theorem rdo_9 (W N Lo a b c wb : Nat) (hW : W ≤ 16) (hL : Lo ≤ 16) (hwb : wb ≤ 16) (ha : a < 65536) (hb : b < 65536)  (w : World) : Calls Try.prog 52 #[ndV xA xB xC 9 W N Lo, .int .i64 a, .int .i64 b, .int .i64 c, .int .i64 wb] w (RGot ((a + b) % 2 ^ W) w) := by
  obtain ⟨q, hq⟩ : ∃ q, 2 ^ W - 1 = q := ⟨_, rfl⟩
  have RM := Lib.hid (rmask_is (k := W) (by omega) hq)
  have hm := and_mask_nat (a := a + b) (k := W) (by omega)
  rw [Int.natCast_add, hq] at hm
  have HM := Lib.hid hm
  clear hm hq
  go_enter Try.func52, Try.ntmps52
  go_wp2_with fail
  refine (RM.out _).mono ?_
  rintro e w1 ⟨rfl, rfl⟩
  go_wp2
  go_ret
  exact ⟨by rw [← HM.out]; rfl, bel_alloc _ _⟩
set_option maxRecDepth 100000 in
set_option maxHeartbeats 1000000 in
theorem rdo_10 (W N Lo a b c wb : Nat) (hW : W ≤ 16) (hL : Lo ≤ 16) (hwb : wb ≤ 16) (ha : a < 65536) (hb : b < 65536)  (w : World) : Calls Try.prog 52 #[ndV xA xB xC 10 W N Lo, .int .i64 a, .int .i64 b, .int .i64 c, .int .i64 wb] w (RGot ((a + 65536 - b) % 2 ^ W) w) := by
  obtain ⟨q, hq⟩ : ∃ q, 2 ^ W - 1 = q := ⟨_, rfl⟩
  have RM := Lib.hid (rmask_is (k := W) (by omega) hq)
  have hm := mask_up ((a : Int) - b) (a + 65536 - b) W hW (by omega)
  rw [hq] at hm
  have HM := Lib.hid hm
  clear hm hq
  go_enter Try.func52, Try.ntmps52
  go_wp2_with fail
  refine (RM.out _).mono ?_
  rintro e w1 ⟨rfl, rfl⟩
  go_wp2
  go_ret
  exact ⟨by rw [← HM.out]; rfl, bel_alloc _ _⟩
set_option maxRecDepth 100000 in
set_option maxHeartbeats 1000000 in
theorem rdo_11 (W N Lo a b c wb : Nat) (hW : W ≤ 16) (hL : Lo ≤ 16) (hwb : wb ≤ 16) (ha : a < 65536) (hb : b < 65536)  (w : World) : Calls Try.prog 52 #[ndV xA xB xC 11 W N Lo, .int .i64 a, .int .i64 b, .int .i64 c, .int .i64 wb] w (RGot ((a * b) % 2 ^ W) w) := by
  obtain ⟨q, hq⟩ : ∃ q, 2 ^ W - 1 = q := ⟨_, rfl⟩
  have RM := Lib.hid (rmask_is (k := W) (by omega) hq)
  have hm := and_mask_nat (a := a * b) (k := W) (by omega)
  have hmul : wrap64 ((a : Int) * (b : Int)) = ((a * b : Nat) : Int) := by
    have h1 : a * b ≤ 65536 * 65536 := Nat.mul_le_mul (by omega) (by omega)
    rw [← Int.natCast_mul]
    generalize a * b = ab at h1
    unfold wrap64
    omega
  rw [← hmul, hq] at hm
  clear hmul
  have HM := Lib.hid hm
  clear hm hq
  go_enter Try.func52, Try.ntmps52
  go_wp2_with fail
  refine (RM.out _).mono ?_
  rintro e w1 ⟨rfl, rfl⟩
  go_wp2
  go_ret
  exact ⟨by rw [← HM.out]; rfl, bel_alloc _ _⟩
set_option maxRecDepth 100000 in
set_option maxHeartbeats 1000000 in
theorem rmo_12 (W N Lo a b c wb : Nat) (hW : W ≤ 16) (hL : Lo ≤ 16) (hwb : wb ≤ 16) (ha : a < 65536) (hb : b < 65536)  (w : World) : Calls Try.prog 57 #[ndV xA xB xC 12 W N Lo, .int .i64 a, .int .i64 b, .int .i64 c, .int .i64 wb] w (RGot (if a = b then 1 else 0) w) := by
  obtain ⟨r, hr⟩ : ∃ r, (if a = b then 1 else 0) = r := ⟨_, rfl⟩
  have H1 := Lib.hid (one_is (b := ((a : Int) == (b : Int))) (r := r) (by rw [← hr]; by_cases h : a = b <;> simp [h] <;> try omega))
  rw [hr]
  clear hr
  go_enter Try.func57, Try.ntmps57
  go_wp2_with fail
  refine (H1.out _).mono ?_
  rintro e w1 ⟨rfl, rfl⟩
  go_wp2
  go_ret
  exact ⟨rfl, bel_alloc _ _⟩

set_option maxRecDepth 100000 in
set_option maxHeartbeats 1000000 in
theorem rmo_13 (W N Lo a b c wb : Nat) (hW : W ≤ 16) (hL : Lo ≤ 16) (hwb : wb ≤ 16) (ha : a < 65536) (hb : b < 65536)  (w : World) : Calls Try.prog 57 #[ndV xA xB xC 13 W N Lo, .int .i64 a, .int .i64 b, .int .i64 c, .int .i64 wb] w (RGot (if a = b then 0 else 1) w) := by
  obtain ⟨r, hr⟩ : ∃ r, (if a = b then 0 else 1) = r := ⟨_, rfl⟩
  have H1 := Lib.hid (one_is (b := ((a : Int) != (b : Int))) (r := r) (by rw [← hr]; by_cases h : a = b <;> simp [h] <;> try omega))
  rw [hr]
  clear hr
  go_enter Try.func57, Try.ntmps57
  go_wp2_with fail
  refine (H1.out _).mono ?_
  rintro e w1 ⟨rfl, rfl⟩
  go_wp2
  go_ret
  exact ⟨rfl, bel_alloc _ _⟩

set_option maxRecDepth 100000 in
set_option maxHeartbeats 1000000 in
theorem rmo_14 (W N Lo a b c wb : Nat) (hW : W ≤ 16) (hL : Lo ≤ 16) (hwb : wb ≤ 16) (ha : a < 65536) (hb : b < 65536)  (w : World) : Calls Try.prog 57 #[ndV xA xB xC 14 W N Lo, .int .i64 a, .int .i64 b, .int .i64 c, .int .i64 wb] w (RGot (if a < b then 1 else 0) w) := by
  obtain ⟨r, hr⟩ : ∃ r, (if a < b then 1 else 0) = r := ⟨_, rfl⟩
  have H1 := Lib.hid (one_is (b := decide (a < b)) (r := r) (by rw [← hr]; by_cases h : a < b <;> simp [h] <;> try omega))
  rw [hr]
  clear hr
  go_enter Try.func57, Try.ntmps57
  go_wp2_with fail
  refine (H1.out _).mono ?_
  rintro e w1 ⟨rfl, rfl⟩
  go_wp2
  go_ret
  exact ⟨rfl, bel_alloc _ _⟩

set_option maxRecDepth 100000 in
set_option maxHeartbeats 1000000 in
theorem rmo_15 (W N Lo a b c wb : Nat) (hW : W ≤ 16) (hL : Lo ≤ 16) (hwb : wb ≤ 16) (ha : a < 65536) (hb : b < 65536)  (w : World) : Calls Try.prog 57 #[ndV xA xB xC 15 W N Lo, .int .i64 a, .int .i64 b, .int .i64 c, .int .i64 wb] w (RGot (if a ≤ b then 1 else 0) w) := by
  obtain ⟨r, hr⟩ : ∃ r, (if a ≤ b then 1 else 0) = r := ⟨_, rfl⟩
  have H1 := Lib.hid (one_is (b := decide (a ≤ b)) (r := r) (by rw [← hr]; by_cases h : a ≤ b <;> simp [h] <;> try omega))
  rw [hr]
  clear hr
  go_enter Try.func57, Try.ntmps57
  go_wp2_with fail
  refine (H1.out _).mono ?_
  rintro e w1 ⟨rfl, rfl⟩
  go_wp2
  go_ret
  exact ⟨rfl, bel_alloc _ _⟩

set_option maxRecDepth 100000 in
set_option maxHeartbeats 1000000 in
theorem rmo_16 (W N Lo a b c wb : Nat) (hW : W ≤ 16) (hL : Lo ≤ 16) (hwb : wb ≤ 16) (ha : a < 65536) (hb : b < 65536)  (w : World) : Calls Try.prog 57 #[ndV xA xB xC 16 W N Lo, .int .i64 a, .int .i64 b, .int .i64 c, .int .i64 wb] w (RGot (if a = 1 then b else c) w) := by
  by_cases h : a = 1
  · subst h
    rw [if_pos rfl]
    go_enter Try.func57, Try.ntmps57
    go_wp2
    go_ret
    exact ⟨rfl, bel_alloc _ _⟩
  · have h' : ((a : Int) == 1) = false := by simpa using fun e => h (by omega)
    rw [if_neg h]
    go_enter Try.func57, Try.ntmps57
    go_wp2
    go_ret
    exact ⟨rfl, bel_alloc _ _⟩
set_option maxRecDepth 100000 in
set_option maxHeartbeats 1000000 in
theorem rmo_17 (W N Lo a b c wb : Nat) (hW : W ≤ 16) (hL : Lo ≤ 16) (hwb : wb ≤ 16) (ha : a < 65536) (hb : b < 65536)  (w : World) : Calls Try.prog 57 #[ndV xA xB xC 17 W N Lo, .int .i64 a, .int .i64 b, .int .i64 c, .int .i64 wb] w (RGot (a * 2 ^ wb + b) w) := by
  have h1 : 2 ^ wb ≤ 65536 := Nat.pow_le_pow_right (n := 2) (i := wb) (j := 16) (by decide) hwb
  have h2 : a * 2 ^ wb ≤ 65536 * 65536 := Nat.mul_le_mul (by omega) h1
  have hp : wrap64 ((a : Int) * 2 ^ wb) = ((a * 2 ^ wb : Nat) : Int) := by
    rw [show ((a : Int) * 2 ^ wb) = ((a * 2 ^ wb : Nat) : Int) by simp]
    generalize a * 2 ^ wb = ab at h2
    unfold wrap64
    omega
  have HP := Lib.hid hp
  generalize a * 2 ^ wb = ab at h2 hp HP ⊢
  go_enter Try.func57, Try.ntmps57
  go_wp2
  go_ret
  exact ⟨by rw [Int.natCast_add]; rfl, bel_alloc _ _⟩
set_option maxRecDepth 100000 in
set_option maxHeartbeats 1000000 in
theorem rmo_18 (W N Lo a b c wb : Nat) (hW : W ≤ 16) (hL : Lo ≤ 16) (hwb : wb ≤ 16) (ha : a < 65536) (hb : b < 65536) (hN : W + Lo = N + 1) (w : World) : Calls Try.prog 57 #[ndV xA xB xC 18 W N Lo, .int .i64 a, .int .i64 b, .int .i64 c, .int .i64 wb] w (RGot (a / 2 ^ Lo % 2 ^ W) w) := by
  obtain ⟨q, hq⟩ : ∃ q, 2 ^ W - 1 = q := ⟨_, rfl⟩
  have RM := Lib.hid (rmask_is (k := W) (by omega) hq)
  have hm := and_mask_nat (a := a / 2 ^ Lo) (k := W) (by omega)
  rw [hq, show ((a / 2 ^ Lo : Nat) : Int) = (a : Int) / 2 ^ Lo by simp] at hm
  have HM := Lib.hid hm
  have hwI : (N : Int) - (Lo : Int) + 1 = (W : Int) := by omega
  have RQ := Lib.hid (show ∀ u, Calls Try.prog 27 #[.int .i64 (W : Nat)] u fun e w' => e = .returned (.int .i64 (q : Nat)) ∧ w' = u from fun u => (RM.out u).mono fun e w' ⟨h1, h2⟩ => ⟨h1, h2.symm⟩)
  have hN1 : N ≤ 32 := by omega
  clear hm hq
  go_enter Try.func57, Try.ntmps57
  go_wp2_with fail
  go_quiet ((go_at_call 27; exact Calls.quiet_of_same (RQ.out _)))
  go_wp2
  go_ret
  exact ⟨by rw [← HM.out]; rfl, Below.drewN (bel_alloc _ _) _⟩
set_option maxRecDepth 100000 in
set_option maxHeartbeats 1000000 in
theorem rdo_12 (W N Lo a b c wb : Nat) (hW : W ≤ 16) (hL : Lo ≤ 16) (hwb : wb ≤ 16) (ha : a < 65536) (hb : b < 65536)  (w : World) : Calls Try.prog 52 #[ndV xA xB xC 12 W N Lo, .int .i64 a, .int .i64 b, .int .i64 c, .int .i64 wb] w (RGot (if a = b then 1 else 0) w) := by
  have HC := Lib.hid (show ∀ u, Calls Try.prog 57 #[ndV xA xB xC 12 W N Lo, .int .i64 a, .int .i64 b, .int .i64 c, .int .i64 wb] u (RGot (if a = b then 1 else 0) u) from fun u => rmo_12 W N Lo a b c wb hW hL hwb ha hb u)
  generalize (if a = b then 1 else 0) = r at HC ⊢
  go_enter Try.func52, Try.ntmps52
  go_wp2_with fail
  refine (HC.out _).mono ?_
  rintro e w1 ⟨rfl, hb1⟩
  have HB := Lib.hid hb1
  clear hb1
  go_wp2
  go_ret
  exact ⟨rfl, (bel_alloc _ _).trans (HB.out.mono (by simp))⟩
set_option maxRecDepth 100000 in
set_option maxHeartbeats 1000000 in
theorem rdo_13 (W N Lo a b c wb : Nat) (hW : W ≤ 16) (hL : Lo ≤ 16) (hwb : wb ≤ 16) (ha : a < 65536) (hb : b < 65536)  (w : World) : Calls Try.prog 52 #[ndV xA xB xC 13 W N Lo, .int .i64 a, .int .i64 b, .int .i64 c, .int .i64 wb] w (RGot (if a = b then 0 else 1) w) := by
  have HC := Lib.hid (show ∀ u, Calls Try.prog 57 #[ndV xA xB xC 13 W N Lo, .int .i64 a, .int .i64 b, .int .i64 c, .int .i64 wb] u (RGot (if a = b then 0 else 1) u) from fun u => rmo_13 W N Lo a b c wb hW hL hwb ha hb u)
  generalize (if a = b then 0 else 1) = r at HC ⊢
  go_enter Try.func52, Try.ntmps52
  go_wp2_with fail
  refine (HC.out _).mono ?_
  rintro e w1 ⟨rfl, hb1⟩
  have HB := Lib.hid hb1
  clear hb1
  go_wp2
  go_ret
  exact ⟨rfl, (bel_alloc _ _).trans (HB.out.mono (by simp))⟩
set_option maxRecDepth 100000 in
set_option maxHeartbeats 1000000 in
theorem rdo_14 (W N Lo a b c wb : Nat) (hW : W ≤ 16) (hL : Lo ≤ 16) (hwb : wb ≤ 16) (ha : a < 65536) (hb : b < 65536)  (w : World) : Calls Try.prog 52 #[ndV xA xB xC 14 W N Lo, .int .i64 a, .int .i64 b, .int .i64 c, .int .i64 wb] w (RGot (if a < b then 1 else 0) w) := by
  have HC := Lib.hid (show ∀ u, Calls Try.prog 57 #[ndV xA xB xC 14 W N Lo, .int .i64 a, .int .i64 b, .int .i64 c, .int .i64 wb] u (RGot (if a < b then 1 else 0) u) from fun u => rmo_14 W N Lo a b c wb hW hL hwb ha hb u)
  generalize (if a < b then 1 else 0) = r at HC ⊢
  go_enter Try.func52, Try.ntmps52
  go_wp2_with fail
  refine (HC.out _).mono ?_
  rintro e w1 ⟨rfl, hb1⟩
  have HB := Lib.hid hb1
  clear hb1
  go_wp2
  go_ret
  exact ⟨rfl, (bel_alloc _ _).trans (HB.out.mono (by simp))⟩
set_option maxRecDepth 100000 in
set_option maxHeartbeats 1000000 in
theorem rdo_15 (W N Lo a b c wb : Nat) (hW : W ≤ 16) (hL : Lo ≤ 16) (hwb : wb ≤ 16) (ha : a < 65536) (hb : b < 65536)  (w : World) : Calls Try.prog 52 #[ndV xA xB xC 15 W N Lo, .int .i64 a, .int .i64 b, .int .i64 c, .int .i64 wb] w (RGot (if a ≤ b then 1 else 0) w) := by
  have HC := Lib.hid (show ∀ u, Calls Try.prog 57 #[ndV xA xB xC 15 W N Lo, .int .i64 a, .int .i64 b, .int .i64 c, .int .i64 wb] u (RGot (if a ≤ b then 1 else 0) u) from fun u => rmo_15 W N Lo a b c wb hW hL hwb ha hb u)
  generalize (if a ≤ b then 1 else 0) = r at HC ⊢
  go_enter Try.func52, Try.ntmps52
  go_wp2_with fail
  refine (HC.out _).mono ?_
  rintro e w1 ⟨rfl, hb1⟩
  have HB := Lib.hid hb1
  clear hb1
  go_wp2
  go_ret
  exact ⟨rfl, (bel_alloc _ _).trans (HB.out.mono (by simp))⟩
set_option maxRecDepth 100000 in
set_option maxHeartbeats 1000000 in
theorem rdo_16 (W N Lo a b c wb : Nat) (hW : W ≤ 16) (hL : Lo ≤ 16) (hwb : wb ≤ 16) (ha : a < 65536) (hb : b < 65536)  (w : World) : Calls Try.prog 52 #[ndV xA xB xC 16 W N Lo, .int .i64 a, .int .i64 b, .int .i64 c, .int .i64 wb] w (RGot (if a = 1 then b else c) w) := by
  have HC := Lib.hid (show ∀ u, Calls Try.prog 57 #[ndV xA xB xC 16 W N Lo, .int .i64 a, .int .i64 b, .int .i64 c, .int .i64 wb] u (RGot (if a = 1 then b else c) u) from fun u => rmo_16 W N Lo a b c wb hW hL hwb ha hb u)
  generalize (if a = 1 then b else c) = r at HC ⊢
  go_enter Try.func52, Try.ntmps52
  go_wp2_with fail
  refine (HC.out _).mono ?_
  rintro e w1 ⟨rfl, hb1⟩
  have HB := Lib.hid hb1
  clear hb1
  go_wp2
  go_ret
  exact ⟨rfl, (bel_alloc _ _).trans (HB.out.mono (by simp))⟩
set_option maxRecDepth 100000 in
set_option maxHeartbeats 1000000 in
theorem rdo_17 (W N Lo a b c wb : Nat) (hW : W ≤ 16) (hL : Lo ≤ 16) (hwb : wb ≤ 16) (ha : a < 65536) (hb : b < 65536)  (w : World) : Calls Try.prog 52 #[ndV xA xB xC 17 W N Lo, .int .i64 a, .int .i64 b, .int .i64 c, .int .i64 wb] w (RGot (a * 2 ^ wb + b) w) := by
  have HC := Lib.hid (show ∀ u, Calls Try.prog 57 #[ndV xA xB xC 17 W N Lo, .int .i64 a, .int .i64 b, .int .i64 c, .int .i64 wb] u (RGot (a * 2 ^ wb + b) u) from fun u => rmo_17 W N Lo a b c wb hW hL hwb ha hb u)
  generalize (a * 2 ^ wb + b) = r at HC ⊢
  go_enter Try.func52, Try.ntmps52
  go_wp2_with fail
  refine (HC.out _).mono ?_
  rintro e w1 ⟨rfl, hb1⟩
  have HB := Lib.hid hb1
  clear hb1
  go_wp2
  go_ret
  exact ⟨rfl, (bel_alloc _ _).trans (HB.out.mono (by simp))⟩
set_option maxRecDepth 100000 in
set_option maxHeartbeats 1000000 in
theorem rdo_18 (W N Lo a b c wb : Nat) (hW : W ≤ 16) (hL : Lo ≤ 16) (hwb : wb ≤ 16) (ha : a < 65536) (hb : b < 65536) (hN : W + Lo = N + 1) (w : World) : Calls Try.prog 52 #[ndV xA xB xC 18 W N Lo, .int .i64 a, .int .i64 b, .int .i64 c, .int .i64 wb] w (RGot (a / 2 ^ Lo % 2 ^ W) w) := by
  have HC := Lib.hid (show ∀ u, Calls Try.prog 57 #[ndV xA xB xC 18 W N Lo, .int .i64 a, .int .i64 b, .int .i64 c, .int .i64 wb] u (RGot (a / 2 ^ Lo % 2 ^ W) u) from fun u => rmo_18 W N Lo a b c wb hW hL hwb ha hb hN u)
  generalize (a / 2 ^ Lo % 2 ^ W) = r at HC ⊢
  go_enter Try.func52, Try.ntmps52
  go_wp2_with fail
  refine (HC.out _).mono ?_
  rintro e w1 ⟨rfl, hb1⟩
  have HB := Lib.hid hb1
  clear hb1
  go_wp2
  go_ret
  exact ⟨rfl, (bel_alloc _ _).trans (HB.out.mono (by simp))⟩
/-- what the document asks of operands -/
def rOk (op W N Lo a b : Nat) : Prop := (op = 3 ∨ op = 6 ∨ op = 7 ∨ op = 8 → a < 2 ^ W) ∧ (op = 6 ∨ op = 7 ∨ op = 8 → b < 2 ^ W) ∧ (op = 18 → W + Lo = N + 1)
theorem RDo_any (op W N Lo a b c wb : Nat) (ho : isOp op) (hW : W ≤ 16) (hL : Lo ≤ 16) (hwb : wb ≤ 16) (ha : a < 65536) (hb : b < 65536) (hr : rOk op W N Lo a b) (w : World) :
    Calls Try.prog 52 #[ndV xA xB xC op W N Lo, .int .i64 a, .int .i64 b, .int .i64 c, .int .i64 wb] w (RGot (doV op W N Lo a b c wb) w) := by
  obtain ⟨r1, r2, r3⟩ := hr
  rcases ho with rfl | rfl | rfl | rfl | rfl | rfl | rfl | rfl | rfl | rfl | rfl | rfl | rfl | rfl | rfl | rfl | rfl
  · exact rdo_1 W N Lo a b c wb hW hL hwb ha hb  w
  · exact rdo_3 W N Lo a b c wb hW hL hwb ha hb (r1 (by decide)) w
  · exact rdo_4 W N Lo a b c wb hW hL hwb ha hb  w
  · exact rdo_5 W N Lo a b c wb hW hL hwb ha hb  w
  · exact rdo_6 W N Lo a b c wb hW hL hwb ha hb (r1 (by decide)) (r2 (by decide)) w
  · exact rdo_7 W N Lo a b c wb hW hL hwb ha hb (r1 (by decide)) (r2 (by decide)) w
  · exact rdo_8 W N Lo a b c wb hW hL hwb ha hb (r1 (by decide)) (r2 (by decide)) w
  · exact rdo_9 W N Lo a b c wb hW hL hwb ha hb  w
  · exact rdo_10 W N Lo a b c wb hW hL hwb ha hb  w
  · exact rdo_11 W N Lo a b c wb hW hL hwb ha hb  w
  · exact rdo_12 W N Lo a b c wb hW hL hwb ha hb  w
  · exact rdo_13 W N Lo a b c wb hW hL hwb ha hb  w
  · exact rdo_14 W N Lo a b c wb hW hL hwb ha hb  w
  · exact rdo_15 W N Lo a b c wb hW hL hwb ha hb  w
  · exact rdo_16 W N Lo a b c wb hW hL hwb ha hb  w
  · exact rdo_17 W N Lo a b c wb hW hL hwb ha hb  w
  · exact rdo_18 W N Lo a b c wb hW hL hwb ha hb (r3 rfl) w
end Go.Proofs.Ytmnblcnhbafcpaa
