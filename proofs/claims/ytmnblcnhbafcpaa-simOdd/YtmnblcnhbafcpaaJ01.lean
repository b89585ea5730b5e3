/-
  near, count, Mask, THE CLOSURES OF vec, WALKED.
-/
import Derived.Laws.BitsAllLaws
import Derived.Laws.Bits128
import Derived.IntWalk
import Derived.Test.YtmnblcnhbafcpaaChecked
import Derived.WalkKit
import Derived.Below
import Derived.Laws.Rows
import Derived.Laws.StructEq
import Derived.Deep.RegionHeld3
import Derived.Deep.RegionLaw
import Derived.Deep.QuietTactic
import Derived.Deep.RegionWith
import Derived.Deep.LoopGhost
import Derived.Lib.Hide
import Derived.BigQuiet
import Derived.Outline
/-
  NUMBERS OF SOME BITS: what the walk's operations on ints are, of natural numbers.
-/
namespace VecM
open Go

theorem ofInt_nat {a : Nat} (ha : a < 2 ^ 63) : (BitVec.ofInt 64 (a : Int)).toNat = a := by
  rw [BitVec.ofInt_natCast, BitVec.toNat_ofNat]; exact Nat.mod_eq_of_lt (by omega)
theorem wrap_nat {a : Nat} (ha : a < 2 ^ 63) : IntKind.i64.wrap (a : Int) = a := by
  rw [IntKind.wrap_i64]
  omega
theorem and_nat {a b : Nat} (ha : a < 2 ^ 63) (hb : b < 2 ^ 63) : bits .and .i64 (a : Int) (b : Int) = ((a &&& b : Nat) : Int) := by
  have hx : a &&& b < 2 ^ 63 := Nat.and_lt_two_pow _ hb
  show IntKind.i64.wrap ((BitVec.ofInt 64 (a : Int) &&& BitVec.ofInt 64 (b : Int)).toNat : Int) = _
  rw [BitVec.toNat_and, ofInt_nat ha, ofInt_nat hb, wrap_nat hx]
theorem or_nat {a b : Nat} (ha : a < 2 ^ 63) (hb : b < 2 ^ 63) : bits .or .i64 (a : Int) (b : Int) = ((a ||| b : Nat) : Int) := by
  have hx : a ||| b < 2 ^ 63 := Nat.or_lt_two_pow ha hb
  show IntKind.i64.wrap ((BitVec.ofInt 64 (a : Int) ||| BitVec.ofInt 64 (b : Int)).toNat : Int) = _
  rw [BitVec.toNat_or, ofInt_nat ha, ofInt_nat hb, wrap_nat hx]
theorem xor_nat {a b : Nat} (ha : a < 2 ^ 63) (hb : b < 2 ^ 63) : bits .xor .i64 (a : Int) (b : Int) = ((a ^^^ b : Nat) : Int) := by
  have hx : a ^^^ b < 2 ^ 63 := Nat.xor_lt_two_pow ha hb
  show IntKind.i64.wrap ((BitVec.ofInt 64 (a : Int) ^^^ BitVec.ofInt 64 (b : Int)).toNat : Int) = _
  rw [BitVec.toNat_xor, ofInt_nat ha, ofInt_nat hb, wrap_nat hx]
/-- what is above a width falls away -/
theorem and_mask (x : Int) {k : Nat} (hk : k ≤ 32) : bits .and .i64 x ((2 ^ k - 1 : Nat) : Int) = ((x % (2 ^ k : Nat)).toNat : Int) := by
  have h2 : 2 ^ k ≤ 2 ^ 32 := Nat.pow_le_pow_right (by decide) hk
  have h0 : 0 < 2 ^ k := Nat.two_pow_pos k
  have key : (BitVec.ofInt 64 x &&& BitVec.ofInt 64 ((2 ^ k - 1 : Nat) : Int)).toNat = (x % ((2 ^ 64 : Nat) : Int)).toNat % 2 ^ k := by
    rw [BitVec.toNat_and, BitVec.toNat_ofInt, ofInt_nat (by omega), Nat.and_two_pow_sub_one_eq_mod]
  show IntKind.i64.wrap ((BitVec.ofInt 64 x &&& BitVec.ofInt 64 ((2 ^ k - 1 : Nat) : Int)).toNat : Nat) = _
  have hm : ((x % ((2 ^ 64 : Nat) : Int)).toNat % 2 ^ k : Nat) = (x % (2 ^ k : Nat)).toNat := by
    have h64 : ((2 ^ 64 : Nat) : Int) = ((2 ^ k : Nat) : Int) * ((2 ^ (64 - k) : Nat) : Int) := by
      rw [← Int.natCast_mul, ← Nat.pow_add, show k + (64 - k) = 64 by omega]
    have e1 : ((x % ((2 ^ 64 : Nat) : Int)).toNat : Int) = x % ((2 ^ 64 : Nat) : Int) := Int.toNat_of_nonneg (Int.emod_nonneg _ (by decide))
    have e2 : ((x % (2 ^ k : Nat)).toNat : Int) = x % (2 ^ k : Nat) := Int.toNat_of_nonneg (Int.emod_nonneg _ (by omega))
    apply Int.ofNat.inj
    show ((_ : Nat) : Int) = ((_ : Nat) : Int)
    rw [Int.natCast_emod, e1, e2, h64, Int.emod_emod_of_dvd _ (Int.dvd_mul_right _ _)]
  have hl : (x % ((2 ^ 64 : Nat) : Int)).toNat % 2 ^ k < 2 ^ k := Nat.mod_lt _ h0
  rw [key, wrap_nat (by omega), hm]
theorem and_mask_nat {a k : Nat} (hk : k ≤ 32) : bits .and .i64 (a : Int) ((2 ^ k - 1 : Nat) : Int) = ((a % 2 ^ k : Nat) : Int) := by
  rw [and_mask _ hk, ← Int.natCast_emod, Int.toNat_natCast]
theorem and_one {a : Nat} : bits .and .i64 (a : Int) 1 = ((a % 2 : Nat) : Int) := by
  have := and_mask_nat (a := a) (k := 1) (by decide)
  simpa using this
theorem inv_int {a : Nat} (ha : a < 2 ^ 63) : bits .xor .i64 (-1) (a : Int) = -1 - (a : Int) := by
  show IntKind.i64.wrap ((BitVec.ofInt 64 (-1) ^^^ BitVec.ofInt 64 (a : Int)).toNat : Int) = _
  have h1 : BitVec.ofInt 64 (-1) = BitVec.allOnes 64 := by decide
  rw [h1, BitVec.allOnes_xor, BitVec.toNat_not, ofInt_nat ha, IntKind.wrap_i64]
  omega
end VecM

namespace Go.Proofs.Ytmnblcnhbafcpaa
open Go.RowKit
open VecM

theorem run_max {op : Oper} {a : Act} (x y : Operand) (ats : Array TypeId) (ho : op.op = .call { callee := .builtin .max, args := #[x, y], argTypes := ats }) (m n : Int) (hx : a.eval x = .int .i64 m) (hy : a.eval y = .int .i64 n) :
    execOp a.eval op = pure (.value (.int .i64 (if n > m then n else m))) := by
  obtain ⟨dst, o, ty, pos, after, gd⟩ := op
  simp only at ho
  subst ho
  have e0 : execOp a.eval { dst := dst, op := .call { callee := .builtin .max, args := #[x, y], argTypes := ats }, type := ty, pos := pos, after := after, guard := gd } = (do pure (.value (← Builtin.max_ ats ty (#[x, y].map a.eval)))) := rfl
  rw [e0]
  have e : (#[x, y].map a.eval) = #[.int .i64 m, .int .i64 n] := by simp [hx, hy]
  rw [e]
  rfl
theorem run_min {op : Oper} {a : Act} (x y : Operand) (ats : Array TypeId) (ho : op.op = .call { callee := .builtin .min, args := #[x, y], argTypes := ats }) (m n : Int) (hx : a.eval x = .int .i64 m) (hy : a.eval y = .int .i64 n) :
    execOp a.eval op = pure (.value (.int .i64 (if n < m then n else m))) := by
  obtain ⟨dst, o, ty, pos, after, gd⟩ := op
  simp only at ho
  subst ho
  have e0 : execOp a.eval { dst := dst, op := .call { callee := .builtin .min, args := #[x, y], argTypes := ats }, type := ty, pos := pos, after := after, guard := gd } = (do pure (.value (← Builtin.min_ ats ty (#[x, y].map a.eval)))) := rfl
  rw [e0]
  have e : (#[x, y].map a.eval) = #[.int .i64 m, .int .i64 n] := by simp [hx, hy]
  rw [e]
  rfl
theorem wpList_max {P : Program} {ops : Array Oper} {rest : List Oper} {op : Oper} {a : Act} {w : World} {Q : Exit → Act → World → Prop} (hgd : op.guard = none) (x y : Operand) (ats : Array TypeId) (ho : op.op = .call { callee := .builtin .max, args := #[x, y], argTypes := ats }) (m n : Int) (hx : a.eval x = .int .i64 m) (hy : a.eval y = .int .i64 n) (k : Int) (hk : k = if n > m then n else m)
    (h : wpList P ops Q rest (a.put op.dst (.int .i64 k)) w) : wpList P ops Q (op :: rest) a w := by
  subst hk
  refine wpList_plain hgd fun _ hK => ?_
  unfold Oper.wp
  rw [run_max x y ats ho m n hx hy]
  exact hK _ _ h
theorem wpList_min {P : Program} {ops : Array Oper} {rest : List Oper} {op : Oper} {a : Act} {w : World} {Q : Exit → Act → World → Prop} (hgd : op.guard = none) (x y : Operand) (ats : Array TypeId) (ho : op.op = .call { callee := .builtin .min, args := #[x, y], argTypes := ats }) (m n : Int) (hx : a.eval x = .int .i64 m) (hy : a.eval y = .int .i64 n) (k : Int) (hk : k = if n < m then n else m)
    (h : wpList P ops Q rest (a.put op.dst (.int .i64 k)) w) : wpList P ops Q (op :: rest) a w := by
  subst hk
  refine wpList_plain hgd fun _ hK => ?_
  unfold Oper.wp
  rw [run_min x y ats ho m n hx hy]
  exact hK _ _ h

theorem near_any (k : Nat) (hk : k ≤ 32) (w : World) : Calls Try.prog 77 #[.int .i64 (k : Nat)] w fun e w' => e = .returned (.int .i64 (k : Nat)) ∧ w = w' := by
  go_enter Try.func77, Try.ntmps77
  go_wp2_with (first
    | (refine wpList_max rfl _ _ _ rfl (k : Nat) 0 rfl rfl (k : Nat) (by rw [if_neg (by omega)]) ?_)
    | (refine wpList_min rfl _ _ _ rfl (k : Nat) 32 rfl rfl (k : Nat) (by split <;> omega) ?_))
  go_ret
  exact ⟨rfl, rfl⟩
theorem pow_le32 {k : Nat} (hk : k ≤ 32) : 1 ≤ 2 ^ k ∧ 2 ^ k ≤ 4294967296 := ⟨Nat.one_le_two_pow, Nat.pow_le_pow_right (n := 2) (i := k) (j := 32) (by decide) hk⟩
theorem wrap_pow {k : Nat} (hk : k ≤ 32) : wrap64 ((2 : Int) ^ k) = ((2 ^ k : Nat) : Int) := by
  have h := pow_le32 hk
  have e : ((2 : Int) ^ k) = ((2 ^ k : Nat) : Int) := by simp
  rw [e]
  unfold wrap64
  omega
theorem count_any (k : Nat) (hk : k ≤ 32) (w : World) : Calls Try.prog 75 #[.int .i64 (k : Nat)] w fun e w' => e = .returned (.int .i64 ((2 ^ k : Nat) : Int)) ∧ w = w' := by
  have hs := wrap_pow hk
  go_enter Try.func75, Try.ntmps75
  go_wp2_with fail
  refine (near_any k hk w).mono ?_
  rintro e w1 ⟨rfl, rfl⟩
  go_wp2
  go_ret
  exact ⟨by rw [← hs]; rfl, rfl⟩
theorem Mask_any (k : Nat) (hk : k ≤ 32) (w : World) : Calls Try.prog 65 #[.int .i64 (k : Nat)] w fun e w' => e = .returned (.int .i64 ((2 ^ k - 1 : Nat) : Int)) ∧ w = w' := by
  have h := pow_le32 hk
  have hm : (((2 ^ k : Nat) : Int) - 1) = ((2 ^ k - 1 : Nat) : Int) := by omega
  go_enter Try.func65, Try.ntmps65
  go_wp2_with fail
  refine (count_any k hk w).mono ?_
  obtain ⟨m, em⟩ : ∃ m, 2 ^ k = m := ⟨_, rfl⟩
  rw [em] at hm h ⊢
  rintro e w1 ⟨rfl, rfl⟩
  have HM := Lib.hid hm
  have EM := Lib.hid em
  clear hm em
  go_wp2
  go_ret
  exact ⟨by show Ending.returned (.int .i64 ((m : Int) - 1)) = _; rw [HM.out, EM.out], rfl⟩
theorem RMask_any (k : Nat) (hk : k ≤ 32) (w : World) : Calls Try.prog 27 #[.int .i64 (k : Nat)] w fun e w' => e = .returned (.int .i64 ((2 ^ k - 1 : Nat) : Int)) ∧ w = w' := by
  have h := pow_le32 hk
  have hs : wrap64 (wrap64 ((2 : Int) ^ k) - 1) = ((2 ^ k - 1 : Nat) : Int) := by
    rw [wrap_pow hk]
    unfold wrap64
    omega
  have HS := Lib.hid hs
  clear hs
  go_enter Try.func27, Try.ntmps27
  go_wp2
  go_ret
  exact ⟨by show Ending.returned (.int .i64 (wrap64 (wrap64 ((2 : Int) ^ k) - 1))) = _; rw [HS.out], rfl⟩
theorem one_any (b : Bool) (w : World) : Calls Try.prog 56 #[.bool b] w fun e w' => e = .returned (.int .i64 (if b then 1 else 0)) ∧ w = w' := by
  cases b
  · go_enter Try.func56, Try.ntmps56
    go_wp2
    go_ret
    exact ⟨rfl, rfl⟩
  · go_enter Try.func56, Try.ntmps56
    go_wp2
    go_ret
    exact ⟨rfl, rfl⟩

/-! the closures -/
theorem c29 (a b : Int) (w : World) : Calls Try.prog 58 #[.int .i64 a, .int .i64 b] w fun e w' => e = .returned (.int .i64 (bits .xor .i64 (-1) a)) ∧ w = w' := by
  go_enter Try.func58, Try.ntmps58
  go_wp2
  go_ret
  exact ⟨rfl, rfl⟩
theorem c30 (a b : Int) (w : World) : Calls Try.prog 59 #[.int .i64 a, .int .i64 b] w fun e w' => e = .returned (.int .i64 (bits .and .i64 a b)) ∧ w = w' := by
  go_enter Try.func59, Try.ntmps59
  go_wp2
  go_ret
  exact ⟨rfl, rfl⟩
theorem c31 (a b : Int) (w : World) : Calls Try.prog 60 #[.int .i64 a, .int .i64 b] w fun e w' => e = .returned (.int .i64 (bits .or .i64 a b)) ∧ w = w' := by
  go_enter Try.func60, Try.ntmps60
  go_wp2
  go_ret
  exact ⟨rfl, rfl⟩
theorem c32 (a b : Int) (w : World) : Calls Try.prog 61 #[.int .i64 a, .int .i64 b] w fun e w' => e = .returned (.int .i64 (bits .xor .i64 a b)) ∧ w = w' := by
  go_enter Try.func61, Try.ntmps61
  go_wp2
  go_ret
  exact ⟨rfl, rfl⟩
theorem c33 (a b : Nat) (ha : a < 65536) (hb : b < 65536) (w : World) : Calls Try.prog 62 #[.int .i64 a, .int .i64 b] w fun e w' => e = .returned (.int .i64 ((a : Int) + b)) ∧ w = w' := by
  go_enter Try.func62, Try.ntmps62
  go_wp2
  go_ret
  exact ⟨rfl, rfl⟩
theorem c34 (a b : Nat) (ha : a < 65536) (hb : b < 65536) (w : World) : Calls Try.prog 63 #[.int .i64 a, .int .i64 b] w fun e w' => e = .returned (.int .i64 ((a : Int) - b)) ∧ w = w' := by
  go_enter Try.func63, Try.ntmps63
  go_wp2
  go_ret
  exact ⟨rfl, rfl⟩
theorem c35 (a b : Nat) (w : World) : Calls Try.prog 64 #[.int .i64 a, .int .i64 b] w fun e w' => e = .returned (.int .i64 (wrap64 ((a : Int) * b))) ∧ w = w' := by
  go_enter Try.func64, Try.ntmps64
  go_wp2
  go_ret
  exact ⟨rfl, rfl⟩
theorem c36 (a b m : Int) (w : World) : Calls Try.prog 66 #[.int .i64 a, .int .i64 b, .int .i64 m] w fun e w' => e = .returned (.bool (a != 0)) ∧ w = w' := by
  go_enter Try.func66, Try.ntmps66
  go_wp2
  go_ret
  exact ⟨rfl, rfl⟩
theorem c37 (a b m : Int) (w : World) : Calls Try.prog 67 #[.int .i64 a, .int .i64 b, .int .i64 m] w fun e w' => e = .returned (.bool (a == m)) ∧ w = w' := by
  go_enter Try.func67, Try.ntmps67
  go_wp2
  go_ret
  exact ⟨rfl, rfl⟩
theorem c38 (a b m : Int) (w : World) : Calls Try.prog 68 #[.int .i64 a, .int .i64 b, .int .i64 m] w fun e w' => e = .returned (.bool (a == b)) ∧ w = w' := by
  go_enter Try.func68, Try.ntmps68
  go_wp2
  go_ret
  exact ⟨rfl, rfl⟩
theorem c39 (a b m : Int) (w : World) : Calls Try.prog 69 #[.int .i64 a, .int .i64 b, .int .i64 m] w fun e w' => e = .returned (.bool (a != b)) ∧ w = w' := by
  go_enter Try.func69, Try.ntmps69
  go_wp2
  go_ret
  exact ⟨rfl, rfl⟩
theorem c40 (a b m : Int) (w : World) : Calls Try.prog 70 #[.int .i64 a, .int .i64 b, .int .i64 m] w fun e w' => e = .returned (.bool (decide (a < b))) ∧ w = w' := by
  go_enter Try.func70, Try.ntmps70
  go_wp2
  go_ret
  exact ⟨rfl, rfl⟩
theorem c41 (a b m : Int) (w : World) : Calls Try.prog 71 #[.int .i64 a, .int .i64 b, .int .i64 m] w fun e w' => e = .returned (.bool (decide (a ≤ b))) ∧ w = w' := by
  go_enter Try.func71, Try.ntmps71
  go_wp2
  go_ret
  exact ⟨rfl, rfl⟩

variable {xA xB xC : Int}
/-- a node -/
abbrev ndV (xA xB xC : Int) (op W N Lo : Nat) : Value := .agg #[.int .i64 (op : Nat), .int .i64 (W : Nat), .int .i64 xA, .int .i64 xB, .int .i64 xC, .int .i64 (N : Nat), .int .i64 (Lo : Nat)]
theorem bel_alloc (w : World) (o : Obj) : Below w.heap.size w (w.alloc o) := (Below.refl _ _).alloc (Nat.le_refl _) _
theorem Below.drewN {B : Nat} {a w : World} (h : Below B a w) (n : Nat) : Below B a (w.drewN n) := ⟨h.os, h.tape, h.output, h.size, h.block⟩
theorem c42 (op W N Lo : Nat) (a b c wb : Int) (w : World) : Calls Try.prog 72 #[ndV xA xB xC op W N Lo, .int .i64 a, .int .i64 b, .int .i64 c, .int .i64 wb] w fun e w' => e = .returned (.int .i64 (N : Nat)) ∧ Below w.heap.size w w' := by
  go_enter Try.func72, Try.ntmps72
  go_wp2
  go_ret
  exact ⟨rfl, bel_alloc _ _⟩
theorem c43 (op W N Lo a b c : Nat) (wb : Int) (w : World) : Calls Try.prog 73 #[ndV xA xB xC op W N Lo, .int .i64 a, .int .i64 b, .int .i64 c, .int .i64 wb] w fun e w' => e = .returned (.int .i64 ((if a = 1 then b else c : Nat) : Int)) ∧ Below w.heap.size w w' := by
  by_cases h : a = 1
  · subst h
    go_enter Try.func73, Try.ntmps73
    go_wp2
    go_ret
    exact ⟨rfl, bel_alloc _ _⟩
  · have h' : ((a : Int) == 1) = false := by simpa using fun e => h (by omega)
    rw [if_neg h]
    go_enter Try.func73, Try.ntmps73
    go_wp2
    go_ret
    exact ⟨rfl, bel_alloc _ _⟩
theorem c44 (op W N Lo a b wb : Nat) (c : Int) (ha : a < 65536) (hb : b < 65536) (hw : wb ≤ 16) (w : World) : Calls Try.prog 74 #[ndV xA xB xC op W N Lo, .int .i64 a, .int .i64 b, .int .i64 c, .int .i64 wb] w fun e w' => e = .returned (.int .i64 ((a * 2 ^ wb + b : Nat) : Int)) ∧ Below w.heap.size w w' := by
  have h1 : 2 ^ wb ≤ 65536 := Nat.pow_le_pow_right (n := 2) (i := wb) (j := 16) (by decide) hw
  have h2 : a * 2 ^ wb ≤ 65536 * 65536 := Nat.mul_le_mul (by omega) h1
  obtain ⟨m, em⟩ : ∃ m, 2 ^ wb = m := ⟨_, rfl⟩
  have HC := Lib.hid (show ∀ u, Calls Try.prog 75 #[.int .i64 (wb : Nat)] u fun e w' => e = .returned (.int .i64 (m : Nat)) ∧ u = w' from fun u => by rw [← em]; exact count_any wb (by omega) u)
  rw [em] at h1 h2 ⊢
  clear em
  have hp : (a : Int) * (m : Int) = ((a * m : Nat) : Int) := by simp
  have hs1 : wrap64 ((a : Int) * (m : Int)) = ((a * m : Nat) : Int) := by rw [hp]; unfold wrap64; omega
  generalize a * m = am at h2 hp hs1 ⊢
  go_enter Try.func74, Try.ntmps74
  go_wp2_with fail
  refine (HC.out _).mono ?_
  rintro e w1 ⟨rfl, rfl⟩
  go_wp2
  go_ret
  exact ⟨by rw [Int.natCast_add]; rfl, bel_alloc _ _⟩
theorem c45 (op W N Lo a : Nat) (b c wb : Int) (ha : a < 65536) (hW : W ≤ 16) (hL : Lo ≤ 16) (w : World) : Calls Try.prog 76 #[ndV xA xB xC op W N Lo, .int .i64 a, .int .i64 b, .int .i64 c, .int .i64 wb] w fun e w' => e = .returned (.int .i64 ((a / 2 ^ Lo % 2 ^ W : Nat) : Int)) ∧ Below w.heap.size w w' := by
  have h0 := Nat.two_pow_pos Lo
  have hm := and_mask_nat (a := a / 2 ^ Lo) (k := W) (by omega)
  obtain ⟨m, em⟩ : ∃ m, 2 ^ Lo = m := ⟨_, rfl⟩
  obtain ⟨q, eq⟩ : ∃ q, 2 ^ W - 1 = q := ⟨_, rfl⟩
  have HC := Lib.hid (show ∀ u, Calls Try.prog 75 #[.int .i64 (Lo : Nat)] u fun e w' => e = .returned (.int .i64 (m : Nat)) ∧ w' = u from fun u => by rw [← em]; exact (count_any Lo (by omega) u).mono fun e w' ⟨h1, h2⟩ => ⟨h1, h2.symm⟩)
  have HD := Lib.hid (show ∀ u, Calls Try.prog 65 #[.int .i64 (W : Nat)] u fun e w' => e = .returned (.int .i64 (q : Nat)) ∧ w' = u from fun u => by rw [← eq]; exact (Mask_any W (by omega) u).mono fun e w' ⟨h1, h2⟩ => ⟨h1, h2.symm⟩)
  rw [em] at h0 hm ⊢
  rw [eq] at hm
  have HM := Lib.hid hm
  clear em eq hm
  have HQ := Lib.hid (show (a : Int) / (m : Int) = ((a / m : Nat) : Int) by simp)
  have hm0 : ((m : Int) == 0) = false := by simpa using (by omega : m ≠ 0)
  go_enter Try.func76, Try.ntmps76
  go_wp2_with fail
  go_quiet (first
    | (go_at_call 75; exact Calls.quiet_of_same (HC.out _))
    | (go_at_call 65; exact Calls.quiet_of_same (HD.out _)))
  go_wp2
  go_ret
  have hr : bits .and .i64 (wrap64 ((a : Int) / (m : Int))) (q : Int) = ((a / m % 2 ^ W : Nat) : Int) := by
    have h1 : a / m ≤ a := Nat.div_le_self _ _
    have h2 : ∀ x : Nat, x < 65536 → wrap64 (x : Int) = (x : Int) := fun x hx => by unfold wrap64; omega
    rw [HQ.out, h2 _ (by omega), HM.out]
  exact ⟨by rw [← hr]; rfl, Below.drewN (bel_alloc _ _) _⟩
end Go.Proofs.Ytmnblcnhbafcpaa
