/-
  THE TABLES OF OPS: made, and asked.
-/
import Derived.Test.YtmnblcnhbafcpaaJ01
namespace Go.Proofs.Ytmnblcnhbafcpaa
open Go.RowKit
open VecM
variable {xA xB xC : Int}

theorem upd_any {T E : TypeId} (hT : Try.prog.underlying T = some (.map 3 E)) {W : World} {g : Nat} {es : Array MapEntry} {clock : Nat} (hb : W.heap[g]? = some (.map es clock)) (k : Int) (v : Value) (hf : Instr.findNow (.int .i64) (.int .i64 k) es.toList 0 = some none) :
    (Instr.mapUpdate T (.map (some g)) (.int .i64 k) v).run Try.prog W = (setObj g (.map (es.push ⟨.int .i64 k, v, clock⟩) (clock + 1))).run Try.prog W := by
  have hk : ∀ m, (Instr.checkKey false (m + 1) 3 (.int .i64 k)).run Try.prog W = .ok () W := fun m => by
    simp [Instr.checkKey, run_underlying Try.underlying3]
  have hk' : (Instr.checkKey false 10000 3 (.int .i64 k)).run Try.prog W = .ok () W := hk 9999
  have hg : (getObj g).run Try.prog W = .ok (.map es clock) W := by simp [getObj, Sem.run, hb]
  have hfk : (Instr.findKey 3 (.int .i64 k) es.toList).run Try.prog W = .ok none W := by
    unfold Instr.findKey
    simp only [Sem.run_bind, run_underlying Try.underlying3, Result.andThen_ok]
    rw [hf]
    rfl
  unfold Instr.mapUpdate
  simp only [Sem.run_bind, run_underlying hT, Result.andThen_ok]
  rw [hg]
  simp only [Result.andThen_ok, Sem.run_bind, hk', hfk]
theorem set_new (w : World) (es : Array MapEntry) (clock : Nat) (o' : Obj) : (setObj w.heap.size o').run Try.prog (w.alloc (.map es clock)) = .ok () (w.alloc o') := by
  unfold setObj Sem.run
  simp only [World.alloc]
  rw [Array.getElem?_push_size]
  have : (w.heap.push (.map es clock)).setIfInBounds w.heap.size o' = w.heap.push o' := by
    apply Array.ext_getElem?
    intro j
    rw [Array.getElem?_setIfInBounds, Array.getElem?_push, Array.getElem?_push]
    by_cases hj : w.heap.size = j
    · subst hj; simp
    · rw [if_neg hj, if_neg (fun e => hj e.symm), if_neg (fun e => hj e.symm)]
  rw [this]
  rfl
theorem heap_new (w : World) (o : Obj) : (w.alloc o).heap[w.heap.size]? = some o := by
  show (w.heap.push _)[w.heap.size]? = _
  simp
theorem upd_new {T E : TypeId} (hT : Try.prog.underlying T = some (.map 3 E)) (w : World) (g : Nat) (hg : g = w.heap.size) (es : Array MapEntry) (clock : Nat) (k : Int) (v : Value) (hf : Instr.findNow (.int .i64) (.int .i64 k) es.toList 0 = some none) :
    (Instr.mapUpdate T (.map (some g)) (.int .i64 k) v).run Try.prog (w.alloc (.map es clock)) = .ok () (w.alloc (.map (es.push ⟨.int .i64 k, v, clock⟩) (clock + 1))) := by
  subst hg
  rw [upd_any hT (heap_new w _) k v hf, set_new]
theorem look_new {T E : TypeId} (hT : Try.prog.underlying T = some (.map 3 E)) {z : Value} (hz : ∀ w, (zeroValue E).run Try.prog w = .ok z w) (w : World) (g : Nat) (hg : g = w.heap.size) (es : Array MapEntry) (clock : Nat) (k : Int) (r : Option (Nat × Value)) (hf : Instr.findNow (.int .i64) (.int .i64 k) es.toList 0 = some r) :
    (Instr.lookup T (.map (some g)) (.int .i64 k) true).run Try.prog (w.alloc (.map es clock)) = .ok (.tuple #[(r.map (·.2)).getD z, .bool r.isSome]) (w.alloc (.map es clock)) := by
  subst hg
  have hg : (getObj w.heap.size).run Try.prog (w.alloc (.map es clock)) = .ok (.map es clock) (w.alloc (.map es clock)) := by
    unfold getObj Sem.run
    simp only [heap_new]
    rfl
  have hk : ∀ b m W, (Instr.checkKey b (m + 1) 3 (.int .i64 k)).run Try.prog W = .ok () W := fun b m W => by
    simp [Instr.checkKey, run_underlying Try.underlying3]
  have hk' : ∀ b W, (Instr.checkKey b 10000 3 (.int .i64 k)).run Try.prog W = .ok () W := fun b W => hk b 9999 W
  have hfk : (Instr.findKey 3 (.int .i64 k) es.toList).run Try.prog (w.alloc (.map es clock)) = .ok r (w.alloc (.map es clock)) := by
    unfold Instr.findKey
    simp only [Sem.run_bind, run_underlying Try.underlying3, Result.andThen_ok]
    rw [hf]
    rfl
  unfold Instr.lookup
  simp only [Sem.run_bind, run_underlying hT, Result.andThen_ok]
  rw [hg]
  simp only [Result.andThen_ok, Sem.run_bind, Sem.run_pure, hk', hfk]
  rcases r with _ | ⟨j, v⟩
  · simp only [Sem.run_bind, hz, Result.andThen_ok, Sem.run_pure]
    rfl
  · simp only [Sem.run_bind, Result.andThen_ok, Sem.run_pure]
    rfl
theorem zero53 (w : World) : (zeroValue 85).run Try.prog w = .ok .nilFunc w := by kernel_rfl
theorem zero56 (w : World) : (zeroValue 88).run Try.prog w = .ok .nilFunc w := by kernel_rfl
theorem zero31 (w : World) : (zeroValue 76).run Try.prog w = .ok .nilFunc w := by kernel_rfl

/-- what is told of a number, by its width -/
theorem mask_up (x : Int) (y k : Nat) (hk : k ≤ 16) (h : (y : Int) = x + 65536) : bits .and .i64 x ((2 ^ k - 1 : Nat) : Int) = ((y % 2 ^ k : Nat) : Int) := by
  rw [and_mask _ (by omega)]
  have h0 := Nat.two_pow_pos k
  have e : (65536 : Int) = ((2 ^ k : Nat) : Int) * ((2 ^ (16 - k) : Nat) : Int) := by
    rw [← Int.natCast_mul, ← Nat.pow_add, show k + (16 - k) = 16 by omega]
    rfl
  rw [Int.toNat_of_nonneg (Int.emod_nonneg _ (by omega)), Int.natCast_emod, h, e, Int.add_mul_emod_self_left]


set_option maxRecDepth 100000 in
set_option maxHeartbeats 1000000 in
theorem rec_3 (W N Lo a b : Nat) (hW : W ≤ 16) (ha : a < 65536) (_hb : b < 65536) (w : World) : Calls Try.prog 53 #[ndV xA xB xC 3 W N Lo, .int .i64 a, .int .i64 b] w fun e w' => e = .returned (.tuple #[.int .i64 ((65535 - a) % 2 ^ W : Nat), .bool true]) ∧ Below w.heap.size w w' := by
  have hmm := @run_makeMap Try.prog
  have hm := mask_up (-1 - a) (65535 - a) W hW (by omega)
  rw [← inv_int (a := a) (by omega)] at hm
  obtain ⟨q, eq⟩ : ∃ q, 2 ^ W - 1 = q := ⟨_, rfl⟩
  have HD := Lib.hid (show ∀ u, Calls Try.prog 65 #[.int .i64 (W : Nat)] u fun e w' => e = .returned (.int .i64 (q : Nat)) ∧ w' = u from fun u => by rw [← eq]; exact (Mask_any W (by omega) u).mono fun e w' ⟨h1, h2⟩ => ⟨h1, h2.symm⟩)
  rw [eq] at hm
  have HM := Lib.hid hm
  clear eq hm
  go_enter Try.func53, Try.ntmps53
  go_wp2_with (first
    | (rw [upd_new Try.underlying86 _ _ (by simp) _ _ _ _ (by rfl)])
    | (rw [look_new Try.underlying86 zero53 _ _ (by simp) _ _ _ _ (by rfl)]))
  go_quiet (first
    | (go_at_call 58; exact Calls.quiet_of_same ((c29 a b _).mono fun e w' ⟨h1, h2⟩ => ⟨h1, h2.symm⟩))
    | (go_at_call 65; exact Calls.quiet_of_same (HD.out _)))
  go_wp2
  go_ret2
  exact ⟨by rw [← HM.out]; rfl, Below.drewN ((bel_alloc _ _).alloc (by simp) _) _⟩

set_option maxRecDepth 100000 in
set_option maxHeartbeats 1000000 in
theorem rec_6 (W N Lo a b : Nat) (hW : W ≤ 16) (ha : a < 65536) (hb : b < 65536) (w : World) : Calls Try.prog 53 #[ndV xA xB xC 6 W N Lo, .int .i64 a, .int .i64 b] w fun e w' => e = .returned (.tuple #[.int .i64 ((a &&& b) % 2 ^ W : Nat), .bool true]) ∧ Below w.heap.size w w' := by
  have hmm := @run_makeMap Try.prog
  have hm := and_mask_nat (a := a &&& b) (k := W) (by omega)
  rw [← and_nat (a := a) (b := b) (by omega) (by omega)] at hm
  obtain ⟨q, eq⟩ : ∃ q, 2 ^ W - 1 = q := ⟨_, rfl⟩
  have HD := Lib.hid (show ∀ u, Calls Try.prog 65 #[.int .i64 (W : Nat)] u fun e w' => e = .returned (.int .i64 (q : Nat)) ∧ w' = u from fun u => by rw [← eq]; exact (Mask_any W (by omega) u).mono fun e w' ⟨h1, h2⟩ => ⟨h1, h2.symm⟩)
  rw [eq] at hm
  have HM := Lib.hid hm
  clear eq hm
  go_enter Try.func53, Try.ntmps53
  go_wp2_with (first
    | (rw [upd_new Try.underlying86 _ _ (by simp) _ _ _ _ (by rfl)])
    | (rw [look_new Try.underlying86 zero53 _ _ (by simp) _ _ _ _ (by rfl)]))
  go_quiet (first
    | (go_at_call 59; exact Calls.quiet_of_same ((c30 a b _).mono fun e w' ⟨h1, h2⟩ => ⟨h1, h2.symm⟩))
    | (go_at_call 65; exact Calls.quiet_of_same (HD.out _)))
  go_wp2
  go_ret2
  exact ⟨by rw [← HM.out]; rfl, Below.drewN ((bel_alloc _ _).alloc (by simp) _) _⟩

set_option maxRecDepth 100000 in
set_option maxHeartbeats 1000000 in
theorem rec_7 (W N Lo a b : Nat) (hW : W ≤ 16) (ha : a < 65536) (hb : b < 65536) (w : World) : Calls Try.prog 53 #[ndV xA xB xC 7 W N Lo, .int .i64 a, .int .i64 b] w fun e w' => e = .returned (.tuple #[.int .i64 ((a ||| b) % 2 ^ W : Nat), .bool true]) ∧ Below w.heap.size w w' := by
  have hmm := @run_makeMap Try.prog
  have hm := and_mask_nat (a := a ||| b) (k := W) (by omega)
  rw [← or_nat (a := a) (b := b) (by omega) (by omega)] at hm
  obtain ⟨q, eq⟩ : ∃ q, 2 ^ W - 1 = q := ⟨_, rfl⟩
  have HD := Lib.hid (show ∀ u, Calls Try.prog 65 #[.int .i64 (W : Nat)] u fun e w' => e = .returned (.int .i64 (q : Nat)) ∧ w' = u from fun u => by rw [← eq]; exact (Mask_any W (by omega) u).mono fun e w' ⟨h1, h2⟩ => ⟨h1, h2.symm⟩)
  rw [eq] at hm
  have HM := Lib.hid hm
  clear eq hm
  go_enter Try.func53, Try.ntmps53
  go_wp2_with (first
    | (rw [upd_new Try.underlying86 _ _ (by simp) _ _ _ _ (by rfl)])
    | (rw [look_new Try.underlying86 zero53 _ _ (by simp) _ _ _ _ (by rfl)]))
  go_quiet (first
    | (go_at_call 60; exact Calls.quiet_of_same ((c31 a b _).mono fun e w' ⟨h1, h2⟩ => ⟨h1, h2.symm⟩))
    | (go_at_call 65; exact Calls.quiet_of_same (HD.out _)))
  go_wp2
  go_ret2
  exact ⟨by rw [← HM.out]; rfl, Below.drewN ((bel_alloc _ _).alloc (by simp) _) _⟩

set_option maxRecDepth 100000 in
set_option maxHeartbeats 1000000 in
theorem rec_8 (W N Lo a b : Nat) (hW : W ≤ 16) (ha : a < 65536) (hb : b < 65536) (w : World) : Calls Try.prog 53 #[ndV xA xB xC 8 W N Lo, .int .i64 a, .int .i64 b] w fun e w' => e = .returned (.tuple #[.int .i64 ((a ^^^ b) % 2 ^ W : Nat), .bool true]) ∧ Below w.heap.size w w' := by
  have hmm := @run_makeMap Try.prog
  have hm := and_mask_nat (a := a ^^^ b) (k := W) (by omega)
  rw [← xor_nat (a := a) (b := b) (by omega) (by omega)] at hm
  obtain ⟨q, eq⟩ : ∃ q, 2 ^ W - 1 = q := ⟨_, rfl⟩
  have HD := Lib.hid (show ∀ u, Calls Try.prog 65 #[.int .i64 (W : Nat)] u fun e w' => e = .returned (.int .i64 (q : Nat)) ∧ w' = u from fun u => by rw [← eq]; exact (Mask_any W (by omega) u).mono fun e w' ⟨h1, h2⟩ => ⟨h1, h2.symm⟩)
  rw [eq] at hm
  have HM := Lib.hid hm
  clear eq hm
  go_enter Try.func53, Try.ntmps53
  go_wp2_with (first
    | (rw [upd_new Try.underlying86 _ _ (by simp) _ _ _ _ (by rfl)])
    | (rw [look_new Try.underlying86 zero53 _ _ (by simp) _ _ _ _ (by rfl)]))
  go_quiet (first
    | (go_at_call 61; exact Calls.quiet_of_same ((c32 a b _).mono fun e w' ⟨h1, h2⟩ => ⟨h1, h2.symm⟩))
    | (go_at_call 65; exact Calls.quiet_of_same (HD.out _)))
  go_wp2
  go_ret2
  exact ⟨by rw [← HM.out]; rfl, Below.drewN ((bel_alloc _ _).alloc (by simp) _) _⟩

set_option maxRecDepth 100000 in
set_option maxHeartbeats 1000000 in
theorem rec_9 (W N Lo a b : Nat) (hW : W ≤ 16) (ha : a < 65536) (hb : b < 65536) (w : World) : Calls Try.prog 53 #[ndV xA xB xC 9 W N Lo, .int .i64 a, .int .i64 b] w fun e w' => e = .returned (.tuple #[.int .i64 ((a + b) % 2 ^ W : Nat), .bool true]) ∧ Below w.heap.size w w' := by
  have hmm := @run_makeMap Try.prog
  have hm := and_mask_nat (a := a + b) (k := W) (by omega)
  rw [Int.natCast_add] at hm
  obtain ⟨q, eq⟩ : ∃ q, 2 ^ W - 1 = q := ⟨_, rfl⟩
  have HD := Lib.hid (show ∀ u, Calls Try.prog 65 #[.int .i64 (W : Nat)] u fun e w' => e = .returned (.int .i64 (q : Nat)) ∧ w' = u from fun u => by rw [← eq]; exact (Mask_any W (by omega) u).mono fun e w' ⟨h1, h2⟩ => ⟨h1, h2.symm⟩)
  rw [eq] at hm
  have HM := Lib.hid hm
  clear eq hm
  go_enter Try.func53, Try.ntmps53
  go_wp2_with (first
    | (rw [upd_new Try.underlying86 _ _ (by simp) _ _ _ _ (by rfl)])
    | (rw [look_new Try.underlying86 zero53 _ _ (by simp) _ _ _ _ (by rfl)]))
  go_quiet (first
    | (go_at_call 62; exact Calls.quiet_of_same ((c33 a b ha hb _).mono fun e w' ⟨h1, h2⟩ => ⟨h1, h2.symm⟩))
    | (go_at_call 65; exact Calls.quiet_of_same (HD.out _)))
  go_wp2
  go_ret2
  exact ⟨by rw [← HM.out]; rfl, Below.drewN ((bel_alloc _ _).alloc (by simp) _) _⟩

set_option maxRecDepth 100000 in
set_option maxHeartbeats 1000000 in
theorem rec_10 (W N Lo a b : Nat) (hW : W ≤ 16) (ha : a < 65536) (hb : b < 65536) (w : World) : Calls Try.prog 53 #[ndV xA xB xC 10 W N Lo, .int .i64 a, .int .i64 b] w fun e w' => e = .returned (.tuple #[.int .i64 ((a + 65536 - b) % 2 ^ W : Nat), .bool true]) ∧ Below w.heap.size w w' := by
  have hmm := @run_makeMap Try.prog
  have hm := mask_up ((a : Int) - b) (a + 65536 - b) W hW (by omega)
  obtain ⟨q, eq⟩ : ∃ q, 2 ^ W - 1 = q := ⟨_, rfl⟩
  have HD := Lib.hid (show ∀ u, Calls Try.prog 65 #[.int .i64 (W : Nat)] u fun e w' => e = .returned (.int .i64 (q : Nat)) ∧ w' = u from fun u => by rw [← eq]; exact (Mask_any W (by omega) u).mono fun e w' ⟨h1, h2⟩ => ⟨h1, h2.symm⟩)
  rw [eq] at hm
  have HM := Lib.hid hm
  clear eq hm
  go_enter Try.func53, Try.ntmps53
  go_wp2_with (first
    | (rw [upd_new Try.underlying86 _ _ (by simp) _ _ _ _ (by rfl)])
    | (rw [look_new Try.underlying86 zero53 _ _ (by simp) _ _ _ _ (by rfl)]))
  go_quiet (first
    | (go_at_call 63; exact Calls.quiet_of_same ((c34 a b ha hb _).mono fun e w' ⟨h1, h2⟩ => ⟨h1, h2.symm⟩))
    | (go_at_call 65; exact Calls.quiet_of_same (HD.out _)))
  go_wp2
  go_ret2
  exact ⟨by rw [← HM.out]; rfl, Below.drewN ((bel_alloc _ _).alloc (by simp) _) _⟩

set_option maxRecDepth 100000 in
set_option maxHeartbeats 1000000 in
theorem rec_11 (W N Lo a b : Nat) (hW : W ≤ 16) (ha : a < 65536) (hb : b < 65536) (w : World) : Calls Try.prog 53 #[ndV xA xB xC 11 W N Lo, .int .i64 a, .int .i64 b] w fun e w' => e = .returned (.tuple #[.int .i64 ((a * b) % 2 ^ W : Nat), .bool true]) ∧ Below w.heap.size w w' := by
  have hmm := @run_makeMap Try.prog
  have hm := and_mask_nat (a := a * b) (k := W) (by omega)
  have hmul : wrap64 ((a : Int) * (b : Int)) = ((a * b : Nat) : Int) := by
    have h1 : a * b ≤ 65536 * 65536 := Nat.mul_le_mul (by omega) (by omega)
    rw [← Int.natCast_mul]
    generalize a * b = ab at h1
    unfold wrap64
    omega
  rw [← hmul] at hm
  obtain ⟨q, eq⟩ : ∃ q, 2 ^ W - 1 = q := ⟨_, rfl⟩
  have HD := Lib.hid (show ∀ u, Calls Try.prog 65 #[.int .i64 (W : Nat)] u fun e w' => e = .returned (.int .i64 (q : Nat)) ∧ w' = u from fun u => by rw [← eq]; exact (Mask_any W (by omega) u).mono fun e w' ⟨h1, h2⟩ => ⟨h1, h2.symm⟩)
  rw [eq] at hm
  have HM := Lib.hid hm
  clear eq hm hmul
  go_enter Try.func53, Try.ntmps53
  go_wp2_with (first
    | (rw [upd_new Try.underlying86 _ _ (by simp) _ _ _ _ (by rfl)])
    | (rw [look_new Try.underlying86 zero53 _ _ (by simp) _ _ _ _ (by rfl)]))
  go_quiet (first
    | (go_at_call 64; exact Calls.quiet_of_same ((c35 a b _).mono fun e w' ⟨h1, h2⟩ => ⟨h1, h2.symm⟩))
    | (go_at_call 65; exact Calls.quiet_of_same (HD.out _)))
  go_wp2
  go_ret2
  exact ⟨by rw [← HM.out]; rfl, Below.drewN ((bel_alloc _ _).alloc (by simp) _) _⟩

set_option maxRecDepth 100000 in
set_option maxHeartbeats 1000000 in
theorem rec_4 (W N Lo : Nat) (a b : Int) (w : World) : Calls Try.prog 53 #[ndV xA xB xC 4 W N Lo, .int .i64 a, .int .i64 b] w fun e w' => e = .returned (.tuple #[.int .i64 0, .bool false]) ∧ Below w.heap.size w w' := by
  have hmm := @run_makeMap Try.prog
  go_enter Try.func53, Try.ntmps53
  go_wp2_with (first
    | (rw [upd_new Try.underlying86 _ _ (by simp) _ _ _ _ (by rfl)])
    | (rw [look_new Try.underlying86 zero53 _ _ (by simp) _ _ _ _ (by rfl)]))
  go_ret2
  exact ⟨rfl, (bel_alloc _ _).alloc (by simp) _⟩

set_option maxRecDepth 100000 in
set_option maxHeartbeats 1000000 in
theorem rec_5 (W N Lo : Nat) (a b : Int) (w : World) : Calls Try.prog 53 #[ndV xA xB xC 5 W N Lo, .int .i64 a, .int .i64 b] w fun e w' => e = .returned (.tuple #[.int .i64 0, .bool false]) ∧ Below w.heap.size w w' := by
  have hmm := @run_makeMap Try.prog
  go_enter Try.func53, Try.ntmps53
  go_wp2_with (first
    | (rw [upd_new Try.underlying86 _ _ (by simp) _ _ _ _ (by rfl)])
    | (rw [look_new Try.underlying86 zero53 _ _ (by simp) _ _ _ _ (by rfl)]))
  go_ret2
  exact ⟨rfl, (bel_alloc _ _).alloc (by simp) _⟩

set_option maxRecDepth 100000 in
set_option maxHeartbeats 1000000 in
theorem rec_12 (W N Lo : Nat) (a b : Int) (w : World) : Calls Try.prog 53 #[ndV xA xB xC 12 W N Lo, .int .i64 a, .int .i64 b] w fun e w' => e = .returned (.tuple #[.int .i64 0, .bool false]) ∧ Below w.heap.size w w' := by
  have hmm := @run_makeMap Try.prog
  go_enter Try.func53, Try.ntmps53
  go_wp2_with (first
    | (rw [upd_new Try.underlying86 _ _ (by simp) _ _ _ _ (by rfl)])
    | (rw [look_new Try.underlying86 zero53 _ _ (by simp) _ _ _ _ (by rfl)]))
  go_ret2
  exact ⟨rfl, (bel_alloc _ _).alloc (by simp) _⟩

set_option maxRecDepth 100000 in
set_option maxHeartbeats 1000000 in
theorem rec_13 (W N Lo : Nat) (a b : Int) (w : World) : Calls Try.prog 53 #[ndV xA xB xC 13 W N Lo, .int .i64 a, .int .i64 b] w fun e w' => e = .returned (.tuple #[.int .i64 0, .bool false]) ∧ Below w.heap.size w w' := by
  have hmm := @run_makeMap Try.prog
  go_enter Try.func53, Try.ntmps53
  go_wp2_with (first
    | (rw [upd_new Try.underlying86 _ _ (by simp) _ _ _ _ (by rfl)])
    | (rw [look_new Try.underlying86 zero53 _ _ (by simp) _ _ _ _ (by rfl)]))
  go_ret2
  exact ⟨rfl, (bel_alloc _ _).alloc (by simp) _⟩

set_option maxRecDepth 100000 in
set_option maxHeartbeats 1000000 in
theorem rec_14 (W N Lo : Nat) (a b : Int) (w : World) : Calls Try.prog 53 #[ndV xA xB xC 14 W N Lo, .int .i64 a, .int .i64 b] w fun e w' => e = .returned (.tuple #[.int .i64 0, .bool false]) ∧ Below w.heap.size w w' := by
  have hmm := @run_makeMap Try.prog
  go_enter Try.func53, Try.ntmps53
  go_wp2_with (first
    | (rw [upd_new Try.underlying86 _ _ (by simp) _ _ _ _ (by rfl)])
    | (rw [look_new Try.underlying86 zero53 _ _ (by simp) _ _ _ _ (by rfl)]))
  go_ret2
  exact ⟨rfl, (bel_alloc _ _).alloc (by simp) _⟩

set_option maxRecDepth 100000 in
set_option maxHeartbeats 1000000 in
theorem rec_15 (W N Lo : Nat) (a b : Int) (w : World) : Calls Try.prog 53 #[ndV xA xB xC 15 W N Lo, .int .i64 a, .int .i64 b] w fun e w' => e = .returned (.tuple #[.int .i64 0, .bool false]) ∧ Below w.heap.size w w' := by
  have hmm := @run_makeMap Try.prog
  go_enter Try.func53, Try.ntmps53
  go_wp2_with (first
    | (rw [upd_new Try.underlying86 _ _ (by simp) _ _ _ _ (by rfl)])
    | (rw [look_new Try.underlying86 zero53 _ _ (by simp) _ _ _ _ (by rfl)]))
  go_ret2
  exact ⟨rfl, (bel_alloc _ _).alloc (by simp) _⟩

set_option maxRecDepth 100000 in
set_option maxHeartbeats 1000000 in
theorem rec_1 (W N Lo : Nat) (a b : Int) (w : World) : Calls Try.prog 53 #[ndV xA xB xC 1 W N Lo, .int .i64 a, .int .i64 b] w fun e w' => e = .returned (.tuple #[.int .i64 0, .bool false]) ∧ Below w.heap.size w w' := by
  have hmm := @run_makeMap Try.prog
  go_enter Try.func53, Try.ntmps53
  go_wp2_with (first
    | (rw [upd_new Try.underlying86 _ _ (by simp) _ _ _ _ (by rfl)])
    | (rw [look_new Try.underlying86 zero53 _ _ (by simp) _ _ _ _ (by rfl)]))
  go_ret2
  exact ⟨rfl, (bel_alloc _ _).alloc (by simp) _⟩

set_option maxRecDepth 100000 in
set_option maxHeartbeats 1000000 in
theorem rec_16 (W N Lo : Nat) (a b : Int) (w : World) : Calls Try.prog 53 #[ndV xA xB xC 16 W N Lo, .int .i64 a, .int .i64 b] w fun e w' => e = .returned (.tuple #[.int .i64 0, .bool false]) ∧ Below w.heap.size w w' := by
  have hmm := @run_makeMap Try.prog
  go_enter Try.func53, Try.ntmps53
  go_wp2_with (first
    | (rw [upd_new Try.underlying86 _ _ (by simp) _ _ _ _ (by rfl)])
    | (rw [look_new Try.underlying86 zero53 _ _ (by simp) _ _ _ _ (by rfl)]))
  go_ret2
  exact ⟨rfl, (bel_alloc _ _).alloc (by simp) _⟩

set_option maxRecDepth 100000 in
set_option maxHeartbeats 1000000 in
theorem rec_17 (W N Lo : Nat) (a b : Int) (w : World) : Calls Try.prog 53 #[ndV xA xB xC 17 W N Lo, .int .i64 a, .int .i64 b] w fun e w' => e = .returned (.tuple #[.int .i64 0, .bool false]) ∧ Below w.heap.size w w' := by
  have hmm := @run_makeMap Try.prog
  go_enter Try.func53, Try.ntmps53
  go_wp2_with (first
    | (rw [upd_new Try.underlying86 _ _ (by simp) _ _ _ _ (by rfl)])
    | (rw [look_new Try.underlying86 zero53 _ _ (by simp) _ _ _ _ (by rfl)]))
  go_ret2
  exact ⟨rfl, (bel_alloc _ _).alloc (by simp) _⟩

set_option maxRecDepth 100000 in
set_option maxHeartbeats 1000000 in
theorem rec_18 (W N Lo : Nat) (a b : Int) (w : World) : Calls Try.prog 53 #[ndV xA xB xC 18 W N Lo, .int .i64 a, .int .i64 b] w fun e w' => e = .returned (.tuple #[.int .i64 0, .bool false]) ∧ Below w.heap.size w w' := by
  have hmm := @run_makeMap Try.prog
  go_enter Try.func53, Try.ntmps53
  go_wp2_with (first
    | (rw [upd_new Try.underlying86 _ _ (by simp) _ _ _ _ (by rfl)])
    | (rw [look_new Try.underlying86 zero53 _ _ (by simp) _ _ _ _ (by rfl)]))
  go_ret2
  exact ⟨rfl, (bel_alloc _ _).alloc (by simp) _⟩

theorem tolb_4 (_Lo a _b : Nat) : (((a : Nat) : Int) != 0) = (!(a == 0)) := by
  rw [Bool.eq_iff_iff]
  simp
  try omega
set_option maxRecDepth 100000 in
set_option maxHeartbeats 1000000 in
theorem tol_4 (W N Lo a b : Nat) (hL : Lo ≤ 16) (w : World) : Calls Try.prog 54 #[ndV xA xB xC 4 W N Lo, .int .i64 a, .int .i64 b] w fun e w' => e = .returned (.tuple #[.bool (!(a == 0)), .bool true]) ∧ Below w.heap.size w w' := by
  have hmm := @run_makeMap Try.prog
  have hm := tolb_4 Lo a b
  obtain ⟨q, eq⟩ : ∃ q, 2 ^ Lo - 1 = q := ⟨_, rfl⟩
  have HD := Lib.hid (show ∀ u, Calls Try.prog 65 #[.int .i64 (Lo : Nat)] u fun e w' => e = .returned (.int .i64 (q : Nat)) ∧ u = w' from fun u => by rw [← eq]; exact Mask_any Lo (by omega) u)
  try rw [eq] at hm
  try rw [eq]
  have HC := Lib.hid (show ∀ u, Calls Try.prog 66 #[.int .i64 a, .int .i64 b, .int .i64 (q : Nat)] u fun e w' => e = .returned (.bool (!(a == 0))) ∧ u = w' from fun u => by rw [← hm]; exact c36 a b q u)
  clear eq hm
  generalize (!(a == 0)) = r at HC ⊢
  go_enter Try.func54, Try.ntmps54
  go_wp2_with (first
    | (rw [upd_new Try.underlying89 _ _ (by simp) _ _ _ _ (by rfl)])
    | (rw [look_new Try.underlying89 zero56 _ _ (by simp) _ _ _ _ (by rfl)]))
  refine (HD.out _).mono ?_
  rintro e w1 ⟨rfl, rfl⟩
  go_wp2_with fail
  refine (HC.out _).mono ?_
  rintro e w1 ⟨rfl, rfl⟩
  go_wp2
  go_ret2
  exact ⟨rfl, (bel_alloc _ _).alloc (by simp) _⟩

theorem tolb_5 (Lo a _b : Nat) : ((a : Int) == ((2 ^ Lo - 1 : Nat) : Int)) = (a == 2 ^ Lo - 1) := by
  rw [Bool.eq_iff_iff]
  simp
  try omega
set_option maxRecDepth 100000 in
set_option maxHeartbeats 1000000 in
theorem tol_5 (W N Lo a b : Nat) (hL : Lo ≤ 16) (w : World) : Calls Try.prog 54 #[ndV xA xB xC 5 W N Lo, .int .i64 a, .int .i64 b] w fun e w' => e = .returned (.tuple #[.bool (a == 2 ^ Lo - 1), .bool true]) ∧ Below w.heap.size w w' := by
  have hmm := @run_makeMap Try.prog
  have hm := tolb_5 Lo a b
  obtain ⟨q, eq⟩ : ∃ q, 2 ^ Lo - 1 = q := ⟨_, rfl⟩
  have HD := Lib.hid (show ∀ u, Calls Try.prog 65 #[.int .i64 (Lo : Nat)] u fun e w' => e = .returned (.int .i64 (q : Nat)) ∧ u = w' from fun u => by rw [← eq]; exact Mask_any Lo (by omega) u)
  try rw [eq] at hm
  try rw [eq]
  have HC := Lib.hid (show ∀ u, Calls Try.prog 67 #[.int .i64 a, .int .i64 b, .int .i64 (q : Nat)] u fun e w' => e = .returned (.bool (a == q)) ∧ u = w' from fun u => by rw [← hm]; exact c37 a b q u)
  clear eq hm
  generalize (a == q) = r at HC ⊢
  go_enter Try.func54, Try.ntmps54
  go_wp2_with (first
    | (rw [upd_new Try.underlying89 _ _ (by simp) _ _ _ _ (by rfl)])
    | (rw [look_new Try.underlying89 zero56 _ _ (by simp) _ _ _ _ (by rfl)]))
  refine (HD.out _).mono ?_
  rintro e w1 ⟨rfl, rfl⟩
  go_wp2_with fail
  refine (HC.out _).mono ?_
  rintro e w1 ⟨rfl, rfl⟩
  go_wp2
  go_ret2
  exact ⟨rfl, (bel_alloc _ _).alloc (by simp) _⟩

theorem tolb_12 (_Lo a b : Nat) : ((a : Int) == (b : Int)) = (a == b) := by
  rw [Bool.eq_iff_iff]
  simp
  try omega
set_option maxRecDepth 100000 in
set_option maxHeartbeats 1000000 in
theorem tol_12 (W N Lo a b : Nat) (hL : Lo ≤ 16) (w : World) : Calls Try.prog 54 #[ndV xA xB xC 12 W N Lo, .int .i64 a, .int .i64 b] w fun e w' => e = .returned (.tuple #[.bool (a == b), .bool true]) ∧ Below w.heap.size w w' := by
  have hmm := @run_makeMap Try.prog
  have hm := tolb_12 Lo a b
  obtain ⟨q, eq⟩ : ∃ q, 2 ^ Lo - 1 = q := ⟨_, rfl⟩
  have HD := Lib.hid (show ∀ u, Calls Try.prog 65 #[.int .i64 (Lo : Nat)] u fun e w' => e = .returned (.int .i64 (q : Nat)) ∧ u = w' from fun u => by rw [← eq]; exact Mask_any Lo (by omega) u)
  try rw [eq] at hm
  try rw [eq]
  have HC := Lib.hid (show ∀ u, Calls Try.prog 68 #[.int .i64 a, .int .i64 b, .int .i64 (q : Nat)] u fun e w' => e = .returned (.bool (a == b)) ∧ u = w' from fun u => by rw [← hm]; exact c38 a b q u)
  clear eq hm
  generalize (a == b) = r at HC ⊢
  go_enter Try.func54, Try.ntmps54
  go_wp2_with (first
    | (rw [upd_new Try.underlying89 _ _ (by simp) _ _ _ _ (by rfl)])
    | (rw [look_new Try.underlying89 zero56 _ _ (by simp) _ _ _ _ (by rfl)]))
  refine (HD.out _).mono ?_
  rintro e w1 ⟨rfl, rfl⟩
  go_wp2_with fail
  refine (HC.out _).mono ?_
  rintro e w1 ⟨rfl, rfl⟩
  go_wp2
  go_ret2
  exact ⟨rfl, (bel_alloc _ _).alloc (by simp) _⟩

theorem tolb_13 (_Lo a b : Nat) : ((a : Int) != (b : Int)) = (!(a == b)) := by
  rw [Bool.eq_iff_iff]
  simp
  try omega
set_option maxRecDepth 100000 in
set_option maxHeartbeats 1000000 in
theorem tol_13 (W N Lo a b : Nat) (hL : Lo ≤ 16) (w : World) : Calls Try.prog 54 #[ndV xA xB xC 13 W N Lo, .int .i64 a, .int .i64 b] w fun e w' => e = .returned (.tuple #[.bool (!(a == b)), .bool true]) ∧ Below w.heap.size w w' := by
  have hmm := @run_makeMap Try.prog
  have hm := tolb_13 Lo a b
  obtain ⟨q, eq⟩ : ∃ q, 2 ^ Lo - 1 = q := ⟨_, rfl⟩
  have HD := Lib.hid (show ∀ u, Calls Try.prog 65 #[.int .i64 (Lo : Nat)] u fun e w' => e = .returned (.int .i64 (q : Nat)) ∧ u = w' from fun u => by rw [← eq]; exact Mask_any Lo (by omega) u)
  try rw [eq] at hm
  try rw [eq]
  have HC := Lib.hid (show ∀ u, Calls Try.prog 69 #[.int .i64 a, .int .i64 b, .int .i64 (q : Nat)] u fun e w' => e = .returned (.bool (!(a == b))) ∧ u = w' from fun u => by rw [← hm]; exact c39 a b q u)
  clear eq hm
  generalize (!(a == b)) = r at HC ⊢
  go_enter Try.func54, Try.ntmps54
  go_wp2_with (first
    | (rw [upd_new Try.underlying89 _ _ (by simp) _ _ _ _ (by rfl)])
    | (rw [look_new Try.underlying89 zero56 _ _ (by simp) _ _ _ _ (by rfl)]))
  refine (HD.out _).mono ?_
  rintro e w1 ⟨rfl, rfl⟩
  go_wp2_with fail
  refine (HC.out _).mono ?_
  rintro e w1 ⟨rfl, rfl⟩
  go_wp2
  go_ret2
  exact ⟨rfl, (bel_alloc _ _).alloc (by simp) _⟩

theorem tolb_14 (_Lo a b : Nat) : decide ((a : Int) < (b : Int)) = (decide (a < b)) := by
  rw [Bool.eq_iff_iff]
  simp
  try omega
set_option maxRecDepth 100000 in
set_option maxHeartbeats 1000000 in
theorem tol_14 (W N Lo a b : Nat) (hL : Lo ≤ 16) (w : World) : Calls Try.prog 54 #[ndV xA xB xC 14 W N Lo, .int .i64 a, .int .i64 b] w fun e w' => e = .returned (.tuple #[.bool (decide (a < b)), .bool true]) ∧ Below w.heap.size w w' := by
  have hmm := @run_makeMap Try.prog
  have hm := tolb_14 Lo a b
  obtain ⟨q, eq⟩ : ∃ q, 2 ^ Lo - 1 = q := ⟨_, rfl⟩
  have HD := Lib.hid (show ∀ u, Calls Try.prog 65 #[.int .i64 (Lo : Nat)] u fun e w' => e = .returned (.int .i64 (q : Nat)) ∧ u = w' from fun u => by rw [← eq]; exact Mask_any Lo (by omega) u)
  try rw [eq] at hm
  try rw [eq]
  have HC := Lib.hid (show ∀ u, Calls Try.prog 70 #[.int .i64 a, .int .i64 b, .int .i64 (q : Nat)] u fun e w' => e = .returned (.bool (decide (a < b))) ∧ u = w' from fun u => by rw [← hm]; exact c40 a b q u)
  clear eq hm
  generalize (decide (a < b)) = r at HC ⊢
  go_enter Try.func54, Try.ntmps54
  go_wp2_with (first
    | (rw [upd_new Try.underlying89 _ _ (by simp) _ _ _ _ (by rfl)])
    | (rw [look_new Try.underlying89 zero56 _ _ (by simp) _ _ _ _ (by rfl)]))
  refine (HD.out _).mono ?_
  rintro e w1 ⟨rfl, rfl⟩
  go_wp2_with fail
  refine (HC.out _).mono ?_
  rintro e w1 ⟨rfl, rfl⟩
  go_wp2
  go_ret2
  exact ⟨rfl, (bel_alloc _ _).alloc (by simp) _⟩

theorem tolb_15 (_Lo a b : Nat) : decide ((a : Int) ≤ (b : Int)) = (decide (a ≤ b)) := by
  rw [Bool.eq_iff_iff]
  simp
  try omega
set_option maxRecDepth 100000 in
set_option maxHeartbeats 1000000 in
theorem tol_15 (W N Lo a b : Nat) (hL : Lo ≤ 16) (w : World) : Calls Try.prog 54 #[ndV xA xB xC 15 W N Lo, .int .i64 a, .int .i64 b] w fun e w' => e = .returned (.tuple #[.bool (decide (a ≤ b)), .bool true]) ∧ Below w.heap.size w w' := by
  have hmm := @run_makeMap Try.prog
  have hm := tolb_15 Lo a b
  obtain ⟨q, eq⟩ : ∃ q, 2 ^ Lo - 1 = q := ⟨_, rfl⟩
  have HD := Lib.hid (show ∀ u, Calls Try.prog 65 #[.int .i64 (Lo : Nat)] u fun e w' => e = .returned (.int .i64 (q : Nat)) ∧ u = w' from fun u => by rw [← eq]; exact Mask_any Lo (by omega) u)
  try rw [eq] at hm
  try rw [eq]
  have HC := Lib.hid (show ∀ u, Calls Try.prog 71 #[.int .i64 a, .int .i64 b, .int .i64 (q : Nat)] u fun e w' => e = .returned (.bool (decide (a ≤ b))) ∧ u = w' from fun u => by rw [← hm]; exact c41 a b q u)
  clear eq hm
  generalize (decide (a ≤ b)) = r at HC ⊢
  go_enter Try.func54, Try.ntmps54
  go_wp2_with (first
    | (rw [upd_new Try.underlying89 _ _ (by simp) _ _ _ _ (by rfl)])
    | (rw [look_new Try.underlying89 zero56 _ _ (by simp) _ _ _ _ (by rfl)]))
  refine (HD.out _).mono ?_
  rintro e w1 ⟨rfl, rfl⟩
  go_wp2_with fail
  refine (HC.out _).mono ?_
  rintro e w1 ⟨rfl, rfl⟩
  go_wp2
  go_ret2
  exact ⟨rfl, (bel_alloc _ _).alloc (by simp) _⟩

set_option maxRecDepth 100000 in
set_option maxHeartbeats 1000000 in
theorem tol_1 (W N Lo : Nat) (a b : Int) (w : World) : Calls Try.prog 54 #[ndV xA xB xC 1 W N Lo, .int .i64 a, .int .i64 b] w fun e w' => e = .returned (.tuple #[.bool false, .bool false]) ∧ Below w.heap.size w w' := by
  have hmm := @run_makeMap Try.prog
  go_enter Try.func54, Try.ntmps54
  go_wp2_with (first
    | (rw [upd_new Try.underlying89 _ _ (by simp) _ _ _ _ (by rfl)])
    | (rw [look_new Try.underlying89 zero56 _ _ (by simp) _ _ _ _ (by rfl)]))
  go_ret2
  exact ⟨rfl, (bel_alloc _ _).alloc (by simp) _⟩

set_option maxRecDepth 100000 in
set_option maxHeartbeats 1000000 in
theorem tol_16 (W N Lo : Nat) (a b : Int) (w : World) : Calls Try.prog 54 #[ndV xA xB xC 16 W N Lo, .int .i64 a, .int .i64 b] w fun e w' => e = .returned (.tuple #[.bool false, .bool false]) ∧ Below w.heap.size w w' := by
  have hmm := @run_makeMap Try.prog
  go_enter Try.func54, Try.ntmps54
  go_wp2_with (first
    | (rw [upd_new Try.underlying89 _ _ (by simp) _ _ _ _ (by rfl)])
    | (rw [look_new Try.underlying89 zero56 _ _ (by simp) _ _ _ _ (by rfl)]))
  go_ret2
  exact ⟨rfl, (bel_alloc _ _).alloc (by simp) _⟩

set_option maxRecDepth 100000 in
set_option maxHeartbeats 1000000 in
theorem tol_17 (W N Lo : Nat) (a b : Int) (w : World) : Calls Try.prog 54 #[ndV xA xB xC 17 W N Lo, .int .i64 a, .int .i64 b] w fun e w' => e = .returned (.tuple #[.bool false, .bool false]) ∧ Below w.heap.size w w' := by
  have hmm := @run_makeMap Try.prog
  go_enter Try.func54, Try.ntmps54
  go_wp2_with (first
    | (rw [upd_new Try.underlying89 _ _ (by simp) _ _ _ _ (by rfl)])
    | (rw [look_new Try.underlying89 zero56 _ _ (by simp) _ _ _ _ (by rfl)]))
  go_ret2
  exact ⟨rfl, (bel_alloc _ _).alloc (by simp) _⟩

set_option maxRecDepth 100000 in
set_option maxHeartbeats 1000000 in
theorem tol_18 (W N Lo : Nat) (a b : Int) (w : World) : Calls Try.prog 54 #[ndV xA xB xC 18 W N Lo, .int .i64 a, .int .i64 b] w fun e w' => e = .returned (.tuple #[.bool false, .bool false]) ∧ Below w.heap.size w w' := by
  have hmm := @run_makeMap Try.prog
  go_enter Try.func54, Try.ntmps54
  go_wp2_with (first
    | (rw [upd_new Try.underlying89 _ _ (by simp) _ _ _ _ (by rfl)])
    | (rw [look_new Try.underlying89 zero56 _ _ (by simp) _ _ _ _ (by rfl)]))
  go_ret2
  exact ⟨rfl, (bel_alloc _ _).alloc (by simp) _⟩

set_option maxRecDepth 100000 in
set_option maxHeartbeats 1000000 in
theorem pla_1 (W N Lo a b c wb : Nat) (_hW : W ≤ 16) (_hL : Lo ≤ 16) (_hwb : wb ≤ 16) (_ha : a < 65536) (_hb : b < 65536) (w : World) : Calls Try.prog 55 #[ndV xA xB xC 1 W N Lo, .int .i64 a, .int .i64 b, .int .i64 c, .int .i64 wb] w fun e w' => e = .returned (.int .i64 (N : Nat)) ∧ Below w.heap.size w w' := by
  have hmm := @run_makeMap Try.prog
  have HC := Lib.hid (show ∀ u, Calls Try.prog 72 #[ndV xA xB xC 1 W N Lo, .int .i64 a, .int .i64 b, .int .i64 c, .int .i64 wb] u fun e w' => e = .returned (.int .i64 (N : Nat)) ∧ Below u.heap.size u w' from fun u => c42 1 W N Lo a b c wb u)
  go_enter Try.func55, Try.ntmps55
  go_wp2_with (first
    | (rw [upd_new Try.underlying91 _ _ (by simp) _ _ _ _ (by rfl)])
    | (rw [look_new Try.underlying91 zero31 _ _ (by simp) _ _ _ _ (by rfl)]))
  refine (HC.out _).mono ?_
  rintro e w1 ⟨rfl, hb1⟩
  have HB := Lib.hid hb1
  clear hb1
  go_wp2
  go_ret
  exact ⟨rfl, ((bel_alloc _ _).alloc (by simp) _).trans (HB.out.mono (by simp; omega))⟩

set_option maxRecDepth 100000 in
set_option maxHeartbeats 1000000 in
theorem pla_16 (W N Lo a b c wb : Nat) (_hW : W ≤ 16) (_hL : Lo ≤ 16) (_hwb : wb ≤ 16) (_ha : a < 65536) (_hb : b < 65536) (w : World) : Calls Try.prog 55 #[ndV xA xB xC 16 W N Lo, .int .i64 a, .int .i64 b, .int .i64 c, .int .i64 wb] w fun e w' => e = .returned (.int .i64 (if a = 1 then b else c : Nat)) ∧ Below w.heap.size w w' := by
  have hmm := @run_makeMap Try.prog
  have HC := Lib.hid (show ∀ u, Calls Try.prog 73 #[ndV xA xB xC 16 W N Lo, .int .i64 a, .int .i64 b, .int .i64 c, .int .i64 wb] u fun e w' => e = .returned (.int .i64 (if a = 1 then b else c : Nat)) ∧ Below u.heap.size u w' from fun u => c43 16 W N Lo a b c wb u)
  generalize (if a = 1 then b else c : Nat) = r at HC ⊢
  go_enter Try.func55, Try.ntmps55
  go_wp2_with (first
    | (rw [upd_new Try.underlying91 _ _ (by simp) _ _ _ _ (by rfl)])
    | (rw [look_new Try.underlying91 zero31 _ _ (by simp) _ _ _ _ (by rfl)]))
  refine (HC.out _).mono ?_
  rintro e w1 ⟨rfl, hb1⟩
  have HB := Lib.hid hb1
  clear hb1
  go_wp2
  go_ret
  exact ⟨rfl, ((bel_alloc _ _).alloc (by simp) _).trans (HB.out.mono (by simp; omega))⟩

set_option maxRecDepth 100000 in
set_option maxHeartbeats 1000000 in
theorem pla_17 (W N Lo a b c wb : Nat) (_hW : W ≤ 16) (_hL : Lo ≤ 16) (hwb : wb ≤ 16) (ha : a < 65536) (hb : b < 65536) (w : World) : Calls Try.prog 55 #[ndV xA xB xC 17 W N Lo, .int .i64 a, .int .i64 b, .int .i64 c, .int .i64 wb] w fun e w' => e = .returned (.int .i64 (a * 2 ^ wb + b : Nat)) ∧ Below w.heap.size w w' := by
  have hmm := @run_makeMap Try.prog
  have HC := Lib.hid (show ∀ u, Calls Try.prog 74 #[ndV xA xB xC 17 W N Lo, .int .i64 a, .int .i64 b, .int .i64 c, .int .i64 wb] u fun e w' => e = .returned (.int .i64 (a * 2 ^ wb + b : Nat)) ∧ Below u.heap.size u w' from fun u => c44 17 W N Lo a b wb c ha hb hwb u)
  generalize (a * 2 ^ wb + b : Nat) = r at HC ⊢
  go_enter Try.func55, Try.ntmps55
  go_wp2_with (first
    | (rw [upd_new Try.underlying91 _ _ (by simp) _ _ _ _ (by rfl)])
    | (rw [look_new Try.underlying91 zero31 _ _ (by simp) _ _ _ _ (by rfl)]))
  refine (HC.out _).mono ?_
  rintro e w1 ⟨rfl, hb1⟩
  have HB := Lib.hid hb1
  clear hb1
  go_wp2
  go_ret
  exact ⟨rfl, ((bel_alloc _ _).alloc (by simp) _).trans (HB.out.mono (by simp; omega))⟩

set_option maxRecDepth 100000 in
set_option maxHeartbeats 1000000 in
theorem pla_18 (W N Lo a b c wb : Nat) (hW : W ≤ 16) (hL : Lo ≤ 16) (_hwb : wb ≤ 16) (ha : a < 65536) (_hb : b < 65536) (w : World) : Calls Try.prog 55 #[ndV xA xB xC 18 W N Lo, .int .i64 a, .int .i64 b, .int .i64 c, .int .i64 wb] w fun e w' => e = .returned (.int .i64 (a / 2 ^ Lo % 2 ^ W : Nat)) ∧ Below w.heap.size w w' := by
  have hmm := @run_makeMap Try.prog
  have HC := Lib.hid (show ∀ u, Calls Try.prog 76 #[ndV xA xB xC 18 W N Lo, .int .i64 a, .int .i64 b, .int .i64 c, .int .i64 wb] u fun e w' => e = .returned (.int .i64 (a / 2 ^ Lo % 2 ^ W : Nat)) ∧ Below u.heap.size u w' from fun u => c45 18 W N Lo a b c wb ha hW hL u)
  generalize (a / 2 ^ Lo % 2 ^ W : Nat) = r at HC ⊢
  go_enter Try.func55, Try.ntmps55
  go_wp2_with (first
    | (rw [upd_new Try.underlying91 _ _ (by simp) _ _ _ _ (by rfl)])
    | (rw [look_new Try.underlying91 zero31 _ _ (by simp) _ _ _ _ (by rfl)]))
  refine (HC.out _).mono ?_
  rintro e w1 ⟨rfl, hb1⟩
  have HB := Lib.hid hb1
  clear hb1
  go_wp2
  go_ret
  exact ⟨rfl, ((bel_alloc _ _).alloc (by simp) _).trans (HB.out.mono (by simp; omega))⟩
end Go.Proofs.Ytmnblcnhbafcpaa
