/-
  VecSums, WALKED.
-/
import Derived.Test.YtfnamjnggmndmaaVOrd
namespace Go.Proofs.Ytfnamjnggmndmaa
open Go.RowKit
open VecM

theorem sum_sub {x y k : Nat} (hk : k ≤ 16) (hx : x < 2 ^ k) (hy : y < 2 ^ k) : ((x + y) % 2 ^ k + 65536 - y) % 2 ^ k = x := by
  have h : 65536 = 2 ^ k * 2 ^ (16 - k) := by rw [← Nat.pow_add, show k + (16 - k) = 16 by omega]
  have h1 : 1 ≤ 2 ^ (16 - k) := Nat.one_le_two_pow
  have h2 : 2 ^ k * 2 ^ (16 - k) = 2 ^ k * (2 ^ (16 - k) - 1) + 2 ^ k := by
    conv => lhs; rw [show 2 ^ (16 - k) = (2 ^ (16 - k) - 1) + 1 by omega, Nat.mul_add, Nat.mul_one]
  have h3 : (x + y) % 2 ^ k = x + y ∨ (x + y) % 2 ^ k + 2 ^ k = x + y := by
    by_cases h : x + y < 2 ^ k
    · exact .inl (Nat.mod_eq_of_lt h)
    · right
      rw [Nat.mod_eq_sub_mod (by omega), Nat.mod_eq_of_lt (by omega)]
      omega
  rcases h3 with h3 | h3
  · rw [h3, show x + y + 65536 - y = x + 2 ^ k * 2 ^ (16 - k) by omega, Nat.add_mul_mod_self_left, Nat.mod_eq_of_lt hx]
  · rw [show (x + y) % 2 ^ k + 65536 - y = x + 2 ^ k * (2 ^ (16 - k) - 1) by omega, Nat.add_mul_mod_self_left, Nat.mod_eq_of_lt hx]
theorem sub_self {x k : Nat} (hk : k ≤ 16) : (x + 65536 - x) % 2 ^ k = 0 := by
  have h : 65536 = 2 ^ k * 2 ^ (16 - k) := by rw [← Nat.pow_add, show k + (16 - k) = 16 by omega]
  rw [show x + 65536 - x = 65536 by omega, h, Nat.mul_mod_right]

theorem DoIs.c {nd a b c wb r : Value} (h : DoIs nd a b c wb r) (u : World) : Calls Try.prog 12 #[nd, a, b, c, wb] u fun e w' => e = .returned r ∧ Below u.heap.size u w' := h u
abbrev Gr (w w' : World) : Prop := Below w.heap.size w w'
theorem Gr.trans {a b c : World} (h : Gr a b) (k : Gr b c) : Gr a c := Below.trans h (k.mono h.size)
theorem Gr.drew (w : World) : Gr w w.drew := Below.drew (Below.refl _ _)
theorem Gr.refl (w : World) : Gr w w := Below.refl _ _
/-- a node lies there -/
abbrev Nd7 (u : World) (g op W Lo : Nat) : Prop := u.cell? ⟨g, 0, none⟩ = some (.int .i64 (op : Nat)) ∧ u.cell? ⟨g, 1, none⟩ = some (.int .i64 (W : Nat)) ∧ u.cell? ⟨g, 2, none⟩ = some (.int .i64 0) ∧ u.cell? ⟨g, 3, none⟩ = some (.int .i64 0) ∧ u.cell? ⟨g, 4, none⟩ = some (.int .i64 0) ∧ u.cell? ⟨g, 5, none⟩ = some (.int .i64 0) ∧ u.cell? ⟨g, 6, none⟩ = some (.int .i64 (Lo : Nat))

set_option maxRecDepth 100000 in
set_option maxHeartbeats 4000000 in
theorem sums_walk (a b wd : Nat) (ha : a < 65536) (hb : b < 65536) (hwd : wd < 256) (w : World) :
    Calls Try.prog 5 #[.int .u16 (a : Nat), .int .u16 (b : Nat), .int .u8 (wd : Nat)] w fun e w' => e = .returned (.bool true) ∧ Below w.heap.size w w' := by
  obtain ⟨k, hk, hk16⟩ : ∃ k, wd % 16 + 1 = k ∧ k ≤ 16 := ⟨_, rfl, by omega⟩
  have hkI : (wd : Int) % 16 + 1 = (k : Int) := by omega
  obtain ⟨q, hq⟩ : ∃ q, 2 ^ k - 1 = q := ⟨_, rfl⟩
  have RM := Lib.hid (rmask_is (by omega) hq)
  have hx := and_mask_nat (a := a) (k := k) (by omega)
  have hy := and_mask_nat (a := b) (k := k) (by omega)
  have h2 := and_mask_nat (a := 2) (k := k) (by omega)
  have hx1 := mod_lt16 a k hk16
  have hy1 := mod_lt16 b k hk16
  have h21 := mod_lt16 2 k hk16
  have hx2 := Nat.mod_lt a (Nat.two_pow_pos k)
  have hy2 := Nat.mod_lt b (Nat.two_pow_pos k)
  rw [hq] at hx hy h2
  generalize a % 2 ^ k = x at hx hx1 hx2
  generalize b % 2 ^ k = y at hy hy1 hy2
  obtain ⟨t, ht⟩ : ∃ t, 2 % 2 ^ k = t := ⟨_, rfl⟩
  rw [ht] at h2 h21
  replace h2 : bits .and .i64 2 (q : Int) = (t : Int) := h2
  obtain ⟨s, hs⟩ : ∃ s, (x + y) % 2 ^ k = s := ⟨_, rfl⟩
  have hs1 : s < 65536 := by rw [← hs]; exact mod_lt16 _ _ hk16
  have m1 := sum_sub hk16 hx2 hy2
  rw [hs] at m1
  have m2 : (y + x) % 2 ^ k = s := by rw [Nat.add_comm]; exact hs
  have m3 : (x + 0) % 2 ^ k = x := by rw [Nat.add_zero]; exact Nat.mod_eq_of_lt hx2
  have m4 := sub_self (x := x) hk16
  obtain ⟨d, hd⟩ : ∃ d, (x + x) % 2 ^ k = d := ⟨_, rfl⟩
  have mk : ∀ (op x y r : Nat), isOp op → x < 65536 → y < 65536 → doV op k 0 0 x y 0 k = r → DoIs (ndV op k 0 0) (.int .i64 (x : Nat)) (.int .i64 (y : Nat)) (.int .i64 0) (.int .i64 (k : Nat)) (.int .i64 (r : Nat)) := fun op x y r ho h1 h2 h3 => do_is ho hk16 (by decide) hk16 h1 h2 h3
  have A0 := Lib.hid (show DoIs (.agg #[.int .i64 9, .int .i64 (k : Nat), .int .i64 0, .int .i64 0, .int .i64 0, .int .i64 0, .int .i64 0]) (.int .i64 (x : Nat)) (.int .i64 (y : Nat)) (.int .i64 0) (.int .i64 (k : Nat)) (.int .i64 (s : Nat)) from mk 9 x y s (isOp_of rfl) hx1 hy1 hs)
  have A1 := Lib.hid (show DoIs (.agg #[.int .i64 10, .int .i64 (k : Nat), .int .i64 0, .int .i64 0, .int .i64 0, .int .i64 0, .int .i64 0]) (.int .i64 (s : Nat)) (.int .i64 (y : Nat)) (.int .i64 0) (.int .i64 (k : Nat)) (.int .i64 (x : Nat)) from mk 10 s y x (isOp_of rfl) hs1 hy1 m1)
  have A2 := Lib.hid (show DoIs (.agg #[.int .i64 9, .int .i64 (k : Nat), .int .i64 0, .int .i64 0, .int .i64 0, .int .i64 0, .int .i64 0]) (.int .i64 (y : Nat)) (.int .i64 (x : Nat)) (.int .i64 0) (.int .i64 (k : Nat)) (.int .i64 (s : Nat)) from mk 9 y x s (isOp_of rfl) hy1 hx1 m2)
  have A3 := Lib.hid (show DoIs (.agg #[.int .i64 9, .int .i64 (k : Nat), .int .i64 0, .int .i64 0, .int .i64 0, .int .i64 0, .int .i64 0]) (.int .i64 (x : Nat)) (.int .i64 0) (.int .i64 0) (.int .i64 (k : Nat)) (.int .i64 (x : Nat)) from mk 9 x 0 x (isOp_of rfl) hx1 (by decide) m3)
  have A4 := Lib.hid (show DoIs (.agg #[.int .i64 10, .int .i64 (k : Nat), .int .i64 0, .int .i64 0, .int .i64 0, .int .i64 0, .int .i64 0]) (.int .i64 (x : Nat)) (.int .i64 (x : Nat)) (.int .i64 0) (.int .i64 (k : Nat)) (.int .i64 0) from mk 10 x x 0 (isOp_of rfl) hx1 hx1 m4)
  have A6 := Lib.hid (show DoIs (.agg #[.int .i64 9, .int .i64 (k : Nat), .int .i64 0, .int .i64 0, .int .i64 0, .int .i64 0, .int .i64 0]) (.int .i64 (x : Nat)) (.int .i64 (x : Nat)) (.int .i64 0) (.int .i64 (k : Nat)) (.int .i64 (d : Nat)) from mk 9 x x d (isOp_of rfl) hx1 hx1 hd)
  have A5 : k ≠ 1 → DoIs (.agg #[.int .i64 11, .int .i64 (k : Nat), .int .i64 0, .int .i64 0, .int .i64 0, .int .i64 0, .int .i64 0]) (.int .i64 (x : Nat)) (.int .i64 (t : Nat)) (.int .i64 0) (.int .i64 (k : Nat)) (.int .i64 (d : Nat)) := fun h => mk 11 x t d (isOp_of rfl) hx1 h21 (by
    have hk1 : 2 ≤ k := by omega
    have h4 : 2 ^ 2 ≤ 2 ^ k := Nat.pow_le_pow_right (by decide) hk1
    have : t = 2 := by rw [← ht]; exact Nat.mod_eq_of_lt (by omega)
    show (x * t) % 2 ^ k = d
    rw [this, Nat.mul_two]
    exact hd)
  have H0 := Lib.hid (head_any w)
  clear mk hq hk hx2 hy2 ht hs m1 m2 m3 m4 hd
  go_enter Try.func5, Try.ntmps5
  go_wp2_with fail
  refine H0.out.mono ?_
  rintro e w1 ⟨rfl, hb⟩
  have S1 := Lib.hid hb
  clear hb
  go_wp2_with fail
  refine (RM.out _).mono ?_
  rintro e w' ⟨rfl, rfl⟩
  go_wp2_with fail
  refine (RM.out _).mono ?_
  rintro e w' ⟨rfl, rfl⟩
  go_wp2_with fail
  have c7 : ∀ (v : World) (op : Nat), (v.alloc (.cells #[.int .i64 (op : Nat), .int .i64 (k : Nat), .int .i64 0, .int .i64 0, .int .i64 0, .int .i64 0, .int .i64 0] 28)).heap[v.heap.size]? = some (.cells #[.int .i64 (op : Nat), .int .i64 (k : Nat), .int .i64 0, .int .i64 0, .int .i64 0, .int .i64 0, .int .i64 0] 28 (0, 0)) := fun v op => heap_new _ _
  have nd : ∀ (u : World) (g op : Nat), u.heap[g]? = some (.cells #[.int .i64 (op : Nat), .int .i64 (k : Nat), .int .i64 0, .int .i64 0, .int .i64 0, .int .i64 0, .int .i64 0] 28 (0, 0)) → Nd7 u g op k 0 := fun u g op h => by
    refine ⟨?_, ?_, ?_, ?_, ?_, ?_, ?_⟩ <;> simp [World.cell?, h]
  obtain ⟨W, eW, GW, CW⟩ : ∃ W, ((w1.alloc (.cells #[.int .i64 9, .int .i64 (k : Nat), .int .i64 0, .int .i64 0, .int .i64 0, .int .i64 0, .int .i64 0] 28)).alloc (.cells #[.int .i64 10, .int .i64 (k : Nat), .int .i64 0, .int .i64 0, .int .i64 0, .int .i64 0, .int .i64 0] 28)).alloc (.cells #[.int .i64 11, .int .i64 (k : Nat), .int .i64 0, .int .i64 0, .int .i64 0, .int .i64 0, .int .i64 0] 28) = W ∧ Hid (Below w1.heap.size w1 W) ∧ Hid (∀ u, Below W.heap.size W u → Nd7 u w1.heap.size 9 k 0 ∧ Nd7 u (w1.heap.size + 1) 10 k 0 ∧ Nd7 u (w1.heap.size + 2) 11 k 0) := by
    refine ⟨_, rfl, Lib.hid ((((Below.refl _ _).alloc (Nat.le_refl _) _).alloc (by simp) _).alloc (by simp; omega) _), Lib.hid fun u hu => ⟨nd _ _ _ ?_, nd _ _ _ ?_, nd _ _ _ ?_⟩⟩
    · rw [hu.block _ (by simp; omega), Below.heap_alloc _ _ _ (by simp; omega), Below.heap_alloc _ _ _ (by simp)]
      exact c7 w1 9
    · rw [hu.block _ (by simp), Below.heap_alloc _ _ _ (by simp)]
      have h := c7 (w1.alloc (.cells #[.int .i64 9, .int .i64 (k : Nat), .int .i64 0, .int .i64 0, .int .i64 0, .int .i64 0, .int .i64 0] 28)) 10
      rw [World.size_alloc] at h
      exact h
    · rw [hu.block _ (by simp)]
      have h := c7 ((w1.alloc (.cells #[.int .i64 9, .int .i64 (k : Nat), .int .i64 0, .int .i64 0, .int .i64 0, .int .i64 0, .int .i64 0] 28)).alloc (.cells #[.int .i64 10, .int .i64 (k : Nat), .int .i64 0, .int .i64 0, .int .i64 0, .int .i64 0, .int .i64 0] 28)) 11
      rw [World.size_alloc, World.size_alloc] at h
      exact h
  rw [eW]
  clear eW c7 nd
  refine (A0.out _).mono ?_
  rintro e w2 ⟨rfl, hb⟩
  have S2 := Lib.hid ((S1.out.trans (GW.out.mono S1.out.size)).trans (hb.mono (Nat.le_trans S1.out.size GW.out.size)))
  have KEEP := Lib.hid (show ∀ u, Gr w2 u → Nd7 u w1.heap.size 9 k 0 ∧ Nd7 u (w1.heap.size + 1) 10 k 0 ∧ Nd7 u (w1.heap.size + 1 + 1) 11 k 0 from fun u hu => CW.out u (hb.trans (hu.mono hb.size)))
  clear hb
  go_wp2_with fail
  refine (RM.out _).mono ?_
  rintro e w' ⟨rfl, rfl⟩
  have K0 := KEEP.out w2 (Below.refl _ _)
  by_cases h1 : k = 1
  · have hk1 : ((k : Int) == 1) = true := by subst h1; rfl
    have hk2 : (k == 1) = true := by subst h1; rfl
    have hk3 : decide (k = 1) = true := by subst h1; rfl
    clear A5 h1
    go_wp2_with fail
    refine wp_region_held_drew (S := (fun u => Nd7 u w1.heap.size 9 k 0 ∧ Nd7 u (w1.heap.size + 1) 10 k 0 ∧ Nd7 u (w1.heap.size + 1 + 1) 11 k 0)) (by kernel_rfl) (KEEP.out _ (Gr.drew _)) (fun hHeld => ?_)
    refine wpAnyH_take (i := 0) (oi := { dst := some 45, op := Op.move (Operand.tmp 7), type := 4, pos := "law.go:95", after := #[], guard := none }) (v := ?_) rfl (by kernel_rfl) (by kernel_rfl) (by kernel_rfl) (fun _ _ _ h => h) (Or.inl ⟨by rfl, ?_⟩) hHeld ?_
    case refine_2 => (intro w hSw; (try dsimp only at hSw); go_simp; try (with_reducible rfl))
    try simp only [Act.put, List.setIfInBounds_toArray, List.set_cons_zero, List.set_cons_succ]
    refine wpAnyH_take (i := 1) (oi := { dst := some 46, op := Op.move (Operand.tmp 45), type := 4, pos := "law.go:95", after := #[{ on := 0, ground := Ground.data }], guard := none }) (v := ?_) rfl (by kernel_rfl) (by kernel_rfl) (by kernel_rfl) (fun _ _ _ h => h) (Or.inl ⟨by rfl, ?_⟩) hHeld ?_
    case refine_2 => (intro w hSw; (try dsimp only at hSw); go_simp; try (with_reducible rfl))
    try simp only [Act.put, List.setIfInBounds_toArray, List.set_cons_zero, List.set_cons_succ]
    refine wpAnyH_take (i := 2) (oi := { dst := some 47, op := Op.load 28 (Operand.tmp 12), type := 28, pos := "law.go:95", after := #[{ on := 1, ground := Ground.guard }], guard := some (1, true) }) (v := ?_) rfl (by kernel_rfl) (by kernel_rfl) (by kernel_rfl) (fun _ _ _ h => h) (Or.inl ⟨by rfl, ?_⟩) hHeld ?_
    case refine_2 => (intro w hSw; (try dsimp only at hSw); go_simp; try (with_reducible rfl))
    try simp only [Act.put, List.setIfInBounds_toArray, List.set_cons_zero, List.set_cons_succ]
    refine wpAnyH_take (i := 3) (oi := { dst := some 48, op := Op.move (Operand.tmp 14), type := 3, pos := "law.go:95", after := #[{ on := 1, ground := Ground.guard }], guard := some (1, true) }) (v := ?_) rfl (by kernel_rfl) (by kernel_rfl) (by kernel_rfl) (fun _ _ _ h => h) (Or.inl ⟨by rfl, ?_⟩) hHeld ?_
    case refine_2 => (intro w hSw; (try dsimp only at hSw); go_simp; try (with_reducible rfl))
    try simp only [Act.put, List.setIfInBounds_toArray, List.set_cons_zero, List.set_cons_succ]
    refine wpAnyH_take (i := 4) (oi := { dst := some 49, op := Op.move (Operand.tmp 10), type := 3, pos := "law.go:95", after := #[{ on := 1, ground := Ground.guard }], guard := some (1, true) }) (v := ?_) rfl (by kernel_rfl) (by kernel_rfl) (by kernel_rfl) (fun _ _ _ h => h) (Or.inl ⟨by rfl, ?_⟩) hHeld ?_
    case refine_2 => (intro w hSw; (try dsimp only at hSw); go_simp; try (with_reducible rfl))
    try simp only [Act.put, List.setIfInBounds_toArray, List.set_cons_zero, List.set_cons_succ]
    refine wpAnyH_take (i := 5) (oi := { dst := some 50, op := Op.move (Operand.tmp 8), type := 3, pos := "law.go:95", after := #[{ on := 1, ground := Ground.guard }], guard := some (1, true) }) (v := ?_) rfl (by kernel_rfl) (by kernel_rfl) (by kernel_rfl) (fun _ _ _ h => h) (Or.inl ⟨by rfl, ?_⟩) hHeld ?_
    case refine_2 => (intro w hSw; (try dsimp only at hSw); go_simp; try (with_reducible rfl))
    try simp only [Act.put, List.setIfInBounds_toArray, List.set_cons_zero, List.set_cons_succ]
    refine wpAnyH_take (i := 7) (oi := { dst := some 52, op := Op.move (Operand.tmp 9), type := 3, pos := "law.go:95", after := #[{ on := 1, ground := Ground.guard }], guard := some (1, true) }) (v := ?_) rfl (by kernel_rfl) (by kernel_rfl) (by kernel_rfl) (fun _ _ _ h => h) (Or.inl ⟨by rfl, ?_⟩) hHeld ?_
    case refine_2 => (intro w hSw; (try dsimp only at hSw); go_simp; try (with_reducible rfl))
    try simp only [Act.put, List.setIfInBounds_toArray, List.set_cons_zero, List.set_cons_succ]
    refine wpAnyH_ready (rs := [6]) (by kernel_rfl) (by simp) ?_
    refine AllReadyH.cons (o := { dst := some 51, op := Op.call { callee := Callee.value (Operand.func 12), args := #[Operand.tmp 47, Operand.tmp 48, Operand.tmp 49, Operand.const (Value.int IntKind.i64 0), Operand.tmp 50], argTypes := #[28, 3, 3, 3, 3] }, type := 3, pos := "law.go:95", after := #[{ on := 2, ground := Ground.data }, { on := 3, ground := Ground.data }, { on := 4, ground := Ground.data }, { on := 5, ground := Ground.data }, { on := 1, ground := Ground.chain }, { on := 1, ground := Ground.guard }], guard := some (1, true) }) rfl (fun K hK => ?_) AllReadyH.nil
    go_simp
    refine (DoIs.c A1.out _).mono ?_
    rintro e u1 ⟨rfl, hu1'⟩
    have hu1 : Gr w2 u1 := Gr.trans (Gr.drew _) hu1'
    refine hK.out _ _ (KEEP.out _ hu1) (fun hHeld => ?_)
    clear hK K hu1'
    try simp only [Act.put, List.setIfInBounds_toArray, List.set_cons_zero, List.set_cons_succ]
    refine wpAnyH_take (i := 8) (oi := { dst := some 53, op := Op.binOp BinOp.eql 3 (Operand.tmp 51) (Operand.tmp 52) 3, type := 4, pos := "law.go:95", after := #[{ on := 6, ground := Ground.data }, { on := 7, ground := Ground.data }, { on := 1, ground := Ground.guard }], guard := some (1, true) }) (v := ?_) rfl (by kernel_rfl) (by kernel_rfl) (by kernel_rfl) (fun _ _ _ h => h) (Or.inl ⟨by rfl, ?_⟩) hHeld ?_
    case refine_2 => (intro w hSw; (try dsimp only at hSw); go_simp; try (with_reducible rfl))
    try simp only [Act.put, List.setIfInBounds_toArray, List.set_cons_zero, List.set_cons_succ]
    refine wpAnyH_take (i := 9) (oi := { dst := some 54, op := Op.pick (Operand.tmp 46) (Operand.tmp 53) (Operand.const (Value.bool false)), type := 4, pos := "law.go:95", after := #[{ on := 1, ground := Ground.data }, { on := 8, ground := Ground.data }], guard := none }) (v := ?_) rfl (by kernel_rfl) (by kernel_rfl) (by kernel_rfl) (fun _ _ _ h => h) (Or.inl ⟨by rfl, ?_⟩) hHeld ?_
    case refine_2 => (intro w hSw; (try dsimp only at hSw); go_simp; try (with_reducible rfl))
    try simp only [Act.put, List.setIfInBounds_toArray, List.set_cons_zero, List.set_cons_succ]
    refine wpAnyH_take (i := 10) (oi := { dst := some 55, op := Op.move (Operand.tmp 54), type := 4, pos := "law.go:95", after := #[{ on := 9, ground := Ground.data }, { on := 6, ground := Ground.chain }], guard := none }) (v := ?_) rfl (by kernel_rfl) (by kernel_rfl) (by kernel_rfl) (fun _ _ _ h => h) (Or.inl ⟨by rfl, ?_⟩) hHeld ?_
    case refine_2 => (intro w hSw; (try dsimp only at hSw); go_simp; try (with_reducible rfl))
    try simp only [Act.put, List.setIfInBounds_toArray, List.set_cons_zero, List.set_cons_succ]
    refine wpAnyH_take (i := 11) (oi := { dst := some 56, op := Op.load 28 (Operand.tmp 11), type := 28, pos := "law.go:95", after := #[{ on := 10, ground := Ground.guard }], guard := some (10, true) }) (v := ?_) rfl (by kernel_rfl) (by kernel_rfl) (by kernel_rfl) (fun _ _ _ h => h) (Or.inl ⟨by rfl, ?_⟩) hHeld ?_
    case refine_2 => (intro w hSw; (try dsimp only at hSw); go_simp; try (with_reducible rfl))
    try simp only [Act.put, List.setIfInBounds_toArray, List.set_cons_zero, List.set_cons_succ]
    refine wpAnyH_take (i := 12) (oi := { dst := some 57, op := Op.move (Operand.tmp 10), type := 3, pos := "law.go:95", after := #[{ on := 10, ground := Ground.guard }], guard := some (10, true) }) (v := ?_) rfl (by kernel_rfl) (by kernel_rfl) (by kernel_rfl) (fun _ _ _ h => h) (Or.inl ⟨by rfl, ?_⟩) hHeld ?_
    case refine_2 => (intro w hSw; (try dsimp only at hSw); go_simp; try (with_reducible rfl))
    try simp only [Act.put, List.setIfInBounds_toArray, List.set_cons_zero, List.set_cons_succ]
    refine wpAnyH_take (i := 13) (oi := { dst := some 58, op := Op.move (Operand.tmp 9), type := 3, pos := "law.go:95", after := #[{ on := 10, ground := Ground.guard }], guard := some (10, true) }) (v := ?_) rfl (by kernel_rfl) (by kernel_rfl) (by kernel_rfl) (fun _ _ _ h => h) (Or.inl ⟨by rfl, ?_⟩) hHeld ?_
    case refine_2 => (intro w hSw; (try dsimp only at hSw); go_simp; try (with_reducible rfl))
    try simp only [Act.put, List.setIfInBounds_toArray, List.set_cons_zero, List.set_cons_succ]
    refine wpAnyH_take (i := 14) (oi := { dst := some 59, op := Op.move (Operand.tmp 8), type := 3, pos := "law.go:95", after := #[{ on := 10, ground := Ground.guard }], guard := some (10, true) }) (v := ?_) rfl (by kernel_rfl) (by kernel_rfl) (by kernel_rfl) (fun _ _ _ h => h) (Or.inl ⟨by rfl, ?_⟩) hHeld ?_
    case refine_2 => (intro w hSw; (try dsimp only at hSw); go_simp; try (with_reducible rfl))
    try simp only [Act.put, List.setIfInBounds_toArray, List.set_cons_zero, List.set_cons_succ]
    refine wpAnyH_take (i := 16) (oi := { dst := some 61, op := Op.move (Operand.tmp 14), type := 3, pos := "law.go:95", after := #[{ on := 10, ground := Ground.guard }], guard := some (10, true) }) (v := ?_) rfl (by kernel_rfl) (by kernel_rfl) (by kernel_rfl) (fun _ _ _ h => h) (Or.inl ⟨by rfl, ?_⟩) hHeld ?_
    case refine_2 => (intro w hSw; (try dsimp only at hSw); go_simp; try (with_reducible rfl))
    try simp only [Act.put, List.setIfInBounds_toArray, List.set_cons_zero, List.set_cons_succ]
    refine wpAnyH_ready (rs := [15]) (by kernel_rfl) (by simp) ?_
    refine AllReadyH.cons (o := { dst := some 60, op := Op.call { callee := Callee.value (Operand.func 12), args := #[Operand.tmp 56, Operand.tmp 57, Operand.tmp 58, Operand.const (Value.int IntKind.i64 0), Operand.tmp 59], argTypes := #[28, 3, 3, 3, 3] }, type := 3, pos := "law.go:95", after := #[{ on := 11, ground := Ground.data }, { on := 12, ground := Ground.data }, { on := 13, ground := Ground.data }, { on := 14, ground := Ground.data }, { on := 10, ground := Ground.chain }, { on := 10, ground := Ground.guard }], guard := some (10, true) }) rfl (fun K hK => ?_) AllReadyH.nil
    go_simp
    refine (DoIs.c A2.out u1).mono ?_
    rintro e u2 ⟨rfl, hu2'⟩
    have hu2 : Gr w2 u2 := Gr.trans hu1 hu2'
    refine hK.out _ _ (KEEP.out _ hu2) (fun hHeld => ?_)
    clear hK K hu2'
    try simp only [Act.put, List.setIfInBounds_toArray, List.set_cons_zero, List.set_cons_succ]
    refine wpAnyH_take (i := 17) (oi := { dst := some 62, op := Op.binOp BinOp.eql 3 (Operand.tmp 60) (Operand.tmp 61) 3, type := 4, pos := "law.go:95", after := #[{ on := 15, ground := Ground.data }, { on := 16, ground := Ground.data }, { on := 10, ground := Ground.guard }], guard := some (10, true) }) (v := ?_) rfl (by kernel_rfl) (by kernel_rfl) (by kernel_rfl) (fun _ _ _ h => h) (Or.inl ⟨by rfl, ?_⟩) hHeld ?_
    case refine_2 => (intro w hSw; (try dsimp only at hSw); go_simp; try (with_reducible rfl))
    try simp only [Act.put, List.setIfInBounds_toArray, List.set_cons_zero, List.set_cons_succ]
    refine wpAnyH_take (i := 18) (oi := { dst := some 63, op := Op.pick (Operand.tmp 55) (Operand.tmp 62) (Operand.const (Value.bool false)), type := 4, pos := "law.go:95", after := #[{ on := 10, ground := Ground.data }, { on := 17, ground := Ground.data }], guard := none }) (v := ?_) rfl (by kernel_rfl) (by kernel_rfl) (by kernel_rfl) (fun _ _ _ h => h) (Or.inl ⟨by rfl, ?_⟩) hHeld ?_
    case refine_2 => (intro w hSw; (try dsimp only at hSw); go_simp; try (with_reducible rfl))
    try simp only [Act.put, List.setIfInBounds_toArray, List.set_cons_zero, List.set_cons_succ]
    refine wpAnyH_take (i := 19) (oi := { dst := some 64, op := Op.move (Operand.tmp 63), type := 4, pos := "law.go:95", after := #[{ on := 18, ground := Ground.data }, { on := 15, ground := Ground.chain }], guard := none }) (v := ?_) rfl (by kernel_rfl) (by kernel_rfl) (by kernel_rfl) (fun _ _ _ h => h) (Or.inl ⟨by rfl, ?_⟩) hHeld ?_
    case refine_2 => (intro w hSw; (try dsimp only at hSw); go_simp; try (with_reducible rfl))
    try simp only [Act.put, List.setIfInBounds_toArray, List.set_cons_zero, List.set_cons_succ]
    refine wpAnyH_take (i := 20) (oi := { dst := some 65, op := Op.load 28 (Operand.tmp 11), type := 28, pos := "law.go:95", after := #[{ on := 19, ground := Ground.guard }], guard := some (19, true) }) (v := ?_) rfl (by kernel_rfl) (by kernel_rfl) (by kernel_rfl) (fun _ _ _ h => h) (Or.inl ⟨by rfl, ?_⟩) hHeld ?_
    case refine_2 => (intro w hSw; (try dsimp only at hSw); go_simp; try (with_reducible rfl))
    try simp only [Act.put, List.setIfInBounds_toArray, List.set_cons_zero, List.set_cons_succ]
    refine wpAnyH_take (i := 21) (oi := { dst := some 66, op := Op.move (Operand.tmp 9), type := 3, pos := "law.go:95", after := #[{ on := 19, ground := Ground.guard }], guard := some (19, true) }) (v := ?_) rfl (by kernel_rfl) (by kernel_rfl) (by kernel_rfl) (fun _ _ _ h => h) (Or.inl ⟨by rfl, ?_⟩) hHeld ?_
    case refine_2 => (intro w hSw; (try dsimp only at hSw); go_simp; try (with_reducible rfl))
    try simp only [Act.put, List.setIfInBounds_toArray, List.set_cons_zero, List.set_cons_succ]
    refine wpAnyH_take (i := 22) (oi := { dst := some 67, op := Op.move (Operand.tmp 8), type := 3, pos := "law.go:95", after := #[{ on := 19, ground := Ground.guard }], guard := some (19, true) }) (v := ?_) rfl (by kernel_rfl) (by kernel_rfl) (by kernel_rfl) (fun _ _ _ h => h) (Or.inl ⟨by rfl, ?_⟩) hHeld ?_
    case refine_2 => (intro w hSw; (try dsimp only at hSw); go_simp; try (with_reducible rfl))
    try simp only [Act.put, List.setIfInBounds_toArray, List.set_cons_zero, List.set_cons_succ]
    refine wpAnyH_take (i := 24) (oi := { dst := some 69, op := Op.move (Operand.tmp 9), type := 3, pos := "law.go:95", after := #[{ on := 19, ground := Ground.guard }], guard := some (19, true) }) (v := ?_) rfl (by kernel_rfl) (by kernel_rfl) (by kernel_rfl) (fun _ _ _ h => h) (Or.inl ⟨by rfl, ?_⟩) hHeld ?_
    case refine_2 => (intro w hSw; (try dsimp only at hSw); go_simp; try (with_reducible rfl))
    try simp only [Act.put, List.setIfInBounds_toArray, List.set_cons_zero, List.set_cons_succ]
    refine wpAnyH_ready (rs := [23]) (by kernel_rfl) (by simp) ?_
    refine AllReadyH.cons (o := { dst := some 68, op := Op.call { callee := Callee.value (Operand.func 12), args := #[Operand.tmp 65, Operand.tmp 66, Operand.const (Value.int IntKind.i64 0), Operand.const (Value.int IntKind.i64 0), Operand.tmp 67], argTypes := #[28, 3, 3, 3, 3] }, type := 3, pos := "law.go:95", after := #[{ on := 20, ground := Ground.data }, { on := 21, ground := Ground.data }, { on := 22, ground := Ground.data }, { on := 19, ground := Ground.chain }, { on := 19, ground := Ground.guard }], guard := some (19, true) }) rfl (fun K hK => ?_) AllReadyH.nil
    go_simp
    refine (DoIs.c A3.out u2).mono ?_
    rintro e u3 ⟨rfl, hu3'⟩
    have hu3 : Gr w2 u3 := Gr.trans hu2 hu3'
    refine hK.out _ _ (KEEP.out _ hu3) (fun hHeld => ?_)
    clear hK K hu3'
    try simp only [Act.put, List.setIfInBounds_toArray, List.set_cons_zero, List.set_cons_succ]
    refine wpAnyH_take (i := 25) (oi := { dst := some 70, op := Op.binOp BinOp.eql 3 (Operand.tmp 68) (Operand.tmp 69) 3, type := 4, pos := "law.go:95", after := #[{ on := 23, ground := Ground.data }, { on := 24, ground := Ground.data }, { on := 19, ground := Ground.guard }], guard := some (19, true) }) (v := ?_) rfl (by kernel_rfl) (by kernel_rfl) (by kernel_rfl) (fun _ _ _ h => h) (Or.inl ⟨by rfl, ?_⟩) hHeld ?_
    case refine_2 => (intro w hSw; (try dsimp only at hSw); go_simp; try (with_reducible rfl))
    try simp only [Act.put, List.setIfInBounds_toArray, List.set_cons_zero, List.set_cons_succ]
    refine wpAnyH_take (i := 26) (oi := { dst := some 71, op := Op.pick (Operand.tmp 64) (Operand.tmp 70) (Operand.const (Value.bool false)), type := 4, pos := "law.go:95", after := #[{ on := 19, ground := Ground.data }, { on := 25, ground := Ground.data }], guard := none }) (v := ?_) rfl (by kernel_rfl) (by kernel_rfl) (by kernel_rfl) (fun _ _ _ h => h) (Or.inl ⟨by rfl, ?_⟩) hHeld ?_
    case refine_2 => (intro w hSw; (try dsimp only at hSw); go_simp; try (with_reducible rfl))
    try simp only [Act.put, List.setIfInBounds_toArray, List.set_cons_zero, List.set_cons_succ]
    refine wpAnyH_take (i := 27) (oi := { dst := some 72, op := Op.move (Operand.tmp 71), type := 4, pos := "law.go:95", after := #[{ on := 26, ground := Ground.data }, { on := 23, ground := Ground.chain }], guard := none }) (v := ?_) rfl (by kernel_rfl) (by kernel_rfl) (by kernel_rfl) (fun _ _ _ h => h) (Or.inl ⟨by rfl, ?_⟩) hHeld ?_
    case refine_2 => (intro w hSw; (try dsimp only at hSw); go_simp; try (with_reducible rfl))
    try simp only [Act.put, List.setIfInBounds_toArray, List.set_cons_zero, List.set_cons_succ]
    refine wpAnyH_take (i := 28) (oi := { dst := some 73, op := Op.load 28 (Operand.tmp 12), type := 28, pos := "law.go:95", after := #[{ on := 27, ground := Ground.guard }], guard := some (27, true) }) (v := ?_) rfl (by kernel_rfl) (by kernel_rfl) (by kernel_rfl) (fun _ _ _ h => h) (Or.inl ⟨by rfl, ?_⟩) hHeld ?_
    case refine_2 => (intro w hSw; (try dsimp only at hSw); go_simp; try (with_reducible rfl))
    try simp only [Act.put, List.setIfInBounds_toArray, List.set_cons_zero, List.set_cons_succ]
    refine wpAnyH_take (i := 29) (oi := { dst := some 74, op := Op.move (Operand.tmp 9), type := 3, pos := "law.go:95", after := #[{ on := 27, ground := Ground.guard }], guard := some (27, true) }) (v := ?_) rfl (by kernel_rfl) (by kernel_rfl) (by kernel_rfl) (fun _ _ _ h => h) (Or.inl ⟨by rfl, ?_⟩) hHeld ?_
    case refine_2 => (intro w hSw; (try dsimp only at hSw); go_simp; try (with_reducible rfl))
    try simp only [Act.put, List.setIfInBounds_toArray, List.set_cons_zero, List.set_cons_succ]
    refine wpAnyH_take (i := 30) (oi := { dst := some 75, op := Op.move (Operand.tmp 9), type := 3, pos := "law.go:95", after := #[{ on := 27, ground := Ground.guard }], guard := some (27, true) }) (v := ?_) rfl (by kernel_rfl) (by kernel_rfl) (by kernel_rfl) (fun _ _ _ h => h) (Or.inl ⟨by rfl, ?_⟩) hHeld ?_
    case refine_2 => (intro w hSw; (try dsimp only at hSw); go_simp; try (with_reducible rfl))
    try simp only [Act.put, List.setIfInBounds_toArray, List.set_cons_zero, List.set_cons_succ]
    refine wpAnyH_take (i := 31) (oi := { dst := some 76, op := Op.move (Operand.tmp 8), type := 3, pos := "law.go:95", after := #[{ on := 27, ground := Ground.guard }], guard := some (27, true) }) (v := ?_) rfl (by kernel_rfl) (by kernel_rfl) (by kernel_rfl) (fun _ _ _ h => h) (Or.inl ⟨by rfl, ?_⟩) hHeld ?_
    case refine_2 => (intro w hSw; (try dsimp only at hSw); go_simp; try (with_reducible rfl))
    try simp only [Act.put, List.setIfInBounds_toArray, List.set_cons_zero, List.set_cons_succ]
    refine wpAnyH_ready (rs := [32]) (by kernel_rfl) (by simp) ?_
    refine AllReadyH.cons (o := { dst := some 77, op := Op.call { callee := Callee.value (Operand.func 12), args := #[Operand.tmp 73, Operand.tmp 74, Operand.tmp 75, Operand.const (Value.int IntKind.i64 0), Operand.tmp 76], argTypes := #[28, 3, 3, 3, 3] }, type := 3, pos := "law.go:95", after := #[{ on := 28, ground := Ground.data }, { on := 29, ground := Ground.data }, { on := 30, ground := Ground.data }, { on := 31, ground := Ground.data }, { on := 27, ground := Ground.chain }, { on := 27, ground := Ground.guard }], guard := some (27, true) }) rfl (fun K hK => ?_) AllReadyH.nil
    go_simp
    refine (DoIs.c A4.out u3).mono ?_
    rintro e u4 ⟨rfl, hu4'⟩
    have hu4 : Gr w2 u4 := Gr.trans hu3 hu4'
    refine hK.out _ _ (KEEP.out _ hu4) (fun hHeld => ?_)
    clear hK K hu4'
    try simp only [Act.put, List.setIfInBounds_toArray, List.set_cons_zero, List.set_cons_succ]
    refine wpAnyH_take (i := 33) (oi := { dst := some 78, op := Op.binOp BinOp.eql 3 (Operand.tmp 77) (Operand.const (Value.int IntKind.i64 0)) 3, type := 4, pos := "law.go:95", after := #[{ on := 32, ground := Ground.data }, { on := 27, ground := Ground.guard }], guard := some (27, true) }) (v := ?_) rfl (by kernel_rfl) (by kernel_rfl) (by kernel_rfl) (fun _ _ _ h => h) (Or.inl ⟨by rfl, ?_⟩) hHeld ?_
    case refine_2 => (intro w hSw; (try dsimp only at hSw); go_simp; try (with_reducible rfl))
    try simp only [Act.put, List.setIfInBounds_toArray, List.set_cons_zero, List.set_cons_succ]
    refine wpAnyH_take (i := 34) (oi := { dst := some 79, op := Op.pick (Operand.tmp 72) (Operand.tmp 78) (Operand.const (Value.bool false)), type := 4, pos := "law.go:95", after := #[{ on := 27, ground := Ground.data }, { on := 33, ground := Ground.data }], guard := none }) (v := ?_) rfl (by kernel_rfl) (by kernel_rfl) (by kernel_rfl) (fun _ _ _ h => h) (Or.inl ⟨by rfl, ?_⟩) hHeld ?_
    case refine_2 => (intro w hSw; (try dsimp only at hSw); go_simp; try (with_reducible rfl))
    try simp only [Act.put, List.setIfInBounds_toArray, List.set_cons_zero, List.set_cons_succ]
    refine wpAnyH_take (i := 35) (oi := { dst := some 80, op := Op.move (Operand.tmp 79), type := 4, pos := "law.go:95", after := #[{ on := 34, ground := Ground.data }, { on := 32, ground := Ground.chain }], guard := none }) (v := ?_) rfl (by kernel_rfl) (by kernel_rfl) (by kernel_rfl) (fun _ _ _ h => h) (Or.inl ⟨by rfl, ?_⟩) hHeld ?_
    case refine_2 => (intro w hSw; (try dsimp only at hSw); go_simp; try (with_reducible rfl))
    try simp only [Act.put, List.setIfInBounds_toArray, List.set_cons_zero, List.set_cons_succ]
    refine wpAnyH_take (i := 36) (oi := { dst := some 81, op := Op.move (Operand.tmp 8), type := 3, pos := "law.go:95", after := #[{ on := 35, ground := Ground.guard }], guard := some (35, true) }) (v := ?_) rfl (by kernel_rfl) (by kernel_rfl) (by kernel_rfl) (fun _ _ _ h => h) (Or.inl ⟨by rfl, ?_⟩) hHeld ?_
    case refine_2 => (intro w hSw; (try dsimp only at hSw); go_simp; try (with_reducible rfl))
    try simp only [Act.put, List.setIfInBounds_toArray, List.set_cons_zero, List.set_cons_succ]
    refine wpAnyH_take (i := 37) (oi := { dst := some 82, op := Op.binOp BinOp.eql 3 (Operand.tmp 81) (Operand.const (Value.int IntKind.i64 1)) 3, type := 4, pos := "law.go:95", after := #[{ on := 36, ground := Ground.data }, { on := 35, ground := Ground.guard }], guard := some (35, true) }) (v := ?_) rfl (by kernel_rfl) (by kernel_rfl) (by kernel_rfl) (fun _ _ _ h => h) (Or.inl ⟨by rfl, ?_⟩) hHeld ?_
    case refine_2 => (intro w hSw; (try dsimp only at hSw); go_simp; try (with_reducible rfl))
    try simp only [Act.put, List.setIfInBounds_toArray, List.set_cons_zero, List.set_cons_succ]
    refine wpAnyH_take (i := 38) (oi := { dst := some 83, op := Op.move (Operand.tmp 82), type := 4, pos := "law.go:95", after := #[{ on := 37, ground := Ground.data }, { on := 35, ground := Ground.chain }, { on := 35, ground := Ground.guard }], guard := some (35, true) }) (v := ?_) rfl (by kernel_rfl) (by kernel_rfl) (by kernel_rfl) (fun _ _ _ h => h) (Or.inl ⟨by rfl, ?_⟩) hHeld ?_
    case refine_2 => (intro w hSw; (try dsimp only at hSw); go_simp; try (with_reducible rfl))
    try simp only [Act.put, List.setIfInBounds_toArray, List.set_cons_zero, List.set_cons_succ]
    refine wpAnyH_take (i := 39) (oi := { dst := some 84, op := Op.load 28 (Operand.tmp 13), type := 28, pos := "law.go:95", after := #[{ on := 38, ground := Ground.guard }], guard := some (38, false) }) (v := undef) rfl (by kernel_rfl) (by kernel_rfl) (by kernel_rfl) (fun _ _ _ h => h) (Or.inr ⟨by rfl, rfl⟩) hHeld ?_
    try simp only [Act.put, List.setIfInBounds_toArray, List.set_cons_zero, List.set_cons_succ]
    refine wpAnyH_take (i := 40) (oi := { dst := some 85, op := Op.move (Operand.tmp 9), type := 3, pos := "law.go:95", after := #[{ on := 38, ground := Ground.guard }], guard := some (38, false) }) (v := undef) rfl (by kernel_rfl) (by kernel_rfl) (by kernel_rfl) (fun _ _ _ h => h) (Or.inr ⟨by rfl, rfl⟩) hHeld ?_
    try simp only [Act.put, List.setIfInBounds_toArray, List.set_cons_zero, List.set_cons_succ]
    refine wpAnyH_take (i := 41) (oi := { dst := some 86, op := Op.move (Operand.tmp 15), type := 3, pos := "law.go:95", after := #[{ on := 38, ground := Ground.guard }], guard := some (38, false) }) (v := undef) rfl (by kernel_rfl) (by kernel_rfl) (by kernel_rfl) (fun _ _ _ h => h) (Or.inr ⟨by rfl, rfl⟩) hHeld ?_
    try simp only [Act.put, List.setIfInBounds_toArray, List.set_cons_zero, List.set_cons_succ]
    refine wpAnyH_take (i := 42) (oi := { dst := some 87, op := Op.move (Operand.tmp 8), type := 3, pos := "law.go:95", after := #[{ on := 38, ground := Ground.guard }], guard := some (38, false) }) (v := undef) rfl (by kernel_rfl) (by kernel_rfl) (by kernel_rfl) (fun _ _ _ h => h) (Or.inr ⟨by rfl, rfl⟩) hHeld ?_
    try simp only [Act.put, List.setIfInBounds_toArray, List.set_cons_zero, List.set_cons_succ]
    refine wpAnyH_take (i := 43) (oi := { dst := some 88, op := Op.call { callee := Callee.value (Operand.func 12), args := #[Operand.tmp 84, Operand.tmp 85, Operand.tmp 86, Operand.const (Value.int IntKind.i64 0), Operand.tmp 87], argTypes := #[28, 3, 3, 3, 3] }, type := 3, pos := "law.go:95", after := #[{ on := 39, ground := Ground.data }, { on := 40, ground := Ground.data }, { on := 41, ground := Ground.data }, { on := 42, ground := Ground.data }, { on := 38, ground := Ground.chain }, { on := 38, ground := Ground.guard }], guard := some (38, false) }) (v := undef) rfl (by kernel_rfl) (by kernel_rfl) (by kernel_rfl) (fun _ _ _ h => h) (Or.inr ⟨by rfl, rfl⟩) hHeld ?_
    try simp only [Act.put, List.setIfInBounds_toArray, List.set_cons_zero, List.set_cons_succ]
    refine wpAnyH_take (i := 44) (oi := { dst := some 89, op := Op.load 28 (Operand.tmp 11), type := 28, pos := "law.go:95", after := #[{ on := 38, ground := Ground.guard }], guard := some (38, false) }) (v := undef) rfl (by kernel_rfl) (by kernel_rfl) (by kernel_rfl) (fun _ _ _ h => h) (Or.inr ⟨by rfl, rfl⟩) hHeld ?_
    try simp only [Act.put, List.setIfInBounds_toArray, List.set_cons_zero, List.set_cons_succ]
    refine wpAnyH_take (i := 45) (oi := { dst := some 90, op := Op.move (Operand.tmp 9), type := 3, pos := "law.go:95", after := #[{ on := 38, ground := Ground.guard }], guard := some (38, false) }) (v := undef) rfl (by kernel_rfl) (by kernel_rfl) (by kernel_rfl) (fun _ _ _ h => h) (Or.inr ⟨by rfl, rfl⟩) hHeld ?_
    try simp only [Act.put, List.setIfInBounds_toArray, List.set_cons_zero, List.set_cons_succ]
    refine wpAnyH_take (i := 46) (oi := { dst := some 91, op := Op.move (Operand.tmp 9), type := 3, pos := "law.go:95", after := #[{ on := 38, ground := Ground.guard }], guard := some (38, false) }) (v := undef) rfl (by kernel_rfl) (by kernel_rfl) (by kernel_rfl) (fun _ _ _ h => h) (Or.inr ⟨by rfl, rfl⟩) hHeld ?_
    try simp only [Act.put, List.setIfInBounds_toArray, List.set_cons_zero, List.set_cons_succ]
    refine wpAnyH_take (i := 47) (oi := { dst := some 92, op := Op.move (Operand.tmp 8), type := 3, pos := "law.go:95", after := #[{ on := 38, ground := Ground.guard }], guard := some (38, false) }) (v := undef) rfl (by kernel_rfl) (by kernel_rfl) (by kernel_rfl) (fun _ _ _ h => h) (Or.inr ⟨by rfl, rfl⟩) hHeld ?_
    try simp only [Act.put, List.setIfInBounds_toArray, List.set_cons_zero, List.set_cons_succ]
    refine wpAnyH_take (i := 48) (oi := { dst := some 93, op := Op.call { callee := Callee.value (Operand.func 12), args := #[Operand.tmp 89, Operand.tmp 90, Operand.tmp 91, Operand.const (Value.int IntKind.i64 0), Operand.tmp 92], argTypes := #[28, 3, 3, 3, 3] }, type := 3, pos := "law.go:95", after := #[{ on := 44, ground := Ground.data }, { on := 45, ground := Ground.data }, { on := 46, ground := Ground.data }, { on := 47, ground := Ground.data }, { on := 43, ground := Ground.chain }, { on := 38, ground := Ground.guard }], guard := some (38, false) }) (v := undef) rfl (by kernel_rfl) (by kernel_rfl) (by kernel_rfl) (fun _ _ _ h => h) (Or.inr ⟨by rfl, rfl⟩) hHeld ?_
    try simp only [Act.put, List.setIfInBounds_toArray, List.set_cons_zero, List.set_cons_succ]
    refine wpAnyH_take (i := 49) (oi := { dst := some 94, op := Op.binOp BinOp.eql 3 (Operand.tmp 88) (Operand.tmp 93) 3, type := 4, pos := "law.go:95", after := #[{ on := 43, ground := Ground.data }, { on := 48, ground := Ground.data }, { on := 38, ground := Ground.guard }], guard := some (38, false) }) (v := undef) rfl (by kernel_rfl) (by kernel_rfl) (by kernel_rfl) (fun _ _ _ h => h) (Or.inr ⟨by rfl, rfl⟩) hHeld ?_
    try simp only [Act.put, List.setIfInBounds_toArray, List.set_cons_zero, List.set_cons_succ]
    refine wpAnyH_take (i := 50) (oi := { dst := some 95, op := Op.pick (Operand.tmp 83) (Operand.const (Value.bool true)) (Operand.tmp 94), type := 4, pos := "law.go:95", after := #[{ on := 38, ground := Ground.data }, { on := 49, ground := Ground.data }, { on := 35, ground := Ground.guard }], guard := some (35, true) }) (v := ?_) rfl (by kernel_rfl) (by kernel_rfl) (by kernel_rfl) (fun _ _ _ h => h) (Or.inl ⟨by rfl, ?_⟩) hHeld ?_
    case refine_2 => (intro w hSw; (try dsimp only at hSw); go_simp; try (with_reducible rfl))
    try simp only [Act.put, List.setIfInBounds_toArray, List.set_cons_zero, List.set_cons_succ]
    refine wpAnyH_take (i := 51) (oi := { dst := some 96, op := Op.pick (Operand.tmp 80) (Operand.tmp 95) (Operand.const (Value.bool false)), type := 4, pos := "law.go:95", after := #[{ on := 35, ground := Ground.data }, { on := 50, ground := Ground.data }], guard := none }) (v := ?_) rfl (by kernel_rfl) (by kernel_rfl) (by kernel_rfl) (fun _ _ _ h => h) (Or.inl ⟨by rfl, ?_⟩) hHeld ?_
    case refine_2 => (intro w hSw; (try dsimp only at hSw); go_simp; try (with_reducible rfl))
    try simp only [Act.put, List.setIfInBounds_toArray, List.set_cons_zero, List.set_cons_succ]
    refine wpAnyH_take (i := 52) (oi := { dst := some 6, op := Op.assign (Operand.tmp 96), type := 4, pos := "law.go:95", after := #[{ on := 51, ground := Ground.data }, { on := 48, ground := Ground.chain }, { on := 0, ground := Ground.phase }, { on := 1, ground := Ground.phase }, { on := 2, ground := Ground.phase }, { on := 3, ground := Ground.phase }, { on := 4, ground := Ground.phase }, { on := 5, ground := Ground.phase }, { on := 6, ground := Ground.phase }, { on := 7, ground := Ground.phase }, { on := 8, ground := Ground.phase }, { on := 9, ground := Ground.phase }, { on := 10, ground := Ground.phase }, { on := 11, ground := Ground.phase }, { on := 12, ground := Ground.phase }, { on := 13, ground := Ground.phase }, { on := 14, ground := Ground.phase }, { on := 15, ground := Ground.phase }, { on := 16, ground := Ground.phase }, { on := 17, ground := Ground.phase }, { on := 18, ground := Ground.phase }, { on := 19, ground := Ground.phase }, { on := 20, ground := Ground.phase }, { on := 21, ground := Ground.phase }, { on := 22, ground := Ground.phase }, { on := 23, ground := Ground.phase }, { on := 24, ground := Ground.phase }, { on := 25, ground := Ground.phase }, { on := 26, ground := Ground.phase }, { on := 27, ground := Ground.phase }, { on := 28, ground := Ground.phase }, { on := 29, ground := Ground.phase }, { on := 30, ground := Ground.phase }, { on := 31, ground := Ground.phase }, { on := 32, ground := Ground.phase }, { on := 33, ground := Ground.phase }, { on := 34, ground := Ground.phase }, { on := 35, ground := Ground.phase }, { on := 36, ground := Ground.phase }, { on := 37, ground := Ground.phase }, { on := 38, ground := Ground.phase }, { on := 39, ground := Ground.phase }, { on := 40, ground := Ground.phase }, { on := 41, ground := Ground.phase }, { on := 42, ground := Ground.phase }, { on := 43, ground := Ground.phase }, { on := 44, ground := Ground.phase }, { on := 45, ground := Ground.phase }, { on := 46, ground := Ground.phase }, { on := 47, ground := Ground.phase }, { on := 48, ground := Ground.phase }, { on := 49, ground := Ground.phase }, { on := 50, ground := Ground.phase }, { on := 51, ground := Ground.phase }], guard := none }) (v := ?_) rfl (by kernel_rfl) (by kernel_rfl) (by kernel_rfl) (fun _ _ _ h => h) (Or.inl ⟨by rfl, ?_⟩) hHeld ?_
    case refine_2 => (intro w hSw; (try dsimp only at hSw); go_simp; try (with_reducible rfl))
    try simp only [Act.put, List.setIfInBounds_toArray, List.set_cons_zero, List.set_cons_succ]
    refine wpAnyH_done (by kernel_rfl) ?_ _
    go_wp2_with fail
    go_ret
    exact ⟨rfl, S2.out.trans (hu4.mono S2.out.size)⟩
  · have hk1 : ((k : Int) == 1) = false := by simpa using fun e => h1 (by omega)
    have A7 := Lib.hid (A5 h1)
    clear A5
    go_wp2_with fail
    go_region_held3 (fun u => Nd7 u w1.heap.size 9 k 0 ∧ Nd7 u (w1.heap.size + 1) 10 k 0 ∧ Nd7 u (w1.heap.size + 1 + 1) 11 k 0)
      (first | exact KEEP.out _ (Gr.drew _) | exact KEEP.out _ (by assumption))
      (first
        | (go_at_call 12; (with_reducible refine (DoIs.c A1.out _).mono ?_); rintro e u1 ⟨rfl, hu1'⟩; have hu1 : Gr w2 u1 := by first | exact hu1' | exact Gr.trans (Gr.drew _) hu1')
        | (go_at_call 12; (with_reducible refine (DoIs.c A2.out u1).mono ?_); rintro e u2 ⟨rfl, hu2'⟩; have hu2 : Gr w2 u2 := Gr.trans hu1 hu2')
        | (go_at_call 12; (with_reducible refine (DoIs.c A3.out u2).mono ?_); rintro e u3 ⟨rfl, hu3'⟩; have hu3 : Gr w2 u3 := Gr.trans hu2 hu3')
        | (go_at_call 12; (with_reducible refine (DoIs.c A4.out u3).mono ?_); rintro e u4 ⟨rfl, hu4'⟩; have hu4 : Gr w2 u4 := Gr.trans hu3 hu4')
        | (go_at_call 12; (with_reducible refine (DoIs.c A7.out u4).mono ?_); rintro e u5 ⟨rfl, hu5'⟩; have hu5 : Gr w2 u5 := Gr.trans hu4 hu5')
        | (go_at_call 12; (with_reducible refine (DoIs.c A6.out u5).mono ?_); rintro e u6 ⟨rfl, hu6'⟩; have hu6 : Gr w2 u6 := Gr.trans hu5 hu6'))
    go_wp2_with fail
    go_ret
    exact ⟨rfl, S2.out.trans (hu6.mono S2.out.size)⟩
end Go.Proofs.Ytfnamjnggmndmaa
