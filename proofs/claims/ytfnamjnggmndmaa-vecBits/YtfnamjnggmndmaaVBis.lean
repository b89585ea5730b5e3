/-
  VecBits, WALKED.
-/
import Derived.Test.YtfnamjnggmndmaaVSum
import Derived.Test.YtfnamjnggmndmaaVShi
namespace Go.Proofs.Ytfnamjnggmndmaa
open Go.RowKit
open VecM

theorem bit_is (x i : Nat) : (x / 2 ^ i % 2 == 1) = x.testBit i := by
  rw [Nat.testBit_eq_decide_div_mod_eq, Bool.eq_iff_iff]
  simp
theorem bitsL_at {x k i : Nat} (h : i < k) : (bitsL x k)[i]? = some (x.testBit i) := by rw [bitsL_get h, bit_is]
theorem bitsL_succ (x k : Nat) : bitsL x (k + 1) = (x % 2 == 1) :: bitsL (x / 2) k := by
  apply List.ext_getElem?
  intro i
  rcases i with _ | i
  · rw [bitsL_get (by omega)]
    simp
  · by_cases h : i < k
    · rw [bitsL_get (by omega), List.getElem?_cons_succ, bitsL_get h, Nat.pow_succ', Nat.div_div_eq_div_mul]
    · rw [List.getElem?_eq_none (by rw [bitsL_len]; omega), List.getElem?_cons_succ, List.getElem?_eq_none (by rw [bitsL_len]; omega)]
theorem numL_bits : ∀ (k x : Nat), x < 2 ^ k → numL (bitsL x k) = x
  | 0, x, h => by
    have : x = 0 := by simpa using h
    subst this
    rfl
  | k + 1, x, h => by
    rw [bitsL_succ, numL, numL_bits k (x / 2) (by rw [Nat.pow_succ] at h; omega)]
    by_cases hb : x % 2 = 1
    · rw [if_pos (by simpa using hb)]; omega
    · rw [if_neg (by simpa using hb)]; omega
theorem bits_numL : ∀ l : List Bool, bitsL (numL l) l.length = l
  | [] => rfl
  | b :: r => by
    rw [List.length_cons, bitsL_succ, numL]
    have h : ((if b then 1 else 0) + 2 * numL r) / 2 = numL r := by cases b <;> simp <;> omega
    have h' : (((if b then 1 else 0) + 2 * numL r) % 2 == 1) = b := by cases b <;> simp <;> omega
    rw [h, h', bits_numL r]

theorem lt_mod {a k : Nat} (h : a < 2 ^ k) : a % 2 ^ k = a := Nat.mod_eq_of_lt h
/-- a row of bits where one is asked -/
theorem Bls.at {w : World} {B : Nat} {A : Option Addr} {xs : List Bool} (h : Bls w B A xs) {i : Nat} {b : Bool} (hi : xs[i]? = some b) : ∃ g off, A = some ⟨g, off, none⟩ ∧ w.cell? ⟨g, off + i, none⟩ = some (.bool b) := by
  obtain ⟨g, off, e, _, hc⟩ := h i b hi
  exact ⟨g, off, e, hc⟩

set_option maxRecDepth 100000 in
set_option maxHeartbeats 4000000 in
theorem bits_walk (a b wd : Nat) (A : Option Addr) (cp : Nat) (l : List Bool) (ha : a < 65536) (hb : b < 65536) (hwd : wd < 256) (hl : l.length ≤ maxLen) (w : World) (hT : Hid (Bls w w.heap.size A l)) :
    Calls Try.prog 7 #[.int .u16 (a : Nat), .int .u16 (b : Nat), .int .u8 (wd : Nat), .slice A l.length cp] w fun e w' => e = .returned (.bool true) ∧ Below w.heap.size w w' := by
  unfold maxLen at hl
  obtain ⟨k, hk, hk16⟩ : ∃ k, wd % 16 + 1 = k ∧ k ≤ 16 := ⟨_, rfl, by omega⟩
  have hkI : (wd : Int) % 16 + 1 = (k : Int) := by omega
  obtain ⟨q, hq⟩ : ∃ q, 2 ^ k - 1 = q := ⟨_, rfl⟩
  have RM := Lib.hid (rmask_is (by omega) hq)
  have hx := and_mask_nat (a := a) (k := k) (by omega)
  have hy := and_mask_nat (a := b) (k := k) (by omega)
  have hx1 := mod_lt16 a k hk16
  have hy1 := mod_lt16 b k hk16
  have hx2 := mod_lt_pow a k
  have hy2 := mod_lt_pow b k
  rw [hq] at hx hy
  generalize a % 2 ^ k = x at hx hx1 hx2
  generalize b % 2 ^ k = y at hy hy1 hy2
  have H0 := Lib.hid (head_any w)
  have BX := Lib.hid (show ∀ u, Calls Try.prog 17 #[.int .i64 (x : Nat), .int .i64 (k : Nat)] u (BitsRet u x k) from fun u => Bits_any x k (by omega) u)
  have BY := Lib.hid (show ∀ u, Calls Try.prog 17 #[.int .i64 (y : Nat), .int .i64 (k : Nat)] u (BitsRet u y k) from fun u => Bits_any y k (by omega) u)
  have NX := Lib.hid (show ∀ (u : World) (A' : Option Addr) (c : Nat), Bls u u.heap.size A' (bitsL x k) → Calls Try.prog 19 #[.slice A' k c] u fun e w' => e = .returned (.int .i64 (x : Nat)) ∧ u = w' from fun u A' c h => by
    have := Num_any A' c (bitsL x k) u (by rw [bitsL_len]; omega) (Lib.hid h)
    rw [bitsL_len, numL_bits k x hx2] at this
    exact this)
  have mk : ∀ (op y r : Nat), isOp op → y < 65536 → doV op k 0 0 x y 0 k = r → DoIs (ndV op k 0 0) (.int .i64 (x : Nat)) (.int .i64 (y : Nat)) (.int .i64 0) (.int .i64 (k : Nat)) (.int .i64 (r : Nat)) := fun op y r ho h2 h3 => do_is ho hk16 (by decide) hk16 hx1 h2 h3
  obtain ⟨a0, ea0⟩ : ∃ r, doV 6 k 0 0 x y 0 k = r := ⟨_, rfl⟩
  have AN := Lib.hid (show DoIs (.agg #[.int .i64 6, .int .i64 (k : Nat), .int .i64 0, .int .i64 0, .int .i64 0, .int .i64 0, .int .i64 0]) _ _ (.int .i64 0) (.int .i64 (k : Nat)) (.int .i64 (a0 : Nat)) from mk 6 y a0 (isOp_of rfl) hy1 ea0)
  have BAN := Lib.hid (show ∀ u, Calls Try.prog 17 #[.int .i64 (a0 : Nat), .int .i64 (k : Nat)] u (BitsRet u a0 k) from fun u => Bits_any a0 k (by omega) u)
  obtain ⟨o0, eo0⟩ : ∃ r, doV 7 k 0 0 x y 0 k = r := ⟨_, rfl⟩
  have OR := Lib.hid (show DoIs (.agg #[.int .i64 7, .int .i64 (k : Nat), .int .i64 0, .int .i64 0, .int .i64 0, .int .i64 0, .int .i64 0]) _ _ (.int .i64 0) (.int .i64 (k : Nat)) (.int .i64 (o0 : Nat)) from mk 7 y o0 (isOp_of rfl) hy1 eo0)
  have BOR := Lib.hid (show ∀ u, Calls Try.prog 17 #[.int .i64 (o0 : Nat), .int .i64 (k : Nat)] u (BitsRet u o0 k) from fun u => Bits_any o0 k (by omega) u)
  obtain ⟨x0, ex0⟩ : ∃ r, doV 8 k 0 0 x y 0 k = r := ⟨_, rfl⟩
  have XO := Lib.hid (show DoIs (.agg #[.int .i64 8, .int .i64 (k : Nat), .int .i64 0, .int .i64 0, .int .i64 0, .int .i64 0, .int .i64 0]) _ _ (.int .i64 0) (.int .i64 (k : Nat)) (.int .i64 (x0 : Nat)) from mk 8 y x0 (isOp_of rfl) hy1 ex0)
  have BXO := Lib.hid (show ∀ u, Calls Try.prog 17 #[.int .i64 (x0 : Nat), .int .i64 (k : Nat)] u (BitsRet u x0 k) from fun u => Bits_any x0 k (by omega) u)
  obtain ⟨i0, ei0⟩ : ∃ r, doV 3 k 0 0 x 0 0 k = r := ⟨_, rfl⟩
  have IN := Lib.hid (show DoIs (.agg #[.int .i64 3, .int .i64 (k : Nat), .int .i64 0, .int .i64 0, .int .i64 0, .int .i64 0, .int .i64 0]) _ (.int .i64 0) (.int .i64 0) (.int .i64 (k : Nat)) (.int .i64 (i0 : Nat)) from mk 3 0 i0 (isOp_of rfl) (by decide) ei0)
  have BIN := Lib.hid (show ∀ u, Calls Try.prog 17 #[.int .i64 (i0 : Nat), .int .i64 (k : Nat)] u (BitsRet u i0 k) from fun u => Bits_any i0 k (by omega) u)
  have HT1 := Lib.hid (show ∀ i, i < k → a0.testBit i = (x.testBit i && y.testBit i) ∧ o0.testBit i = (x.testBit i || y.testBit i) ∧ x0.testBit i = (x.testBit i != y.testBit i) ∧ i0.testBit i = !x.testBit i from fun i hi => by
    subst ea0 eo0 ex0 ei0
    simp only [doV]
    rw [lt_mod (Nat.and_lt_two_pow _ hy2), lt_mod (Nat.or_lt_two_pow hx2 hy2), lt_mod (Nat.xor_lt_two_pow hx2 hy2), inv_math hk16 hx2, Nat.testBit_and, Nat.testBit_or, Nat.testBit_xor, show 2 ^ k - 1 - x = 2 ^ k - (x + 1) by omega, Nat.testBit_two_pow_sub_succ hx2]
    simp [hi])
  clear mk ea0 eo0 ex0 ei0
  clear hk hq hx2 hy2
  go_enter Try.func7, Try.ntmps7
  go_wp2_with fail
  refine H0.out.mono ?_
  rintro e w1 ⟨rfl, hb⟩
  have S1 := Lib.hid hb
  clear hb
  go_wp2_with fail
  refine (RM.out _).mono ?_
  rintro e w' ⟨rfl, rfl⟩
  go_wp2_with fail
  refine (RM.out _).mono ?_
  rintro e w' ⟨rfl, rfl⟩
  go_wp2_with fail
  refine (BX.out _).mono ?_
  rintro e w2 ⟨P, pc, rfl, hP, hb⟩
  have S2 := Lib.hid (Gr.trans S1.out hb)
  have HP := Lib.hid hP
  clear hb hP
  go_wp2_with fail
  refine (BY.out _).mono ?_
  rintro e w3 ⟨Q, qc, rfl, hQ, hb⟩
  have S3 := Lib.hid (Gr.trans S2.out hb)
  have HP3 := Lib.hid ((HP.out.below hb).more hb.size)
  have HQ := Lib.hid hQ
  have HT3 := Lib.hid ((hT.out.below S3.out).more S3.out.size)
  clear hb hQ HP
  go_wp2_with fail
  refine (NX.out _ _ _ HP3.out).mono ?_
  rintro e w' ⟨rfl, rfl⟩
  by_cases h32 : 32 < l.length
  · have hd : (32 : Int) < (l.length : Int) := by omega
    go_wp2_with fail
    go_ret
    exact ⟨rfl, S3.out⟩
  have hd : ¬ ((32 : Int) < (l.length : Int)) := by omega
  go_wp2_with fail
  refine (Num_any A cp l w3 (by omega) HT3).mono ?_
  rintro e w' ⟨rfl, rfl⟩
  go_wp2_with fail
  refine (Bits_any (numL l) l.length (by omega) w3).mono ?_
  rintro e w4 ⟨R, rc, rfl, hR, hb⟩
  rw [bits_numL] at hR
  have S4 := Lib.hid (Gr.trans S3.out hb)
  have HP4 := Lib.hid ((HP3.out.below hb).more hb.size)
  have HQ4 := Lib.hid ((HQ.out.below hb).more hb.size)
  have HT4 := Lib.hid ((HT3.out.below hb).more hb.size)
  have HR := Lib.hid hR
  clear hb hR HP3 HQ HT3
  go_wp2_with fail
  refine (Same_yes R A rc cp w4.heap.size l w4 (by omega) HR HT4).mono ?_
  rintro e w5 ⟨rfl, n5, rfl⟩
  have S5 := Lib.hid (Below.drewN S4.out n5)
  have HP5 := Lib.hid (show Bls (w4.drewN n5) (w4.drewN n5).heap.size P (bitsL x k) from HP4.out.below (Below.drewN (Below.refl _ _) _))
  have HQ5 := Lib.hid (show Bls (w4.drewN n5) (w4.drewN n5).heap.size Q (bitsL y k) from HQ4.out.below (Below.drewN (Below.refl _ _) _))
  clear HP4 HQ4 HT4 HR
  generalize w4.drewN n5 = v0 at S5 HP5 HQ5 ⊢
  go_wp2_with fail
  refine (AN.out _).mono ?_
  rintro e p0 ⟨rfl, hb⟩
  have SA0 := Lib.hid (Gr.trans S5.out hb)
  have HB0 := Lib.hid hb
  clear hb
  go_wp2_with fail
  refine (BAN.out _).mono ?_
  rintro e v1 ⟨R0, rc0, rfl, hR, hb⟩
  have SB0 := Lib.hid (Gr.trans SA0.out hb)
  have F0 := Lib.hid (Gr.trans HB0.out hb)
  have HR0 := Lib.hid hR
  clear hb hR HB0
  go_wp2_with fail
  refine (OR.out _).mono ?_
  rintro e p1 ⟨rfl, hb⟩
  have SA1 := Lib.hid (Gr.trans SB0.out hb)
  have HB1 := Lib.hid hb
  clear hb
  go_wp2_with fail
  refine (BOR.out _).mono ?_
  rintro e v2 ⟨R1, rc1, rfl, hR, hb⟩
  have SB1 := Lib.hid (Gr.trans SA1.out hb)
  have F1 := Lib.hid (Gr.trans HB1.out hb)
  have HR1 := Lib.hid hR
  clear hb hR HB1
  go_wp2_with fail
  refine (XO.out _).mono ?_
  rintro e p2 ⟨rfl, hb⟩
  have SA2 := Lib.hid (Gr.trans SB1.out hb)
  have HB2 := Lib.hid hb
  clear hb
  go_wp2_with fail
  refine (BXO.out _).mono ?_
  rintro e v3 ⟨R2, rc2, rfl, hR, hb⟩
  have SB2 := Lib.hid (Gr.trans SA2.out hb)
  have F2 := Lib.hid (Gr.trans HB2.out hb)
  have HR2 := Lib.hid hR
  clear hb hR HB2
  go_wp2_with fail
  refine (IN.out _).mono ?_
  rintro e p3 ⟨rfl, hb⟩
  have SA3 := Lib.hid (Gr.trans SB2.out hb)
  have HB3 := Lib.hid hb
  clear hb
  go_wp2_with fail
  refine (BIN.out _).mono ?_
  rintro e v4 ⟨R3, rc3, rfl, hR, hb⟩
  have SB3 := Lib.hid (Gr.trans SA3.out hb)
  have F3 := Lib.hid (Gr.trans HB3.out hb)
  have HR3 := Lib.hid hR
  clear hb hR HB3
  go_wp2_with fail
  have LP := Lib.hid ((((((((HP5.out.below F0.out).more F0.out.size).below F1.out).more F1.out.size).below F2.out).more F2.out.size).below F3.out).more F3.out.size)
  have LQ := Lib.hid ((((((((HQ5.out.below F0.out).more F0.out.size).below F1.out).more F1.out.size).below F2.out).more F2.out.size).below F3.out).more F3.out.size)
  have L0 := Lib.hid ((((((HR0.out.below F1.out).more F1.out.size).below F2.out).more F2.out.size).below F3.out).more F3.out.size)
  have L1 := Lib.hid ((((HR1.out.below F2.out).more F2.out.size).below F3.out).more F3.out.size)
  have L2 := Lib.hid ((HR2.out.below F3.out).more F3.out.size)
  clear HP5 HQ5 HR0 HR1 HR2 F0 F1 F2 F3 SA0 SA1 SA2 SA3 SB0 SB1 SB2 S1 S2 S3 S4 S5
  clear AN OR XO IN BAN BOR BXO BIN BX BY NX H0 RM hT hx hy hkI
  go_loopg [19] k (fun g i wr => ∃ j n : Nat, j + g = k ∧ i = .int .i64 (j : Nat) ∧ Hid (wr = v4.drewN n))
  case atStart => exact ⟨0, 0, by omega, rfl, Lib.hid rfl⟩
  case round =>
    obtain ⟨j, n, hjg, rfl, hwr⟩ := hrel
    obtain rfl := hwr.out
    have HK := Lib.hid hjg
    have hjk : j ≤ k := by omega
    clear hjg
    by_cases hlt : j < k
    · have hj1 : (j : Int) < (k : Int) := by omega
      have hj0 : (0 : Int) ≤ (j : Int) := by omega
      obtain ⟨t0, t1, t2, t3⟩ := HT1.out j hlt
      obtain ⟨gp, fp, rfl, cP⟩ := LP.out.at (bitsL_at (x := x) hlt)
      obtain ⟨gq, fq, rfl, cQ⟩ := LQ.out.at (bitsL_at (x := y) hlt)
      obtain ⟨g0, f0, rfl, c0⟩ := L0.out.at (bitsL_at (x := a0) hlt)
      obtain ⟨g1, f1, rfl, c1⟩ := L1.out.at (bitsL_at (x := o0) hlt)
      obtain ⟨g2, f2, rfl, c2⟩ := L2.out.at (bitsL_at (x := x0) hlt)
      obtain ⟨g3, f3, rfl, c3⟩ := HR3.out.at (bitsL_at (x := i0) hlt)
      rw [t0] at c0
      rw [t1] at c1
      rw [t2] at c2
      rw [t3] at c3
      clear t0 t1 t2 t3
      generalize x.testBit j = xb at cP c0 c1 c2 c3
      generalize y.testBit j = yb at cQ c0 c1 c2
      cases xb <;> cases yb
      all_goals
        simp at c0 c1 c2 c3
        go_wp2_with fail
        go_quiet (fail)
        go_wp2
        go_roundg (gk - 1)
        case measure => have := HK.out; omega
        case rel => exact ⟨j + 1, n + nq, by have := HK.out; omega, by go_num, Lib.hid (by first | rfl | rw [World.drewN_drewN])⟩
    · have hj : j = k := by omega
      subst hj
      go_wp2_with fail
      go_ret
      exact ⟨rfl, Below.drewN SB3.out _⟩
end Go.Proofs.Ytfnamjnggmndmaa
