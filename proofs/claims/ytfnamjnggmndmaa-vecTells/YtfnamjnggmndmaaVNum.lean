/-
  vec.Num, AND THE DOCUMENT'S Num, Bits, Same, WALKED.
-/
import Derived.Test.YtfnamjnggmndmaaVBit
namespace Go.Proofs.Ytfnamjnggmndmaa
open Go.RowKit
open VecM

/-- the number of bits -/
def numL : List Bool → Nat
  | [] => 0
  | b :: r => (if b then 1 else 0) + 2 * numL r
theorem numL_lt : ∀ l : List Bool, numL l < 2 ^ l.length
  | [] => by simp [numL]
  | b :: r => by
    have := numL_lt r
    rw [numL, List.length_cons, Nat.pow_succ]
    split <;> omega
theorem numL_snoc : ∀ (l : List Bool) (b : Bool), numL (l ++ [b]) = numL l + (if b then 2 ^ l.length else 0)
  | [], b => by simp [numL]
  | a :: r, b => by
    rw [List.cons_append, numL, numL_snoc r b, numL, List.length_cons, Nat.pow_succ]
    split <;> split <;> omega
theorem or_pow {m i : Nat} (h : m < 2 ^ i) : m ||| 2 ^ i = m + 2 ^ i := by
  rw [Nat.or_comm]
  have := Nat.two_pow_add_eq_or_of_lt h 1
  simp at this
  rw [← this]
  omega

set_option maxHeartbeats 1000000 in
theorem Num_any (A : Option Addr) (c : Nat) (l : List Bool) (w : World) (hl : l.length ≤ 32) (hT : Hid (Bls w w.heap.size A l)) :
    Calls Try.prog 19 #[.slice A l.length c] w fun e w' => e = .returned (.int .i64 (numL l : Nat)) ∧ w = w' := by
  go_enter Try.func19, Try.ntmps19
  go_wp2
  go_loopg [3, 8] l.length (fun g n i wr => ∃ k : Nat, k + g = l.length ∧ n = .int .i64 (numL (l.take k) : Nat) ∧ i = .int .i64 (k : Nat) ∧ w = wr)
  case atStart => exact ⟨0, by omega, rfl, rfl, rfl⟩
  case round =>
    obtain ⟨k, hkg, rfl, rfl, rfl⟩ := hrel
    have HK := Lib.hid hkg
    have hkl : k ≤ l.length := by omega
    clear hkg
    by_cases hlt : k < l.length
    · have hsome : l[k]? = some l[k] := List.getElem?_eq_getElem hlt
      generalize l[k] = b at hsome
      obtain ⟨g, off, rfl, hbl, c0⟩ := hT.out k b hsome
      have hi1 : (k : Int) < (l.length : Int) := by omega
      have hi0 : (0 : Int) ≤ (k : Int) := by omega
      have hn := numL_lt (l.take k)
      rw [List.length_take, Nat.min_eq_left (by omega)] at hn
      have ht : l.take (k + 1) = l.take k ++ [b] := by rw [List.take_add_one, hsome]; rfl
      have hsn := numL_snoc (l.take k) b
      rw [← ht, List.length_take, Nat.min_eq_left (by omega)] at hsn
      have HS := Lib.hid hsn
      clear hsn ht hsome
      have hp := pow_le32 (k := k) (by omega)
      have hw := wrap_pow (k := k) (by omega)
      generalize numL (l.take k) = m at hn HS ⊢
      have ho := or_nat (a := m) (b := 2 ^ k) (by omega) (by omega)
      rw [or_pow hn] at ho
      have HO := Lib.hid ho
      clear ho
      rcases b with _ | _
      · go_wp2
        go_roundg (gk - 1)
        case measure => have := HK.out; omega
        case rel => exact ⟨k + 1, by have := HK.out; omega, by rw [HS.out]; rfl, by go_num, rfl⟩
      · go_wp2
        go_roundg (gk - 1)
        case measure => have := HK.out; omega
        case rel => exact ⟨k + 1, by have := HK.out; omega, by rw [HS.out, if_pos trivial, ← HO.out, show ((2 : Int) ^ k) = ((2 ^ k : Nat) : Int) by simp], by go_num, rfl⟩
    · have hk : k = l.length := by omega
      subst hk
      rw [List.take_length]
      go_wp2
      go_ret
      exact ⟨rfl, rfl⟩

theorem numL_drop {l : List Bool} {k : Nat} {b : Bool} (h : l[k]? = some b) : numL (l.drop k) = (if b then 1 else 0) + 2 * numL (l.drop (k + 1)) := by
  have hl := (List.getElem?_eq_some_iff.1 h)
  obtain ⟨h1, h2⟩ := hl
  rw [List.drop_eq_getElem_cons h1, h2, numL]

set_option maxHeartbeats 1000000 in
theorem RNum_any (A : Option Addr) (c : Nat) (l : List Bool) (w : World) (hl : l.length ≤ 32) (hT : Hid (Bls w w.heap.size A l)) :
    Calls Try.prog 20 #[.slice A l.length c] w fun e w' => e = .returned (.int .i64 (numL l : Nat)) ∧ w = w' := by
  go_enter Try.func20, Try.ntmps20
  go_wp2
  go_loopg [3, 4] l.length (fun g n i wr => ∃ k : Nat, k = g ∧ k ≤ l.length ∧ n = .int .i64 (numL (l.drop k) : Nat) ∧ i = .int .i64 ((k : Int) - 1) ∧ w = wr)
  case atStart => exact ⟨l.length, rfl, Nat.le_refl _, by simp [numL], rfl, rfl⟩
  case round =>
    obtain ⟨k, hkg, hkl, rfl, rfl, rfl⟩ := hrel
    have HK := Lib.hid hkg
    clear hkg
    rcases k with _ | k
    · rw [List.drop_zero]
      go_wp2
      go_ret
      exact ⟨rfl, rfl⟩
    · have hlt : k < l.length := by omega
      have hsome : l[k]? = some l[k] := List.getElem?_eq_getElem hlt
      generalize l[k] = b at hsome
      obtain ⟨g, off, rfl, hbl, c0⟩ := hT.out k b hsome
      have hi1 : (k : Int) < (l.length : Int) := by omega
      have hi0 : (0 : Int) ≤ (k : Int) := by omega
      have hn := numL_lt (l.drop (k + 1))
      have hn2 : numL (l.drop (k + 1)) < 4294967296 := Nat.lt_of_lt_of_le hn (pow_le32 (by rw [List.length_drop]; omega)).2
      have HS := Lib.hid (numL_drop hsome)
      clear hn hsome
      have hk1 : (((k + 1 : Nat) : Int) - 1) = (k : Int) := by omega
      rw [hk1]
      generalize numL (l.drop (k + 1)) = m at hn2 HS ⊢
      rcases b with _ | _
      · go_wp2
        go_roundg k
        case measure => have := HK.out; omega
        case rel => exact ⟨k, rfl, by omega, by rw [HS.out]; simp, rfl, rfl⟩
      · go_wp2
        go_roundg k
        case measure => have := HK.out; omega
        case rel => exact ⟨k, rfl, by omega, by rw [HS.out]; simp; omega, rfl, rfl⟩

set_option maxHeartbeats 1000000 in
theorem Same_yes (A A' : Option Addr) (c c' B : Nat) (xs : List Bool) (w : World) (h1 : xs.length ≤ 1000) (hT : Hid (Bls w B A xs)) (hT' : Hid (Bls w B A' xs)) :
    Calls Try.prog 16 #[.slice A xs.length c, .slice A' xs.length c'] w fun e w' => e = .returned (.bool true) ∧ ∃ n, w' = w.drewN n := by
  go_enter Try.func16, Try.ntmps16
  go_wp2
  go_loopg [5] xs.length (fun g i wr => ∃ k n : Nat, k + g = xs.length ∧ i = .int .i64 (k : Nat) ∧ Hid (wr = w.drewN n))
  case atStart => exact ⟨0, 0, by omega, rfl, Lib.hid rfl⟩
  case round =>
    obtain ⟨k, n, hkg, rfl, hwr⟩ := hrel
    obtain rfl := hwr.out
    have HK := Lib.hid hkg
    have hkl : k ≤ xs.length := by omega
    clear hkg
    by_cases hlt : k < xs.length
    · have hsome : xs[k]? = some xs[k] := List.getElem?_eq_getElem hlt
      generalize xs[k] = b at hsome
      obtain ⟨g, off, rfl, hbl, c0⟩ := hT.out k b hsome
      obtain ⟨g', off', rfl, hbl', c1⟩ := hT'.out k b hsome
      have hi1 : (k : Int) < (xs.length : Int) := by omega
      have hi0 : (0 : Int) ≤ (k : Int) := by omega
      clear hsome
      go_wp2_with fail
      go_quiet (fail)
      go_wp2
      go_roundg (gk - 1)
      case measure => have := HK.out; omega
      case rel => exact ⟨k + 1, n + nq, by have := HK.out; omega, by go_num, Lib.hid (by first | rfl | rw [World.drewN_drewN])⟩
    · have hk : k = xs.length := by omega
      subst hk
      go_wp2
      go_ret
      exact ⟨rfl, n, rfl⟩

def RbRel (w : World) (x k : Nat) (g : Nat) (v i : Value) (wr : World) : Prop :=
  ∃ j : Nat, j + g = k ∧ i = .int .i64 (j : Nat) ∧ Hid (wr.ownsRow w.heap.size 4 1 v j (bcells ((bitsL x k).take j))) ∧ Hid (Below w.heap.size w wr)
theorem app_row {w w1 : World} {o : Obj} {base k : Nat} {e : TypeId} {v : Value} {xs : List Value} {w2 : World} (h : w1.ownsRow base e 1 v k xs) (hb : Below base w w1) (hg : (w1.alloc o).grownBy w2 v.ownBlock) (hbase : base ≤ w1.heap.size) : Below base w w2 :=
  (hb.alloc hbase _).grown hg (Nat.le_trans hbase (by simp)) (fun _ e => (h.lt _ e).1)
set_option maxRecDepth 100000 in
set_option maxHeartbeats 1000000 in
theorem RBits_any (x k : Nat) (hk : k ≤ 32) (w : World) : Calls Try.prog 18 #[.int .i64 (x : Nat), .int .i64 (k : Nat)] w (BitsRet w x k) := by
  obtain ⟨i0, hi, hz0, hz1, hz2⟩ := info_parts info4
  have HI := Lib.hid (And.intro hi (And.intro hz0 (And.intro hz1 hz2)))
  clear hi hz0 hz1 hz2
  go_enter Try.func18, Try.ntmps18
  go_wp2
  go_loopg [5, 6] k (fun g v i wr => RbRel w x k g v i wr)
  case atStart => exact ⟨0, by omega, rfl, Lib.hid (World.ownsRow_nil _ _ _ _), Lib.hid (Below.refl _ _)⟩
  case round =>
    obtain ⟨j, hjg, rfl, HO, HW⟩ := hrel
    have HK := Lib.hid hjg
    have hjk : j ≤ k := by omega
    clear hjg
    by_cases hlt : j < k
    · have hi1 : (j : Int) < (k : Int) := by omega
      have hi0 : (0 : Int) ≤ (j : Int) := by omega
      have hws := HW.out.size
      go_wp2_with (at_builtin; refine wpList_append_own _ rfl _ _ 25 rfl w.heap.size 4 i0 (.bool false) 1 1 Try.underlying25 HI.out.1 HI.out.2.1 HI.out.2.2.1 HI.out.2.2.2 rfl (by decide) _ _ _ rfl (HO.out.alloc _) ⟨wr.heap.size, 0, none⟩ 1 1 [.bool (bits .and .i64 ((x : Int) / 2 ^ j) 1 == 1)] rfl rfl (cell_one_new _ _ _) (by simp [Value.oneCell']) (by unfold maxLen; omega) (by omega) (by simp; omega) ?_; intro v' w3 hown' hgrow3 hnil3; have HO3 := Lib.hid hown'; have HB3 := Lib.hid (app_row HO.out HW.out hgrow3 hws); clear hown' hgrow3 hnil3)
      go_roundg (gk - 1)
      case measure => have := HK.out; omega
      case rel => exact ⟨j + 1, by have := HK.out; omega, by go_num, Lib.hid (by rw [bitsL_take hlt, bcells_snoc, ← bit_form]; exact HO3.out), HB3⟩
    · obtain rfl : j = k := by omega
      have ho := HO.out
      rw [List.take_of_length_le (by simp [bitsL_len])] at ho
      obtain ⟨A, c, rfl, hbl⟩ := bls_of_own ho (bitsL_len x j)
      have HBL := Lib.hid hbl
      clear ho hbl HO
      go_wp2
      go_ret
      exact ⟨A, c, rfl, HBL.out, HW.out⟩
end Go.Proofs.Ytfnamjnggmndmaa
