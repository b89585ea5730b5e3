/-
  vec.Do, WALKED.
-/
import Derived.Test.YtmnblcnhbafcpaaJ02
namespace Go.Proofs.Ytmnblcnhbafcpaa
open Go.RowKit
open VecM
variable {xA xB xC : Int}

/-- what a node makes -/
def doV (op W N Lo a b c wb : Nat) : Nat := match op with
  | 1 => N
  | 3 => (65535 - a) % 2 ^ W
  | 4 => if a = 0 then 0 else 1
  | 5 => if a = 2 ^ Lo - 1 then 1 else 0
  | 6 => (a &&& b) % 2 ^ W
  | 7 => (a ||| b) % 2 ^ W
  | 8 => (a ^^^ b) % 2 ^ W
  | 9 => (a + b) % 2 ^ W
  | 10 => (a + 65536 - b) % 2 ^ W
  | 11 => (a * b) % 2 ^ W
  | 12 => if a = b then 1 else 0
  | 13 => if a = b then 0 else 1
  | 14 => if a < b then 1 else 0
  | 15 => if a ≤ b then 1 else 0
  | 16 => if a = 1 then b else c
  | 17 => a * 2 ^ wb + b
  | 18 => a / 2 ^ Lo % 2 ^ W
  | _ => 0

set_option maxRecDepth 100000 in
set_option maxHeartbeats 1000000 in
theorem Do_rec (op W N Lo a b c wb r : Nat) (h21 : ∀ u, Calls Try.prog 53 #[ndV xA xB xC op W N Lo, .int .i64 a, .int .i64 b] u fun e w' => e = .returned (.tuple #[.int .i64 (r : Nat), .bool true]) ∧ Below u.heap.size u w') (w : World) :
    Calls Try.prog 44 #[ndV xA xB xC op W N Lo, .int .i64 a, .int .i64 b, .int .i64 c, .int .i64 wb] w fun e w' => e = .returned (.int .i64 (r : Nat)) ∧ Below w.heap.size w w' := by
  have hc : ∀ (j : Nat) (v : Value), [Value.int .i64 (op : Nat), .int .i64 (W : Nat), .int .i64 xA, .int .i64 xB, .int .i64 xC, .int .i64 (N : Nat), .int .i64 (Lo : Nat)][j]? = some v → (w.alloc (.cells #[.int .i64 (op : Nat), .int .i64 (W : Nat), .int .i64 xA, .int .i64 xB, .int .i64 xC, .int .i64 (N : Nat), .int .i64 (Lo : Nat)] 53)).cell? ⟨w.heap.size, j, none⟩ = some v := fun j v hj => by
    simp only [World.cell?, heap_new]
    simpa using hj
  have HC := Lib.hid (show ∀ u, Below (w.heap.size + 1) (w.alloc (.cells #[.int .i64 (op : Nat), .int .i64 (W : Nat), .int .i64 xA, .int .i64 xB, .int .i64 xC, .int .i64 (N : Nat), .int .i64 (Lo : Nat)] 53)) u → u.cell? ⟨w.heap.size, 0, none⟩ = some (.int .i64 (op : Nat)) ∧ u.cell? ⟨w.heap.size, 1, none⟩ = some (.int .i64 (W : Nat)) ∧ u.cell? ⟨w.heap.size, 2, none⟩ = some (.int .i64 xA) ∧ u.cell? ⟨w.heap.size, 3, none⟩ = some (.int .i64 xB) ∧ u.cell? ⟨w.heap.size, 4, none⟩ = some (.int .i64 xC) ∧ u.cell? ⟨w.heap.size, 5, none⟩ = some (.int .i64 (N : Nat)) ∧ u.cell? ⟨w.heap.size, 6, none⟩ = some (.int .i64 (Lo : Nat)) from fun u hb => by
    refine ⟨?_, ?_, ?_, ?_, ?_, ?_, ?_⟩
    all_goals
      rw [hb.cell (by simp)]
      exact hc _ _ rfl)
  have HS := Lib.hid ((bel_alloc w (.cells #[.int .i64 (op : Nat), .int .i64 (W : Nat), .int .i64 xA, .int .i64 xB, .int .i64 xC, .int .i64 (N : Nat), .int .i64 (Lo : Nat)] 53)))
  have H21 := Lib.hid h21
  clear hc h21
  go_enter Try.func44, Try.ntmps44
  go_wp2_with fail
  refine (H21.out _).mono ?_
  rintro e w1 ⟨rfl, hb1⟩
  rw [World.size_alloc] at hb1
  have S1 := Lib.hid hb1
  obtain ⟨d0, d1, d2, d3, d4, d5, d6⟩ := HC.out w1 hb1
  clear hb1
  go_wp2
  go_ret
  exact ⟨rfl, HS.out.trans (S1.out.mono (by omega))⟩

set_option maxRecDepth 100000 in
set_option maxHeartbeats 1000000 in
theorem Do_yes (op W N Lo a b c wb r : Nat) (h21 : ∀ u, Calls Try.prog 53 #[ndV xA xB xC op W N Lo, .int .i64 a, .int .i64 b] u fun e w' => e = .returned (.tuple #[.int .i64 0, .bool false]) ∧ Below u.heap.size u w') (h22 : ∀ u, Calls Try.prog 54 #[ndV xA xB xC op W N Lo, .int .i64 a, .int .i64 b] u fun e w' => e = .returned (.tuple #[.bool true, .bool true]) ∧ Below u.heap.size u w') (hr : r = 1) (w : World) :
    Calls Try.prog 44 #[ndV xA xB xC op W N Lo, .int .i64 a, .int .i64 b, .int .i64 c, .int .i64 wb] w fun e w' => e = .returned (.int .i64 (r : Nat)) ∧ Below w.heap.size w w' := by
  subst hr
  have hc : ∀ (j : Nat) (v : Value), [Value.int .i64 (op : Nat), .int .i64 (W : Nat), .int .i64 xA, .int .i64 xB, .int .i64 xC, .int .i64 (N : Nat), .int .i64 (Lo : Nat)][j]? = some v → (w.alloc (.cells #[.int .i64 (op : Nat), .int .i64 (W : Nat), .int .i64 xA, .int .i64 xB, .int .i64 xC, .int .i64 (N : Nat), .int .i64 (Lo : Nat)] 53)).cell? ⟨w.heap.size, j, none⟩ = some v := fun j v hj => by
    simp only [World.cell?, heap_new]
    simpa using hj
  have HC := Lib.hid (show ∀ u, Below (w.heap.size + 1) (w.alloc (.cells #[.int .i64 (op : Nat), .int .i64 (W : Nat), .int .i64 xA, .int .i64 xB, .int .i64 xC, .int .i64 (N : Nat), .int .i64 (Lo : Nat)] 53)) u → u.cell? ⟨w.heap.size, 0, none⟩ = some (.int .i64 (op : Nat)) ∧ u.cell? ⟨w.heap.size, 1, none⟩ = some (.int .i64 (W : Nat)) ∧ u.cell? ⟨w.heap.size, 2, none⟩ = some (.int .i64 xA) ∧ u.cell? ⟨w.heap.size, 3, none⟩ = some (.int .i64 xB) ∧ u.cell? ⟨w.heap.size, 4, none⟩ = some (.int .i64 xC) ∧ u.cell? ⟨w.heap.size, 5, none⟩ = some (.int .i64 (N : Nat)) ∧ u.cell? ⟨w.heap.size, 6, none⟩ = some (.int .i64 (Lo : Nat)) from fun u hb => by
    refine ⟨?_, ?_, ?_, ?_, ?_, ?_, ?_⟩
    all_goals
      rw [hb.cell (by simp)]
      exact hc _ _ rfl)
  have HS := Lib.hid ((bel_alloc w (.cells #[.int .i64 (op : Nat), .int .i64 (W : Nat), .int .i64 xA, .int .i64 xB, .int .i64 xC, .int .i64 (N : Nat), .int .i64 (Lo : Nat)] 53)))
  have H21 := Lib.hid h21
  have H22 := Lib.hid h22
  clear hc h21 h22
  go_enter Try.func44, Try.ntmps44
  go_wp2_with fail
  refine (H21.out _).mono ?_
  rintro e w1 ⟨rfl, hb1⟩
  rw [World.size_alloc] at hb1
  have S1 := Lib.hid hb1
  obtain ⟨d0, d1, d2, d3, d4, d5, d6⟩ := HC.out w1 hb1
  clear hb1
  go_wp2_with fail
  refine (H22.out _).mono ?_
  rintro e w2 ⟨rfl, hb2⟩
  have hb3 := S1.out.trans (hb2.mono (by have := S1.out.size; simpa using this))
  have S2 := Lib.hid hb3
  clear d0 d1 d2 d3 d4 d5 d6
  obtain ⟨d0, d1, d2, d3, d4, d5, d6⟩ := HC.out w2 hb3
  clear hb2 hb3
  go_wp2
  go_ret
  exact ⟨rfl, HS.out.trans (S2.out.mono (by omega))⟩

set_option maxRecDepth 100000 in
set_option maxHeartbeats 1000000 in
theorem Do_no (op W N Lo a b c wb r : Nat) (h21 : ∀ u, Calls Try.prog 53 #[ndV xA xB xC op W N Lo, .int .i64 a, .int .i64 b] u fun e w' => e = .returned (.tuple #[.int .i64 0, .bool false]) ∧ Below u.heap.size u w') (h22 : ∀ u, Calls Try.prog 54 #[ndV xA xB xC op W N Lo, .int .i64 a, .int .i64 b] u fun e w' => e = .returned (.tuple #[.bool false, .bool true]) ∧ Below u.heap.size u w') (hr : r = 0) (w : World) :
    Calls Try.prog 44 #[ndV xA xB xC op W N Lo, .int .i64 a, .int .i64 b, .int .i64 c, .int .i64 wb] w fun e w' => e = .returned (.int .i64 (r : Nat)) ∧ Below w.heap.size w w' := by
  subst hr
  have hc : ∀ (j : Nat) (v : Value), [Value.int .i64 (op : Nat), .int .i64 (W : Nat), .int .i64 xA, .int .i64 xB, .int .i64 xC, .int .i64 (N : Nat), .int .i64 (Lo : Nat)][j]? = some v → (w.alloc (.cells #[.int .i64 (op : Nat), .int .i64 (W : Nat), .int .i64 xA, .int .i64 xB, .int .i64 xC, .int .i64 (N : Nat), .int .i64 (Lo : Nat)] 53)).cell? ⟨w.heap.size, j, none⟩ = some v := fun j v hj => by
    simp only [World.cell?, heap_new]
    simpa using hj
  have HC := Lib.hid (show ∀ u, Below (w.heap.size + 1) (w.alloc (.cells #[.int .i64 (op : Nat), .int .i64 (W : Nat), .int .i64 xA, .int .i64 xB, .int .i64 xC, .int .i64 (N : Nat), .int .i64 (Lo : Nat)] 53)) u → u.cell? ⟨w.heap.size, 0, none⟩ = some (.int .i64 (op : Nat)) ∧ u.cell? ⟨w.heap.size, 1, none⟩ = some (.int .i64 (W : Nat)) ∧ u.cell? ⟨w.heap.size, 2, none⟩ = some (.int .i64 xA) ∧ u.cell? ⟨w.heap.size, 3, none⟩ = some (.int .i64 xB) ∧ u.cell? ⟨w.heap.size, 4, none⟩ = some (.int .i64 xC) ∧ u.cell? ⟨w.heap.size, 5, none⟩ = some (.int .i64 (N : Nat)) ∧ u.cell? ⟨w.heap.size, 6, none⟩ = some (.int .i64 (Lo : Nat)) from fun u hb => by
    refine ⟨?_, ?_, ?_, ?_, ?_, ?_, ?_⟩
    all_goals
      rw [hb.cell (by simp)]
      exact hc _ _ rfl)
  have HS := Lib.hid ((bel_alloc w (.cells #[.int .i64 (op : Nat), .int .i64 (W : Nat), .int .i64 xA, .int .i64 xB, .int .i64 xC, .int .i64 (N : Nat), .int .i64 (Lo : Nat)] 53)))
  have H21 := Lib.hid h21
  have H22 := Lib.hid h22
  clear hc h21 h22
  go_enter Try.func44, Try.ntmps44
  go_wp2_with fail
  refine (H21.out _).mono ?_
  rintro e w1 ⟨rfl, hb1⟩
  rw [World.size_alloc] at hb1
  have S1 := Lib.hid hb1
  obtain ⟨d0, d1, d2, d3, d4, d5, d6⟩ := HC.out w1 hb1
  clear hb1
  go_wp2_with fail
  refine (H22.out _).mono ?_
  rintro e w2 ⟨rfl, hb2⟩
  have hb3 := S1.out.trans (hb2.mono (by have := S1.out.size; simpa using this))
  have S2 := Lib.hid hb3
  clear d0 d1 d2 d3 d4 d5 d6
  obtain ⟨d0, d1, d2, d3, d4, d5, d6⟩ := HC.out w2 hb3
  clear hb2 hb3
  go_wp2
  go_ret
  exact ⟨rfl, HS.out.trans (S2.out.mono (by omega))⟩

set_option maxRecDepth 100000 in
set_option maxHeartbeats 1000000 in
theorem Do_pla (op W N Lo a b c wb r : Nat) (h21 : ∀ u, Calls Try.prog 53 #[ndV xA xB xC op W N Lo, .int .i64 a, .int .i64 b] u fun e w' => e = .returned (.tuple #[.int .i64 0, .bool false]) ∧ Below u.heap.size u w') (h22 : ∀ u, Calls Try.prog 54 #[ndV xA xB xC op W N Lo, .int .i64 a, .int .i64 b] u fun e w' => e = .returned (.tuple #[.bool false, .bool false]) ∧ Below u.heap.size u w') (h23 : ∀ u, Calls Try.prog 55 #[ndV xA xB xC op W N Lo, .int .i64 a, .int .i64 b, .int .i64 c, .int .i64 wb] u fun e w' => e = .returned (.int .i64 (r : Nat)) ∧ Below u.heap.size u w') (w : World) :
    Calls Try.prog 44 #[ndV xA xB xC op W N Lo, .int .i64 a, .int .i64 b, .int .i64 c, .int .i64 wb] w fun e w' => e = .returned (.int .i64 (r : Nat)) ∧ Below w.heap.size w w' := by
  have hc : ∀ (j : Nat) (v : Value), [Value.int .i64 (op : Nat), .int .i64 (W : Nat), .int .i64 xA, .int .i64 xB, .int .i64 xC, .int .i64 (N : Nat), .int .i64 (Lo : Nat)][j]? = some v → (w.alloc (.cells #[.int .i64 (op : Nat), .int .i64 (W : Nat), .int .i64 xA, .int .i64 xB, .int .i64 xC, .int .i64 (N : Nat), .int .i64 (Lo : Nat)] 53)).cell? ⟨w.heap.size, j, none⟩ = some v := fun j v hj => by
    simp only [World.cell?, heap_new]
    simpa using hj
  have HC := Lib.hid (show ∀ u, Below (w.heap.size + 1) (w.alloc (.cells #[.int .i64 (op : Nat), .int .i64 (W : Nat), .int .i64 xA, .int .i64 xB, .int .i64 xC, .int .i64 (N : Nat), .int .i64 (Lo : Nat)] 53)) u → u.cell? ⟨w.heap.size, 0, none⟩ = some (.int .i64 (op : Nat)) ∧ u.cell? ⟨w.heap.size, 1, none⟩ = some (.int .i64 (W : Nat)) ∧ u.cell? ⟨w.heap.size, 2, none⟩ = some (.int .i64 xA) ∧ u.cell? ⟨w.heap.size, 3, none⟩ = some (.int .i64 xB) ∧ u.cell? ⟨w.heap.size, 4, none⟩ = some (.int .i64 xC) ∧ u.cell? ⟨w.heap.size, 5, none⟩ = some (.int .i64 (N : Nat)) ∧ u.cell? ⟨w.heap.size, 6, none⟩ = some (.int .i64 (Lo : Nat)) from fun u hb => by
    refine ⟨?_, ?_, ?_, ?_, ?_, ?_, ?_⟩
    all_goals
      rw [hb.cell (by simp)]
      exact hc _ _ rfl)
  have HS := Lib.hid ((bel_alloc w (.cells #[.int .i64 (op : Nat), .int .i64 (W : Nat), .int .i64 xA, .int .i64 xB, .int .i64 xC, .int .i64 (N : Nat), .int .i64 (Lo : Nat)] 53)))
  have H21 := Lib.hid h21
  have H22 := Lib.hid h22
  have H23 := Lib.hid h23
  clear hc h21 h22 h23
  go_enter Try.func44, Try.ntmps44
  go_wp2_with fail
  refine (H21.out _).mono ?_
  rintro e w1 ⟨rfl, hb1⟩
  rw [World.size_alloc] at hb1
  have S1 := Lib.hid hb1
  obtain ⟨d0, d1, d2, d3, d4, d5, d6⟩ := HC.out w1 hb1
  clear hb1
  go_wp2_with fail
  refine (H22.out _).mono ?_
  rintro e w2 ⟨rfl, hb2⟩
  have hb3 := S1.out.trans (hb2.mono (by have := S1.out.size; simpa using this))
  have S2 := Lib.hid hb3
  clear d0 d1 d2 d3 d4 d5 d6
  obtain ⟨d0, d1, d2, d3, d4, d5, d6⟩ := HC.out w2 hb3
  clear hb2 hb3
  go_wp2_with fail
  refine (H23.out _).mono ?_
  rintro e w3 ⟨rfl, hb2⟩
  have S3 := Lib.hid (S2.out.trans (hb2.mono (by have := S2.out.size; simpa using this)))
  clear hb2
  go_wp2
  go_ret
  exact ⟨rfl, HS.out.trans (S3.out.mono (by omega))⟩

/-- the ops that there are -/
def isOp (op : Nat) : Prop := op = 1 ∨ op = 3 ∨ op = 4 ∨ op = 5 ∨ op = 6 ∨ op = 7 ∨ op = 8 ∨ op = 9 ∨ op = 10 ∨ op = 11 ∨ op = 12 ∨ op = 13 ∨ op = 14 ∨ op = 15 ∨ op = 16 ∨ op = 17 ∨ op = 18
theorem Do_any (op W N Lo a b c wb : Nat) (ho : isOp op) (hW : W ≤ 16) (hL : Lo ≤ 16) (hwb : wb ≤ 16) (ha : a < 65536) (hb : b < 65536) (w : World) :
    Calls Try.prog 44 #[ndV xA xB xC op W N Lo, .int .i64 a, .int .i64 b, .int .i64 c, .int .i64 wb] w fun e w' => e = .returned (.int .i64 (doV op W N Lo a b c wb : Nat)) ∧ Below w.heap.size w w' := by
  rcases ho with rfl | rfl | rfl | rfl | rfl | rfl | rfl | rfl | rfl | rfl | rfl | rfl | rfl | rfl | rfl | rfl | rfl
  · exact Do_pla 1 W N Lo a b c wb _ (fun u => rec_1 W N Lo a b u) (fun u => tol_1 W N Lo a b u) (fun u => pla_1 W N Lo a b c wb hW hL hwb ha hb u) w
  · exact Do_rec 3 W N Lo a b c wb _ (fun u => rec_3 W N Lo a b hW ha hb u) w
  · cases h : (!(a == 0))
    · exact Do_no 4 W N Lo a b c wb _ (fun u => rec_4 W N Lo a b u) (fun u => by have := tol_4 (xA := xA) (xB := xB) (xC := xC) W N Lo a b hL u; rw [h] at this; exact this) (by simp at h; simp only [doV]; first | exact if_pos (by omega) | exact if_neg (by omega)) w
    · exact Do_yes 4 W N Lo a b c wb _ (fun u => rec_4 W N Lo a b u) (fun u => by have := tol_4 (xA := xA) (xB := xB) (xC := xC) W N Lo a b hL u; rw [h] at this; exact this) (by simp at h; simp only [doV]; first | exact if_pos (by omega) | exact if_neg (by omega)) w
  · cases h : (a == 2 ^ Lo - 1)
    · exact Do_no 5 W N Lo a b c wb _ (fun u => rec_5 W N Lo a b u) (fun u => by have := tol_5 (xA := xA) (xB := xB) (xC := xC) W N Lo a b hL u; rw [h] at this; exact this) (by simp at h; simp only [doV]; first | exact if_pos (by omega) | exact if_neg (by omega)) w
    · exact Do_yes 5 W N Lo a b c wb _ (fun u => rec_5 W N Lo a b u) (fun u => by have := tol_5 (xA := xA) (xB := xB) (xC := xC) W N Lo a b hL u; rw [h] at this; exact this) (by simp at h; simp only [doV]; first | exact if_pos (by omega) | exact if_neg (by omega)) w
  · exact Do_rec 6 W N Lo a b c wb _ (fun u => rec_6 W N Lo a b hW ha hb u) w
  · exact Do_rec 7 W N Lo a b c wb _ (fun u => rec_7 W N Lo a b hW ha hb u) w
  · exact Do_rec 8 W N Lo a b c wb _ (fun u => rec_8 W N Lo a b hW ha hb u) w
  · exact Do_rec 9 W N Lo a b c wb _ (fun u => rec_9 W N Lo a b hW ha hb u) w
  · exact Do_rec 10 W N Lo a b c wb _ (fun u => rec_10 W N Lo a b hW ha hb u) w
  · exact Do_rec 11 W N Lo a b c wb _ (fun u => rec_11 W N Lo a b hW ha hb u) w
  · cases h : (a == b)
    · exact Do_no 12 W N Lo a b c wb _ (fun u => rec_12 W N Lo a b u) (fun u => by have := tol_12 (xA := xA) (xB := xB) (xC := xC) W N Lo a b hL u; rw [h] at this; exact this) (by simp at h; simp only [doV]; first | exact if_pos (by omega) | exact if_neg (by omega)) w
    · exact Do_yes 12 W N Lo a b c wb _ (fun u => rec_12 W N Lo a b u) (fun u => by have := tol_12 (xA := xA) (xB := xB) (xC := xC) W N Lo a b hL u; rw [h] at this; exact this) (by simp at h; simp only [doV]; first | exact if_pos (by omega) | exact if_neg (by omega)) w
  · cases h : (!(a == b))
    · exact Do_no 13 W N Lo a b c wb _ (fun u => rec_13 W N Lo a b u) (fun u => by have := tol_13 (xA := xA) (xB := xB) (xC := xC) W N Lo a b hL u; rw [h] at this; exact this) (by simp at h; simp only [doV]; first | exact if_pos (by omega) | exact if_neg (by omega)) w
    · exact Do_yes 13 W N Lo a b c wb _ (fun u => rec_13 W N Lo a b u) (fun u => by have := tol_13 (xA := xA) (xB := xB) (xC := xC) W N Lo a b hL u; rw [h] at this; exact this) (by simp at h; simp only [doV]; first | exact if_pos (by omega) | exact if_neg (by omega)) w
  · cases h : (decide (a < b))
    · exact Do_no 14 W N Lo a b c wb _ (fun u => rec_14 W N Lo a b u) (fun u => by have := tol_14 (xA := xA) (xB := xB) (xC := xC) W N Lo a b hL u; rw [h] at this; exact this) (by simp at h; simp only [doV]; first | exact if_pos (by omega) | exact if_neg (by omega)) w
    · exact Do_yes 14 W N Lo a b c wb _ (fun u => rec_14 W N Lo a b u) (fun u => by have := tol_14 (xA := xA) (xB := xB) (xC := xC) W N Lo a b hL u; rw [h] at this; exact this) (by simp at h; simp only [doV]; first | exact if_pos (by omega) | exact if_neg (by omega)) w
  · cases h : (decide (a ≤ b))
    · exact Do_no 15 W N Lo a b c wb _ (fun u => rec_15 W N Lo a b u) (fun u => by have := tol_15 (xA := xA) (xB := xB) (xC := xC) W N Lo a b hL u; rw [h] at this; exact this) (by simp at h; simp only [doV]; first | exact if_pos (by omega) | exact if_neg (by omega)) w
    · exact Do_yes 15 W N Lo a b c wb _ (fun u => rec_15 W N Lo a b u) (fun u => by have := tol_15 (xA := xA) (xB := xB) (xC := xC) W N Lo a b hL u; rw [h] at this; exact this) (by simp at h; simp only [doV]; first | exact if_pos (by omega) | exact if_neg (by omega)) w
  · exact Do_pla 16 W N Lo a b c wb _ (fun u => rec_16 W N Lo a b u) (fun u => tol_16 W N Lo a b u) (fun u => pla_16 W N Lo a b c wb hW hL hwb ha hb u) w
  · exact Do_pla 17 W N Lo a b c wb _ (fun u => rec_17 W N Lo a b u) (fun u => tol_17 W N Lo a b u) (fun u => pla_17 W N Lo a b c wb hW hL hwb ha hb u) w
  · exact Do_pla 18 W N Lo a b c wb _ (fun u => rec_18 W N Lo a b u) (fun u => tol_18 W N Lo a b u) (fun u => pla_18 W N Lo a b c wb hW hL hwb ha hb u) w
end Go.Proofs.Ytmnblcnhbafcpaa
