/-
  Made: what it hands back.
-/
import Derived.Test.YtfnamjnggmndmaaVSum
import Derived.Test.YtfnamjnggmndmaaVRef
namespace Go.Proofs.Ytfnamjnggmndmaa
open Go.RowKit
open VecM
/-- what Made hands back -/
def Good (op W N Lo a b c wb : Nat) : Prop := isOp op ∧ W ≤ 16 ∧ Lo ≤ 16 ∧ wb ≤ 16 ∧ a < 65536 ∧ b < 65536 ∧ rOk op W N Lo a b ∧ doV op W N Lo a b c wb < 2 ^ W
def MadeRet (w : World) (e : Ending) (w' : World) : Prop := ∃ op W N Lo a b c wb : Nat, Good op W N Lo a b c wb ∧ e = .returned (.tuple #[ndV op W N Lo, .int .i64 (a : Nat), .int .i64 (b : Nat), .int .i64 (c : Nat), .int .i64 (wb : Nat)]) ∧ Below w.heap.size w w'
theorem good_1 {k a : Nat} (hk : k ≤ 16) (_h2 : 2 ^ k ≤ 65536) (ha : a < 2 ^ k) : Good 1 k a 0 0 0 0 0 :=
  ⟨isOp_of rfl, hk, by decide, by decide, by decide, by decide, ⟨(fun h => absurd h (by decide)), (fun h => absurd h (by decide)), (fun h => absurd h (by decide))⟩, ha⟩
theorem good_3 {k a : Nat} (hk : k ≤ 16) (h2 : 2 ^ k ≤ 65536) (ha : a < 2 ^ k) : Good 3 k 0 0 a 0 0 k :=
  ⟨isOp_of rfl, hk, by decide, hk, by omega, by decide, ⟨(fun _ => ha), (fun h => absurd h (by decide)), (fun h => absurd h (by decide))⟩, mod_lt_pow _ _⟩
theorem good_t {o k a b wb : Nat} (ho : o = 4 ∨ o = 5 ∨ o = 12 ∨ o = 13 ∨ o = 14 ∨ o = 15) (hk : k ≤ 16) (ha : a < 65536) (hb : b < 65536) (hw : wb ≤ 16) : Good o 1 0 k a b 0 wb := by
  have h : ∀ (p : Prop) [Decidable p], (if p then 0 else 1) < 2 ^ 1 ∧ (if p then 1 else 0) < 2 ^ 1 := fun p _ => by by_cases h : p <;> simp [h]
  refine ⟨?_, by decide, hk, hw, ha, hb, ?_, ?_⟩
  · rcases ho with rfl | rfl | rfl | rfl | rfl | rfl <;> exact isOp_of rfl
  · rcases ho with rfl | rfl | rfl | rfl | rfl | rfl <;> exact ⟨(fun h => absurd h (by decide)), (fun h => absurd h (by decide)), (fun h => absurd h (by decide))⟩
  · rcases ho with rfl | rfl | rfl | rfl | rfl | rfl
    · exact (h _).1
    · exact (h _).2
    · exact (h _).2
    · exact (h _).1
    · exact (h _).2
    · exact (h _).2
theorem good_m {o k a b : Nat} (ho : o = 6 ∨ o = 7 ∨ o = 8 ∨ o = 9 ∨ o = 10 ∨ o = 11) (hk : k ≤ 16) (h2 : 2 ^ k ≤ 65536) (ha : a < 2 ^ k) (hb : b < 2 ^ k) : Good o k 0 0 a b 0 k := by
  refine ⟨?_, hk, by decide, hk, by omega, by omega, ⟨fun _ => ha, fun _ => hb, ?_⟩, ?_⟩
  · rcases ho with rfl | rfl | rfl | rfl | rfl | rfl <;> exact isOp_of rfl
  · rcases ho with rfl | rfl | rfl | rfl | rfl | rfl <;> exact fun h => absurd h (by decide)
  · rcases ho with rfl | rfl | rfl | rfl | rfl | rfl <;> exact mod_lt_pow _ _
theorem results11 (tmps : Array Value) (g : Nat) (V : World) (x0 x1 x2 x3 x4 x5 x6 y3 y4 y5 y6 : Value) (t : TypeId) (fr : Nat × Nat) (ht : tmps.getD 2 undef = .pointer (some ⟨g, 0, none⟩)) (h3 : tmps.getD 3 undef = y3) (h4 : tmps.getD 4 undef = y4) (h5 : tmps.getD 5 undef = y5) (h6 : tmps.getD 6 undef = y6)
    (hc : V.heap[g]? = some (.cells #[x0, x1, x2, x3, x4, x5, x6] t fr)) : (results Try.f11 tmps).run Try.prog V = .ok (.tuple #[.agg #[x0, x1, x2, x3, x4, x5, x6], y3, y4, y5, y6]) V := by
  have c0 : V.cell? ⟨g, 0, none⟩ = some x0 := by simp [World.cell?, hc]
  have c1 : V.cell? ⟨g, 1, none⟩ = some x1 := by simp [World.cell?, hc]
  have c2 : V.cell? ⟨g, 2, none⟩ = some x2 := by simp [World.cell?, hc]
  have c3 : V.cell? ⟨g, 3, none⟩ = some x3 := by simp [World.cell?, hc]
  have c4 : V.cell? ⟨g, 4, none⟩ = some x4 := by simp [World.cell?, hc]
  have c5 : V.cell? ⟨g, 5, none⟩ = some x5 := by simp [World.cell?, hc]
  have c6 : V.cell? ⟨g, 6, none⟩ = some x6 := by simp [World.cell?, hc]
  clear hc
  have ht' : tmps[2]?.getD undef = .pointer (some ⟨g, 0, none⟩) := by rw [← ht]; simp
  have h3' : tmps[3]?.getD undef = y3 := by rw [← h3]; simp
  have h4' : tmps[4]?.getD undef = y4 := by rw [← h4]; simp
  have h5' : tmps[5]?.getD undef = y5 := by rw [← h5]; simp
  have h6' : tmps[6]?.getD undef = y6 := by rw [← h6]; simp
  clear ht h3 h4 h5 h6
  simp [results, Try.f11, go_sem, ht', h3', h4', h5', h6', c0, c1, c2, c3, c4, c5, c6]
theorem put7 {u : World} {g : Nat} {z0 z1 z2 z3 z4 z5 z6 x0 x1 x2 x3 x4 x5 x6 : Value} {t : TypeId} {fr : Nat × Nat} (h : u.heap[g]? = some (.cells #[z0, z1, z2, z3, z4, z5, z6] t fr)) :
    (((((((u.setCell ⟨g, 0, none⟩ x0).setCell ⟨g, 1, none⟩ x1).setCell ⟨g, 2, none⟩ x2).setCell ⟨g, 3, none⟩ x3).setCell ⟨g, 4, none⟩ x4).setCell ⟨g, 5, none⟩ x5).setCell ⟨g, 6, none⟩ x6).heap[g]? = some (.cells #[x0, x1, x2, x3, x4, x5, x6] t fr) := by
  simp [World.setCell, Array.getElem?_modify, h]
theorem set_ne {u : World} {b o g : Nat} {v : Value} (h : b ≠ g) : (u.setCell ⟨b, o, none⟩ v).heap[g]? = u.heap[g]? := by simp [World.setCell, Array.getElem?_modify, h]

abbrev sets7 (u : World) (g : Nat) (x0 x1 x2 x3 x4 x5 x6 : Value) : World := ((((((u.setCell ⟨g, 0, none⟩ x0).setCell ⟨g, 1, none⟩ x1).setCell ⟨g, 2, none⟩ x2).setCell ⟨g, 3, none⟩ x3).setCell ⟨g, 4, none⟩ x4).setCell ⟨g, 5, none⟩ x5).setCell ⟨g, 6, none⟩ x6
abbrev Zr (u : World) (g : Nat) : Prop := u.heap[g]? = some (.cells #[.int .i64 0, .int .i64 0, .int .i64 0, .int .i64 0, .int .i64 0, .int .i64 0, .int .i64 0] 28 (0, 0))
theorem put7z {u : World} {g : Nat} {x0 x1 x2 x3 x4 x5 x6 : Value} (h : Zr u g) : (sets7 u g x0 x1 x2 x3 x4 x5 x6).heap[g]? = some (.cells #[x0, x1, x2, x3, x4, x5, x6] 28 (0, 0)) := put7 h
theorem Zr.set {u : World} {b o g : Nat} {v : Value} (h : Zr u g) (hb : b ≠ g) : Zr (u.setCell ⟨b, o, none⟩ v) g := (set_ne hb).trans h
theorem bel_set {w u : World} {b o : Nat} {v : Value} (h : Below w.heap.size w u) (hb : w.heap.size ≤ b) : Below w.heap.size w (u.setCell ⟨b, o, none⟩ v) := h.setCell (p := ⟨b, o, none⟩) hb v
theorem bel7 {w u : World} {g : Nat} {x0 x1 x2 x3 x4 x5 x6 : Value} (h : Below w.heap.size w u) (hg : w.heap.size ≤ g) : Below w.heap.size w (sets7 u g x0 x1 x2 x3 x4 x5 x6) :=
  bel_set (bel_set (bel_set (bel_set (bel_set (bel_set (bel_set h hg) hg) hg) hg) hg) hg) hg
theorem drew_heap (u : World) : u.drew.heap = u.heap := rfl
theorem put7d {u : World} {g : Nat} {x0 x1 x2 x3 x4 x5 x6 : Value} (h : Zr u g) : (sets7 u g x0 x1 x2 x3 x4 x5 x6).drew.heap[g]? = some (.cells #[x0, x1, x2, x3, x4, x5, x6] 28 (0, 0)) := by
  rw [drew_heap]
  exact put7z h
theorem bel7d {w u : World} {g : Nat} {x0 x1 x2 x3 x4 x5 x6 : Value} (h : Below w.heap.size w u) (hg : w.heap.size ≤ g) : Below w.heap.size w (sets7 u g x0 x1 x2 x3 x4 x5 x6).drew := (bel7 h hg).drew
theorem Zr.drew {u : World} {g : Nat} (h : Zr u g) : Zr u.drew g := by
  unfold Zr
  rw [drew_heap]
  exact h
theorem good_16 {k m b c : Nat} (hk : k ≤ 16) (h2 : 2 ^ k ≤ 65536) (hm : m < 2) (hb : b < 2 ^ k) (hc : c < 2 ^ k) : Good 16 k 0 0 m b c k :=
  ⟨isOp_of rfl, hk, by decide, hk, by omega, by omega, ⟨(fun h => absurd h (by decide)), (fun h => absurd h (by decide)), (fun h => absurd h (by decide))⟩, by
    show (if m = 1 then b else c) < 2 ^ k
    split <;> assumption⟩
theorem good_18 {k a W N Lo : Nat} (_hk : k ≤ 16) (h2 : 2 ^ k ≤ 65536) (ha : a < 2 ^ k) (hW : W ≤ 16) (hL : Lo ≤ 16) (hN : W + Lo = N + 1) : Good 18 W N Lo a 0 0 0 :=
  ⟨isOp_of rfl, hW, hL, by decide, by omega, by decide, ⟨(fun h => absurd h (by decide)), (fun h => absurd h (by decide)), (fun _ => hN)⟩, mod_lt_pow _ _⟩
theorem good_17 {W a b wb : Nat} (hW : W ≤ 16) (hw : wb ≤ W) (ha : a < 2 ^ (W - wb)) (hb : b < 2 ^ wb) : Good 17 W 0 0 a b 0 wb := by
  have h1 : 2 ^ (W - wb) ≤ 65536 := Nat.pow_le_pow_right (n := 2) (i := W - wb) (j := 16) (by decide) (by omega)
  have h2 : 2 ^ wb ≤ 65536 := Nat.pow_le_pow_right (n := 2) (i := wb) (j := 16) (by decide) (by omega)
  refine ⟨isOp_of rfl, hW, by decide, by omega, by omega, by omega, ⟨(fun h => absurd h (by decide)), (fun h => absurd h (by decide)), (fun h => absurd h (by decide))⟩, ?_⟩
  show a * 2 ^ wb + b < 2 ^ W
  have h3 : 2 ^ W = 2 ^ (W - wb) * 2 ^ wb := by rw [← Nat.pow_add, show W - wb + wb = W by omega]
  have h4 : (a + 1) * 2 ^ wb ≤ 2 ^ (W - wb) * 2 ^ wb := Nat.mul_le_mul_right _ (by omega)
  rw [Nat.add_mul, Nat.one_mul] at h4
  omega
end Go.Proofs.Ytfnamjnggmndmaa
