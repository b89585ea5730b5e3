/-
  VecFits, WALKED.
-/
import Derived.Test.YtfnamjnggmndmaaVMad
namespace Go.Proofs.Ytfnamjnggmndmaa
open Go.RowKit
open VecM

/-- a case's cells -/
theorem case_cells {w u : World} {O Wd A B C V : Nat} (h : u.heap[w.heap.size]? = some (.cells #[.int .u8 (O : Nat), .int .u8 (Wd : Nat), .int .u32 (A : Nat), .int .u32 (B : Nat), .int .u32 (C : Nat), .int .u8 (V : Nat)] 24 (0, 0))) :
    u.cell? ⟨w.heap.size, 0, none⟩ = some (.int .u8 (O : Nat)) ∧ u.cell? ⟨w.heap.size, 1, none⟩ = some (.int .u8 (Wd : Nat)) ∧ u.cell? ⟨w.heap.size, 2, none⟩ = some (.int .u32 (A : Nat)) ∧ u.cell? ⟨w.heap.size, 3, none⟩ = some (.int .u32 (B : Nat)) ∧ u.cell? ⟨w.heap.size, 4, none⟩ = some (.int .u32 (C : Nat)) ∧ u.cell? ⟨w.heap.size, 5, none⟩ = some (.int .u8 (V : Nat)) := by
  refine ⟨?_, ?_, ?_, ?_, ?_, ?_⟩ <;> simp [World.cell?, h]
/-- a node's cells -/
abbrev NdN (u : World) (g op W N Lo : Nat) : Prop := u.cell? ⟨g, 0, none⟩ = some (.int .i64 (op : Nat)) ∧ u.cell? ⟨g, 1, none⟩ = some (.int .i64 (W : Nat)) ∧ u.cell? ⟨g, 2, none⟩ = some (.int .i64 0) ∧ u.cell? ⟨g, 3, none⟩ = some (.int .i64 0) ∧ u.cell? ⟨g, 4, none⟩ = some (.int .i64 0) ∧ u.cell? ⟨g, 5, none⟩ = some (.int .i64 (N : Nat)) ∧ u.cell? ⟨g, 6, none⟩ = some (.int .i64 (Lo : Nat))
theorem node_cells {u : World} {g op W N Lo : Nat} (h : u.heap[g]? = some (.cells #[.int .i64 (op : Nat), .int .i64 (W : Nat), .int .i64 0, .int .i64 0, .int .i64 0, .int .i64 (N : Nat), .int .i64 (Lo : Nat)] 28 (0, 0))) : NdN u g op W N Lo := by
  refine ⟨?_, ?_, ?_, ?_, ?_, ?_, ?_⟩ <;> simp [World.cell?, h]
theorem hlt {w : World} {g : Nat} {o : Obj} (h : w.heap[g]? = some o) : g < w.heap.size := (Array.getElem?_eq_some_iff.1 h).1

set_option maxRecDepth 100000 in
set_option maxHeartbeats 4000000 in
theorem fits_walk (O Wd A B C V : Nat) (hO : O < 256) (hWd : Wd < 256) (hA : A < 4294967296) (hB : B < 4294967296) (hC : C < 4294967296) (hV : V < 256) (w : World) :
    Calls Try.prog 4 #[csV O Wd A B C V] w fun e w' => e = .returned (.bool true) ∧ Below w.heap.size w w' := by
  have C0 := Lib.hid (heap_new w (.cells #[.int .u8 (O : Nat), .int .u8 (Wd : Nat), .int .u32 (A : Nat), .int .u32 (B : Nat), .int .u32 (C : Nat), .int .u8 (V : Nat)] 24))
  have B0 := Lib.hid (bel_alloc w (.cells #[.int .u8 (O : Nat), .int .u8 (Wd : Nat), .int .u32 (A : Nat), .int .u32 (B : Nat), .int .u32 (C : Nat), .int .u8 (V : Nat)] 24))
  have H0 := Lib.hid head_any
  have MA := Lib.hid (show ∀ u, Calls Try.prog 11 #[csV O Wd A B C V] u (MadeRet u) from fun u => made_any O Wd A B C V hO hWd hA hB hC hV u)
  go_enter Try.func4, Try.ntmps4
  go_wp2_with fail
  refine (H0.out _).mono ?_
  rintro e w1 ⟨rfl, hb⟩
  have S1 := Lib.hid (B0.out.trans (hb.mono B0.out.size))
  obtain ⟨c0, c1, c2, c3, c4, c5⟩ := case_cells (w := w) ((hb.block _ (hlt C0.out)).trans C0.out)
  clear hb
  go_wp2_with fail
  refine (MA.out _).mono ?_
  rintro e w2 ⟨op, W, N, Lo, a, b, c, wb, hg, rfl, hb⟩
  obtain ⟨g1, g2, g3, g4, g5, g6, g7, g8⟩ := hg
  have S2 := Lib.hid (S1.out.trans (hb.mono S1.out.size))
  clear hb c0 c1 c2 c3 c4 c5 C0
  have N0 := Lib.hid (heap_new w2 (.cells #[.int .i64 (op : Nat), .int .i64 (W : Nat), .int .i64 0, .int .i64 0, .int .i64 0, .int .i64 (N : Nat), .int .i64 (Lo : Nat)] 28))
  have BN := Lib.hid (bel_alloc w2 (.cells #[.int .i64 (op : Nat), .int .i64 (W : Nat), .int .i64 0, .int .i64 0, .int .i64 0, .int .i64 (N : Nat), .int .i64 (Lo : Nat)] 28))
  obtain ⟨r, hr⟩ : ∃ r, doV op W N Lo a b c wb = r := ⟨_, rfl⟩
  have DO := Lib.hid (do_is (c := c) g1 g2 g3 g4 g5 g6 hr)
  obtain ⟨q, hq⟩ : ∃ q, 2 ^ W - 1 = q := ⟨_, rfl⟩
  have MK := Lib.hid (show ∀ u, Calls Try.prog 14 #[.int .i64 (W : Nat)] u fun e w' => e = .returned (.int .i64 (q : Nat)) ∧ u = w' from fun u => by rw [← hq]; exact Mask_any W (by omega) u)
  have hrq : (r : Int) ≤ (q : Int) := by omega
  have hr0 : (0 : Int) ≤ (r : Int) := by omega
  clear g1 g7 g8 hr hq
  go_wp2_with fail
  refine (DO.out _).mono ?_
  rintro e w3 ⟨rfl, hb⟩
  have S3 := Lib.hid ((S2.out.trans (BN.out.mono S2.out.size)).trans (hb.mono (Nat.le_trans S2.out.size BN.out.size)))
  obtain ⟨d0, d1, d2, d3, d4, d5, d6⟩ := node_cells ((hb.block _ (hlt N0.out)).trans N0.out)
  clear hb
  go_wp2_with fail
  refine (MK.out _).mono ?_
  rintro e w' ⟨rfl, rfl⟩
  go_wp2_with fail
  go_ret
  exact ⟨rfl, S3.out⟩
end Go.Proofs.Ytfnamjnggmndmaa
