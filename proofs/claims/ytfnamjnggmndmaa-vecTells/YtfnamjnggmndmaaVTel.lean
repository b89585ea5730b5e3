/-
  VecTells, WALKED.
-/
import Derived.Test.YtfnamjnggmndmaaVFit
namespace Go.Proofs.Ytfnamjnggmndmaa
open Go.RowKit
open VecM

set_option maxRecDepth 100000 in
set_option maxHeartbeats 8000000 in
theorem tells_walk (O Wd A B C V : Nat) (A' : Option Addr) (cp : Nat) (l : List Bool) (hO : O < 256) (hWd : Wd < 256) (hA : A < 4294967296) (hB : B < 4294967296) (hC : C < 4294967296) (hV : V < 256) (hl : l.length ≤ maxLen) (w : World) (hT : Hid (Bls w w.heap.size A' l)) :
    Calls Try.prog 3 #[csV O Wd A B C V, .slice A' l.length cp] w fun e w' => e = .returned (.bool true) ∧ Below w.heap.size w w' := by
  unfold maxLen at hl
  have C0 := Lib.hid (heap_new w (.cells #[.int .u8 (O : Nat), .int .u8 (Wd : Nat), .int .u32 (A : Nat), .int .u32 (B : Nat), .int .u32 (C : Nat), .int .u8 (V : Nat)] 24))
  have B0 := Lib.hid (bel_alloc w (.cells #[.int .u8 (O : Nat), .int .u8 (Wd : Nat), .int .u32 (A : Nat), .int .u32 (B : Nat), .int .u32 (C : Nat), .int .u8 (V : Nat)] 24))
  have H0 := Lib.hid head_any
  have MA := Lib.hid (show ∀ u, Calls Try.prog 11 #[csV O Wd A B C V] u (MadeRet u) from fun u => made_any O Wd A B C V hO hWd hA hB hC hV u)
  have hWd0 : O < 256 := hO
  clear hWd0
  by_cases h32 : 32 < l.length
  · have hd : (32 : Int) < (l.length : Int) := by omega
    go_enter Try.func3, Try.ntmps3
    go_wp2_with fail
    refine (H0.out _).mono ?_
    rintro e w1 ⟨rfl, hb⟩
    have S1 := Lib.hid (B0.out.trans (hb.mono B0.out.size))
    clear hb
    go_wp2_with fail
    go_ret
    exact ⟨rfl, S1.out⟩
  have hd : ¬ ((32 : Int) < (l.length : Int)) := by omega
  obtain ⟨k, hk, hk16⟩ : ∃ k, Wd % 16 + 1 = k ∧ k ≤ 16 := ⟨_, rfl, by omega⟩
  have hkI : (Wd : Int) % 16 + 1 = (k : Int) := by omega
  obtain ⟨v, hv, hv32⟩ : ∃ v, V % 33 = v ∧ v ≤ 32 := ⟨_, rfl, by omega⟩
  have hvI : (V : Int) % 33 = (v : Int) := by omega
  have hwV := wrap_nat (a := V) (by omega)
  have htV : Int.tmod (V : Int) 33 = (v : Int) := by rw [Int.tmod_eq_emod_of_nonneg (by omega)]; exact hvI
  clear hk hv h32
  go_enter Try.func3, Try.ntmps3
  go_wp2_with fail
  refine (H0.out _).mono ?_
  rintro e w1 ⟨rfl, hb⟩
  have S1 := Lib.hid (B0.out.trans (hb.mono B0.out.size))
  have C1 := Lib.hid ((hb.block _ (hlt C0.out)).trans C0.out)
  obtain ⟨c0, c1, c2, c3, c4, c5⟩ := case_cells (w := w) C1.out
  clear hb
  go_wp2_with fail
  refine (MA.out _).mono ?_
  rintro e w2 ⟨op, W, N, Lo, a, b, c, wb, hg, rfl, hb⟩
  obtain ⟨g1, g2, g3, g4, g5, g6, g7, g8⟩ := hg
  have S2 := Lib.hid (S1.out.trans (hb.mono S1.out.size))
  have C2 := Lib.hid ((hb.block _ (hlt C1.out)).trans C1.out)
  clear hb c0 c1 c2 c3 c4 c5 C0 C1
  have N0 := Lib.hid (heap_new w2 (.cells #[.int .i64 (op : Nat), .int .i64 (W : Nat), .int .i64 0, .int .i64 0, .int .i64 0, .int .i64 (N : Nat), .int .i64 (Lo : Nat)] 28))
  have BN := Lib.hid (bel_alloc w2 (.cells #[.int .i64 (op : Nat), .int .i64 (W : Nat), .int .i64 0, .int .i64 0, .int .i64 0, .int .i64 (N : Nat), .int .i64 (Lo : Nat)] 28))
  obtain ⟨r, hr⟩ : ∃ r, doV op W N Lo a b c wb = r := ⟨_, rfl⟩
  have DO := Lib.hid (do_is (c := c) g1 g2 g3 g4 g5 g6 hr)
  have RD := Lib.hid (show ∀ u, Calls Try.prog 13 #[ndV op W N Lo, .int .i64 (a : Nat), .int .i64 (b : Nat), .int .i64 (c : Nat), .int .i64 (wb : Nat)] u (RGot r u) from fun u => by rw [← hr]; exact RDo_any op W N Lo a b c wb g1 g2 g3 g4 g5 g6 g7 u)
  obtain ⟨qv, hqv⟩ : ∃ q, 2 ^ v - 1 = q := ⟨_, rfl⟩
  have MV := Lib.hid (show ∀ u, Calls Try.prog 14 #[.int .i64 (v : Nat)] u fun e w' => e = .returned (.int .i64 (qv : Nat)) ∧ u = w' from fun u => by rw [← hqv]; exact Mask_any v hv32 u)
  have RV := Lib.hid (rmask_is (k := v) hv32 hqv)
  obtain ⟨qk, hqk⟩ : ∃ q, 2 ^ k - 1 = q := ⟨_, rfl⟩
  have RK := Lib.hid (rmask_is (k := k) (by omega) hqk)
  have hx := and_mask_nat (a := a) (k := k) (by omega)
  rw [hqk] at hx
  generalize a % 2 ^ k = x at hx
  have BX := Lib.hid (show ∀ u, Calls Try.prog 17 #[.int .i64 (x : Nat), .int .i64 (k : Nat)] u (BitsRet u x k) from fun u => Bits_any x k (by omega) u)
  have RX := Lib.hid (show ∀ u, Calls Try.prog 18 #[.int .i64 (x : Nat), .int .i64 (k : Nat)] u (BitsRet u x k) from fun u => RBits_any x k (by omega) u)
  have SM := Lib.hid (show ∀ (u : World) (P Q : Option Addr) (pc qc : Nat), Bls u u.heap.size P (bitsL x k) → Bls u u.heap.size Q (bitsL x k) → Calls Try.prog 16 #[.slice P k pc, .slice Q k qc] u fun e w' => e = .returned (.bool true) ∧ Gr u w' from fun u P Q pc qc h1 h2 => by
    have := Same_yes P Q pc qc u.heap.size (bitsL x k) u (by rw [bitsL_len]; omega) (Lib.hid h1) (Lib.hid h2)
    rw [bitsL_len] at this
    exact this.mono fun e w' ⟨h3, n, h4⟩ => ⟨h3, by rw [h4]; exact Below.drewN (Below.refl _ _) n⟩)
  have NL := Lib.hid (show ∀ u, Gr w u → Calls Try.prog 19 #[.slice A' l.length cp] u fun e w' => e = .returned (.int .i64 (numL l : Nat)) ∧ u = w' from fun u hu => Num_any A' cp l u (by omega) (Lib.hid ((hT.out.below hu).more hu.size)))
  have RN := Lib.hid (show ∀ u, Gr w u → Calls Try.prog 20 #[.slice A' l.length cp] u fun e w' => e = .returned (.int .i64 (numL l : Nat)) ∧ u = w' from fun u hu => RNum_any A' cp l u (by omega) (Lib.hid ((hT.out.below hu).more hu.size)))
  obtain ⟨W0, eW, GW, KEEP⟩ : ∃ W0, w2.alloc (.cells #[.int .i64 (op : Nat), .int .i64 (W : Nat), .int .i64 0, .int .i64 0, .int .i64 0, .int .i64 (N : Nat), .int .i64 (Lo : Nat)] 28) = W0 ∧ Hid (Gr w W0) ∧ Hid (∀ u, Gr W0 u → NdN u w2.heap.size op W N Lo ∧ u.cell? ⟨w.heap.size, 1, none⟩ = some (.int .u8 (Wd : Nat)) ∧ u.cell? ⟨w.heap.size, 5, none⟩ = some (.int .u8 (V : Nat))) := by
    refine ⟨_, rfl, Lib.hid (Gr.trans S2.out BN.out), Lib.hid fun u hu => ⟨node_cells ((hu.block _ (hlt N0.out)).trans N0.out), ?_⟩⟩
    have hc2 := (BN.out.block _ (hlt C2.out)).trans C2.out
    obtain ⟨k0, k1, k2, k3, k4, k5⟩ := case_cells (w := w) ((hu.block _ (hlt hc2)).trans hc2)
    exact ⟨k1, k5⟩
  have K0 := KEEP.out W0 (Gr.refl _)
  have k1 := K0.2.1
  clear g1 g2 g3 g4 g5 g6 g7 g8 hr hqv hqk K0 N0 BN C2 S1 S2 MA H0 B0 hT
  go_wp2_with fail
  try rw [eW]
  clear eW k1
  go_region_held3 (fun u => NdN u w2.heap.size op W N Lo ∧ u.cell? ⟨w.heap.size, 1, none⟩ = some (.int .u8 (Wd : Nat)) ∧ u.cell? ⟨w.heap.size, 5, none⟩ = some (.int .u8 (V : Nat)))
    (first | exact KEEP.out _ (Gr.drew _) | exact KEEP.out _ (by assumption))
    (first
      | (go_at_call 12; (with_reducible refine (DoIs.c DO.out _).mono ?_); rintro e u1 ⟨rfl, hu1'⟩; have hu1 : Gr W0 u1 := by first | exact hu1' | exact Gr.trans (Gr.drew _) hu1')
      | (go_at_call 13; (with_reducible refine (RD.out u1).mono ?_); rintro e u2 ⟨rfl, hu2'⟩; have hu2 : Gr W0 u2 := Gr.trans hu1 hu2')
      | (go_at_call 14; (with_reducible refine (MV.out _).mono ?_); rintro e u9 ⟨rfl, rfl⟩)
      | (go_at_call 15; (with_reducible refine (RV.out _).mono ?_); rintro e u9 ⟨rfl, rfl⟩)
      | (go_at_call 15; (with_reducible refine (RK.out _).mono ?_); rintro e u9 ⟨rfl, rfl⟩)
      | (go_at_call 17; (with_reducible refine (BX.out u2).mono ?_); rintro e u3 ⟨P, pc, rfl, hP, hu3'⟩; have hu3 : Gr W0 u3 := Gr.trans hu2 hu3')
      | (go_at_call 18; (with_reducible refine (RX.out u3).mono ?_); rintro e u4 ⟨Q, qc, rfl, hQ, hu4'⟩; have hu4 : Gr W0 u4 := Gr.trans hu3 hu4'; have hP4 := (hP.below hu4').more hu4'.size)
      | (go_at_call 16; (with_reducible refine (SM.out u4 P Q pc qc hP4 hQ).mono ?_); rintro e u5 ⟨rfl, hu5'⟩; have hu5 : Gr W0 u5 := Gr.trans hu4 hu5')
      | (go_at_call 19; (with_reducible refine (NL.out u5 (Gr.trans GW.out hu5)).mono ?_); rintro e u9 ⟨rfl, rfl⟩)
      | (go_at_call 20; (with_reducible refine (RN.out _ (Gr.trans GW.out hu5)).mono ?_); rintro e u9 ⟨rfl, rfl⟩))
  go_wp2_with fail
  go_ret
  exact ⟨rfl, Gr.trans GW.out (by assumption)⟩
end Go.Proofs.Ytfnamjnggmndmaa
