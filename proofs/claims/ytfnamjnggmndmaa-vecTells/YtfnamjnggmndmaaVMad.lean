/-
  Made, WALKED: a node of any op, and operands that it may have.
-/
import Derived.Test.YtfnamjnggmndmaaVMdl
namespace Go.Proofs.Ytfnamjnggmndmaa
open Go.RowKit
open VecM

def opsT : List Nat := [1, 3, 4, 5, 6, 7, 8, 9, 10, 11, 12, 13, 14, 15, 16, 17, 18]
theorem ops_is {r : Nat} (h : r < 17) : ∃ o, opsT[r]? = some o ∧ isOp o := by
  have : opsT.length = 17 := rfl
  refine ⟨opsT[r], List.getElem?_eq_getElem (by omega), ?_⟩
  have hm : opsT[r] ∈ opsT := List.getElem_mem _
  generalize opsT[r] = o at hm
  simpa [opsT, isOp] using hm
abbrev opsV : Array Value := #[.int .i64 1, .int .i64 3, .int .i64 4, .int .i64 5, .int .i64 6, .int .i64 7, .int .i64 8, .int .i64 9, .int .i64 10, .int .i64 11, .int .i64 12, .int .i64 13, .int .i64 14, .int .i64 15, .int .i64 16, .int .i64 17, .int .i64 18]
theorem opsV_is {r o : Nat} (h : opsT[r]? = some o) : opsV[r]? = some (.int .i64 (o : Nat)) := by
  have e : opsV = (opsT.map fun n : Nat => Value.int .i64 (n : Nat)).toArray := rfl
  rw [e, List.getElem?_toArray, List.getElem?_map, h]
  rfl
theorem quiet_add_same {P : Program} {f : FuncId} {args : Array Value} {w : World} {a n : Nat} {v : Value}
    (h : Calls P f args (w.drewN (a + n)) fun e w' => e = .returned v ∧ w' = w.drewN (a + n)) :
    Calls P f args (w.drewN (a + n)) fun e w'' => e = .returned v ∧ ∃ m, w'' = w.drewN (a + m) :=
  h.mono fun _ _ ⟨he, hm⟩ => ⟨he, n, hm⟩
/-- a case that came in -/
abbrev csV (O W A B C V : Nat) : Value := .agg #[.int .u8 (O : Nat), .int .u8 (W : Nat), .int .u32 (A : Nat), .int .u32 (B : Nat), .int .u32 (C : Nat), .int .u8 (V : Nat)]

set_option maxRecDepth 100000 in
set_option maxHeartbeats 4000000 in
theorem made_any (O Wd A B C V : Nat) (hO : O < 256) (hWd : Wd < 256) (hA : A < 4294967296) (hB : B < 4294967296) (hC : C < 4294967296) (hV : V < 256) (w : World) :
    Calls Try.prog 11 #[csV O Wd A B C V] w (MadeRet w) := by
  obtain ⟨k, hk, hk1, hk16⟩ : ∃ k, Wd % 16 + 1 = k ∧ 1 ≤ k ∧ k ≤ 16 := ⟨_, rfl, by omega, by omega⟩
  have hkI : (Wd : Int) % 16 + 1 = (k : Int) := by omega
  obtain ⟨r, hr, hr17⟩ : ∃ r, O % 17 = r ∧ r < 17 := ⟨_, rfl, by omega⟩
  have hrI : (O : Int) % 17 = (r : Int) := by omega
  obtain ⟨o, hro, hop⟩ := ops_is hr17
  obtain ⟨q, hq⟩ : ∃ q, 2 ^ k - 1 = q := ⟨_, rfl⟩
  have RM := Lib.hid (rmask_is (k := k) (by omega) hq)
  have RQ := Lib.hid (show ∀ u, Calls Try.prog 15 #[.int .i64 (k : Nat)] u fun e w' => e = .returned (.int .i64 (q : Nat)) ∧ w' = u from fun u => (RM.out u).mono fun e w' ⟨h1, h2⟩ => ⟨h1, h2.symm⟩)
  have ha := and_mask_nat (a := A) (k := k) (by omega)
  have hb := and_mask_nat (a := B) (k := k) (by omega)
  have hc := and_mask_nat (a := C) (k := k) (by omega)
  have ha1 := mod_lt_pow A k
  have hb1 := mod_lt_pow B k
  have hc1 := mod_lt_pow C k
  have hk2 : 2 ^ k ≤ 65536 := Nat.pow_le_pow_right (n := 2) (i := k) (j := 16) (by decide) hk16
  rw [hq] at ha hb hc
  generalize A % 2 ^ k = a at ha ha1
  generalize B % 2 ^ k = b at hb hb1
  generalize C % 2 ^ k = c at hc hc1
  have hcell : ∀ u : World, (u.alloc (.cells opsV 3)).cell? ⟨u.heap.size, r, none⟩ = some (.int .i64 (o : Nat)) := fun u => by
    simp only [World.cell?, heap_new]
    exact opsV_is hro
  have h0 := hcell ((w.alloc (.cells #[.int .u8 (O : Nat), .int .u8 (Wd : Nat), .int .u32 (A : Nat), .int .u32 (B : Nat), .int .u32 (C : Nat), .int .u8 (V : Nat)] 24)).alloc (.cells #[.int .i64 0, .int .i64 0, .int .i64 0, .int .i64 0, .int .i64 0, .int .i64 0, .int .i64 0] 28))
  simp only [World.size_alloc] at h0
  clear hk hr hro hcell RM hq
  go_enter Try.func11, Try.ntmps11
  go_wp2_with fail
  obtain ⟨W, eW, HW, HZ, C0, C1, C3⟩ : ∃ W, (((w.alloc (.cells #[.int .u8 (O : Nat), .int .u8 (Wd : Nat), .int .u32 (A : Nat), .int .u32 (B : Nat), .int .u32 (C : Nat), .int .u8 (V : Nat)] 24)).alloc (.cells #[.int .i64 0, .int .i64 0, .int .i64 0, .int .i64 0, .int .i64 0, .int .i64 0, .int .i64 0] 28)).alloc (.cells opsV 3)).alloc (.cells #[.int .i64 (o : Nat), .int .i64 (k : Nat), .int .i64 0, .int .i64 0, .int .i64 0, .int .i64 0, .int .i64 0] 28) = W ∧ Hid (Below w.heap.size w W) ∧ Hid (W.heap.size = w.heap.size + 4) ∧
      Hid (W.heap[w.heap.size]? = some (.cells #[.int .u8 (O : Nat), .int .u8 (Wd : Nat), .int .u32 (A : Nat), .int .u32 (B : Nat), .int .u32 (C : Nat), .int .u8 (V : Nat)] 24 (0, 0))) ∧
      Hid (W.heap[w.heap.size + 1]? = some (.cells #[.int .i64 0, .int .i64 0, .int .i64 0, .int .i64 0, .int .i64 0, .int .i64 0, .int .i64 0] 28 (0, 0))) ∧
      Hid (W.heap[w.heap.size + 1 + 1 + 1]? = some (.cells #[.int .i64 (o : Nat), .int .i64 (k : Nat), .int .i64 0, .int .i64 0, .int .i64 0, .int .i64 0, .int .i64 0] 28 (0, 0))) := by
    refine ⟨_, rfl, Lib.hid (((((Below.refl _ _).alloc (Nat.le_refl _) _).alloc (by simp) _).alloc (by simp <;> omega) _).alloc (by simp <;> omega) _), Lib.hid (by simp), Lib.hid ?_, Lib.hid ?_, Lib.hid ?_⟩
    · rw [Below.heap_alloc _ _ _ (by simp <;> omega), Below.heap_alloc _ _ _ (by simp <;> omega), Below.heap_alloc _ _ _ (by simp)]
      exact heap_new _ _
    · rw [Below.heap_alloc _ _ _ (by simp <;> omega), Below.heap_alloc _ _ _ (by simp)]
      have h := heap_new (w.alloc (.cells #[.int .u8 (O : Nat), .int .u8 (Wd : Nat), .int .u32 (A : Nat), .int .u32 (B : Nat), .int .u32 (C : Nat), .int .u8 (V : Nat)] 24)) (.cells #[.int .i64 0, .int .i64 0, .int .i64 0, .int .i64 0, .int .i64 0, .int .i64 0, .int .i64 0] 28)
      rw [World.size_alloc] at h
      exact h
    · have h := heap_new (((w.alloc (.cells #[.int .u8 (O : Nat), .int .u8 (Wd : Nat), .int .u32 (A : Nat), .int .u32 (B : Nat), .int .u32 (C : Nat), .int .u8 (V : Nat)] 24)).alloc (.cells #[.int .i64 0, .int .i64 0, .int .i64 0, .int .i64 0, .int .i64 0, .int .i64 0, .int .i64 0] 28)).alloc (.cells opsV 3)) (.cells #[.int .i64 (o : Nat), .int .i64 (k : Nat), .int .i64 0, .int .i64 0, .int .i64 0, .int .i64 0, .int .i64 0] 28)
      simp only [World.size_alloc] at h
      exact h
  rw [eW]
  clear eW h0
  have cA : W.cell? ⟨w.heap.size, 2, none⟩ = some (.int .u32 (A : Nat)) := by simp [World.cell?, C0.out]
  have cB : W.cell? ⟨w.heap.size, 3, none⟩ = some (.int .u32 (B : Nat)) := by simp [World.cell?, C0.out]
  have cC : W.cell? ⟨w.heap.size, 4, none⟩ = some (.int .u32 (C : Nat)) := by simp [World.cell?, C0.out]
  have cV : W.cell? ⟨w.heap.size, 5, none⟩ = some (.int .u8 (V : Nat)) := by simp [World.cell?, C0.out]
  go_quiet ((go_at_call 15; exact Calls.quiet_of_same (RQ.out _)))
  obtain ⟨n1, en1⟩ : ∃ n, nq = n := ⟨_, rfl⟩
  rw [en1]
  clear en1 nq
  go_wp2_with fail
  go_quiet ((go_at_call 15; exact quiet_add_same (RQ.out _)))
  obtain ⟨n2, en2⟩ : ∃ n, nq = n := ⟨_, rfl⟩
  rw [en2]
  clear en2 nq
  go_wp2_with fail
  go_quiet ((go_at_call 15; first | exact quiet_add_same (RQ.out _) | exact Calls.quiet_of_same (RQ.out _)))
  obtain ⟨U, eU, hU, BU⟩ : ∃ U, ((W.drewN n1).drewN n2).drewN nq = U ∧ Hid (U.heap = W.heap) ∧ Hid (Below w.heap.size w U) := ⟨_, rfl, Lib.hid rfl, Lib.hid (Below.drewN (Below.drewN (Below.drewN HW.out _) _) _)⟩
  rw [eU]
  clear eU cA cB cC cV
  have cA : U.cell? ⟨w.heap.size, 2, none⟩ = some (.int .u32 (A : Nat)) := by simp [World.cell?, hU.out, C0.out]
  have cB : U.cell? ⟨w.heap.size, 3, none⟩ = some (.int .u32 (B : Nat)) := by simp [World.cell?, hU.out, C0.out]
  have cC : U.cell? ⟨w.heap.size, 4, none⟩ = some (.int .u32 (C : Nat)) := by simp [World.cell?, hU.out, C0.out]
  have cV : U.cell? ⟨w.heap.size, 5, none⟩ = some (.int .u8 (V : Nat)) := by simp [World.cell?, hU.out, C0.out]
  have d0 : U.cell? ⟨w.heap.size + 1 + 1 + 1, 0, none⟩ = some (.int .i64 (o : Nat)) := by simp [World.cell?, hU.out, C3.out]
  have d1 : U.cell? ⟨w.heap.size + 1 + 1 + 1, 1, none⟩ = some (.int .i64 (k : Nat)) := by simp [World.cell?, hU.out, C3.out]
  have d2 : U.cell? ⟨w.heap.size + 1 + 1 + 1, 2, none⟩ = some (.int .i64 0) := by simp [World.cell?, hU.out, C3.out]
  have d3 : U.cell? ⟨w.heap.size + 1 + 1 + 1, 3, none⟩ = some (.int .i64 0) := by simp [World.cell?, hU.out, C3.out]
  have d4 : U.cell? ⟨w.heap.size + 1 + 1 + 1, 4, none⟩ = some (.int .i64 0) := by simp [World.cell?, hU.out, C3.out]
  have d5 : U.cell? ⟨w.heap.size + 1 + 1 + 1, 5, none⟩ = some (.int .i64 0) := by simp [World.cell?, hU.out, C3.out]
  have d6 : U.cell? ⟨w.heap.size + 1 + 1 + 1, 6, none⟩ = some (.int .i64 0) := by simp [World.cell?, hU.out, C3.out]
  have z0 : U.cell? ⟨w.heap.size + 1, 0, none⟩ = some (.int .i64 0) := by simp [World.cell?, hU.out, C1.out]
  have z1 : U.cell? ⟨w.heap.size + 1, 1, none⟩ = some (.int .i64 0) := by simp [World.cell?, hU.out, C1.out]
  have z2 : U.cell? ⟨w.heap.size + 1, 2, none⟩ = some (.int .i64 0) := by simp [World.cell?, hU.out, C1.out]
  have z3 : U.cell? ⟨w.heap.size + 1, 3, none⟩ = some (.int .i64 0) := by simp [World.cell?, hU.out, C1.out]
  have z4 : U.cell? ⟨w.heap.size + 1, 4, none⟩ = some (.int .i64 0) := by simp [World.cell?, hU.out, C1.out]
  have z5 : U.cell? ⟨w.heap.size + 1, 5, none⟩ = some (.int .i64 0) := by simp [World.cell?, hU.out, C1.out]
  have z6 : U.cell? ⟨w.heap.size + 1, 6, none⟩ = some (.int .i64 0) := by simp [World.cell?, hU.out, C1.out]
  have fz : ∀ j, U.frozen? ⟨w.heap.size + 1, j, none⟩ = false := fun j => by simp [World.frozen?, hU.out, C1.out]
  have fd : ∀ j, U.frozen? ⟨w.heap.size + 1 + 1 + 1, j, none⟩ = false := fun j => by simp [World.frozen?, hU.out, C3.out]
  have hz : U.heap[w.heap.size + 1]? = some (.cells #[.int .i64 0, .int .i64 0, .int .i64 0, .int .i64 0, .int .i64 0, .int .i64 0, .int .i64 0] 28 (0, 0)) := by rw [hU.out]; exact C1.out
  have BS := BU.out.size
  have hn : U.heap[w.heap.size + 1 + 1 + 1]? = some (.cells #[.int .i64 (o : Nat), .int .i64 (k : Nat), .int .i64 0, .int .i64 0, .int .i64 0, .int .i64 0, .int .i64 0] 28 (0, 0)) := by rw [hU.out]; exact C3.out
  clear hU C0 C1 C3 HW HZ
  rcases hop with rfl | rfl | rfl | rfl | rfl | rfl | rfl | rfl | rfl | rfl | rfl | rfl | rfl | rfl | rfl | rfl | rfl
  · go_wp2_with fail
    refine bodyPost_ret (results11 _ (w.heap.size + 1) _ (.int .i64 1) (.int .i64 (k : Nat)) (.int .i64 0) (.int .i64 0) (.int .i64 0) (.int .i64 (a : Nat)) (.int .i64 0) _ _ _ _ 28 (0, 0) rfl rfl rfl rfl rfl ?hb) rfl ?hr
    case hb => first | with_reducible exact put7z hz | with_reducible exact put7z (Zr.set hz (by omega)) | with_reducible exact put7z (Zr.set (Zr.set hz (by omega)) (by omega)) | with_reducible exact put7z (Zr.set (Zr.set (Zr.set hz (by omega)) (by omega)) (by omega)) | with_reducible exact put7d hz | with_reducible exact put7d (Zr.set hz (by omega)) | with_reducible exact put7d (Zr.set (Zr.set hz (by omega)) (by omega)) | with_reducible exact put7z (Zr.set (Zr.drew (Zr.set hz (by omega))) (by omega)) | with_reducible exact put7z (Zr.set (Zr.set (Zr.drew (Zr.set hz (by omega))) (by omega)) (by omega)) | with_reducible exact put7z (Zr.set (Zr.drew (Zr.set (Zr.set hz (by omega)) (by omega))) (by omega))
    case hr =>
      refine ⟨1, k, a, 0, 0, 0, 0, 0, good_1 hk16 hk2 ha1, rfl, ?_⟩
      first | with_reducible exact bel7 BU.out (by omega) | with_reducible exact bel7 (bel_set BU.out (by omega)) (by omega) | with_reducible exact bel7 (bel_set (bel_set BU.out (by omega)) (by omega)) (by omega) | with_reducible exact bel7 (bel_set (bel_set (bel_set BU.out (by omega)) (by omega)) (by omega)) (by omega) | with_reducible exact bel7d BU.out (by omega) | with_reducible exact bel7d (bel_set BU.out (by omega)) (by omega) | with_reducible exact bel7d (bel_set (bel_set BU.out (by omega)) (by omega)) (by omega) | with_reducible exact bel7 (bel_set (Below.drew (bel_set BU.out (by omega))) (by omega)) (by omega) | with_reducible exact bel7 (bel_set (bel_set (Below.drew (bel_set BU.out (by omega))) (by omega)) (by omega)) (by omega) | with_reducible exact bel7 (bel_set (Below.drew (bel_set (bel_set BU.out (by omega)) (by omega))) (by omega)) (by omega)
  · go_wp2_with fail
    refine bodyPost_ret (results11 _ (w.heap.size + 1) _ (.int .i64 3) (.int .i64 (k : Nat)) (.int .i64 0) (.int .i64 0) (.int .i64 0) (.int .i64 0) (.int .i64 0) _ _ _ _ 28 (0, 0) rfl rfl rfl rfl rfl ?hb) rfl ?hr
    case hb => first | with_reducible exact put7z hz | with_reducible exact put7z (Zr.set hz (by omega)) | with_reducible exact put7z (Zr.set (Zr.set hz (by omega)) (by omega)) | with_reducible exact put7z (Zr.set (Zr.set (Zr.set hz (by omega)) (by omega)) (by omega)) | with_reducible exact put7d hz | with_reducible exact put7d (Zr.set hz (by omega)) | with_reducible exact put7d (Zr.set (Zr.set hz (by omega)) (by omega)) | with_reducible exact put7z (Zr.set (Zr.drew (Zr.set hz (by omega))) (by omega)) | with_reducible exact put7z (Zr.set (Zr.set (Zr.drew (Zr.set hz (by omega))) (by omega)) (by omega)) | with_reducible exact put7z (Zr.set (Zr.drew (Zr.set (Zr.set hz (by omega)) (by omega))) (by omega))
    case hr =>
      refine ⟨3, k, 0, 0, a, 0, 0, k, good_3 hk16 hk2 ha1, rfl, ?_⟩
      first | with_reducible exact bel7 BU.out (by omega) | with_reducible exact bel7 (bel_set BU.out (by omega)) (by omega) | with_reducible exact bel7 (bel_set (bel_set BU.out (by omega)) (by omega)) (by omega) | with_reducible exact bel7 (bel_set (bel_set (bel_set BU.out (by omega)) (by omega)) (by omega)) (by omega) | with_reducible exact bel7d BU.out (by omega) | with_reducible exact bel7d (bel_set BU.out (by omega)) (by omega) | with_reducible exact bel7d (bel_set (bel_set BU.out (by omega)) (by omega)) (by omega) | with_reducible exact bel7 (bel_set (Below.drew (bel_set BU.out (by omega))) (by omega)) (by omega) | with_reducible exact bel7 (bel_set (bel_set (Below.drew (bel_set BU.out (by omega))) (by omega)) (by omega)) (by omega) | with_reducible exact bel7 (bel_set (Below.drew (bel_set (bel_set BU.out (by omega)) (by omega))) (by omega)) (by omega)
  · go_wp2_with fail
    refine bodyPost_ret (results11 _ (w.heap.size + 1) _ (.int .i64 4) (.int .i64 1) (.int .i64 0) (.int .i64 0) (.int .i64 0) (.int .i64 0) (.int .i64 (k : Nat)) _ _ _ _ 28 (0, 0) rfl rfl rfl rfl rfl ?hb) rfl ?hr
    case hb => first | with_reducible exact put7z hz | with_reducible exact put7z (Zr.set hz (by omega)) | with_reducible exact put7z (Zr.set (Zr.set hz (by omega)) (by omega)) | with_reducible exact put7z (Zr.set (Zr.set (Zr.set hz (by omega)) (by omega)) (by omega)) | with_reducible exact put7d hz | with_reducible exact put7d (Zr.set hz (by omega)) | with_reducible exact put7d (Zr.set (Zr.set hz (by omega)) (by omega)) | with_reducible exact put7z (Zr.set (Zr.drew (Zr.set hz (by omega))) (by omega)) | with_reducible exact put7z (Zr.set (Zr.set (Zr.drew (Zr.set hz (by omega))) (by omega)) (by omega)) | with_reducible exact put7z (Zr.set (Zr.drew (Zr.set (Zr.set hz (by omega)) (by omega))) (by omega))
    case hr =>
      refine ⟨4, 1, 0, k, a, 0, 0, 0, good_t (by decide) hk16 (by omega) (by omega) (by omega), rfl, ?_⟩
      first | with_reducible exact bel7 BU.out (by omega) | with_reducible exact bel7 (bel_set BU.out (by omega)) (by omega) | with_reducible exact bel7 (bel_set (bel_set BU.out (by omega)) (by omega)) (by omega) | with_reducible exact bel7 (bel_set (bel_set (bel_set BU.out (by omega)) (by omega)) (by omega)) (by omega) | with_reducible exact bel7d BU.out (by omega) | with_reducible exact bel7d (bel_set BU.out (by omega)) (by omega) | with_reducible exact bel7d (bel_set (bel_set BU.out (by omega)) (by omega)) (by omega) | with_reducible exact bel7 (bel_set (Below.drew (bel_set BU.out (by omega))) (by omega)) (by omega) | with_reducible exact bel7 (bel_set (bel_set (Below.drew (bel_set BU.out (by omega))) (by omega)) (by omega)) (by omega) | with_reducible exact bel7 (bel_set (Below.drew (bel_set (bel_set BU.out (by omega)) (by omega))) (by omega)) (by omega)
  · go_wp2_with fail
    refine bodyPost_ret (results11 _ (w.heap.size + 1) _ (.int .i64 5) (.int .i64 1) (.int .i64 0) (.int .i64 0) (.int .i64 0) (.int .i64 0) (.int .i64 (k : Nat)) _ _ _ _ 28 (0, 0) rfl rfl rfl rfl rfl ?hb) rfl ?hr
    case hb => first | with_reducible exact put7z hz | with_reducible exact put7z (Zr.set hz (by omega)) | with_reducible exact put7z (Zr.set (Zr.set hz (by omega)) (by omega)) | with_reducible exact put7z (Zr.set (Zr.set (Zr.set hz (by omega)) (by omega)) (by omega)) | with_reducible exact put7d hz | with_reducible exact put7d (Zr.set hz (by omega)) | with_reducible exact put7d (Zr.set (Zr.set hz (by omega)) (by omega)) | with_reducible exact put7z (Zr.set (Zr.drew (Zr.set hz (by omega))) (by omega)) | with_reducible exact put7z (Zr.set (Zr.set (Zr.drew (Zr.set hz (by omega))) (by omega)) (by omega)) | with_reducible exact put7z (Zr.set (Zr.drew (Zr.set (Zr.set hz (by omega)) (by omega))) (by omega))
    case hr =>
      refine ⟨5, 1, 0, k, a, 0, 0, 0, good_t (by decide) hk16 (by omega) (by omega) (by omega), rfl, ?_⟩
      first | with_reducible exact bel7 BU.out (by omega) | with_reducible exact bel7 (bel_set BU.out (by omega)) (by omega) | with_reducible exact bel7 (bel_set (bel_set BU.out (by omega)) (by omega)) (by omega) | with_reducible exact bel7 (bel_set (bel_set (bel_set BU.out (by omega)) (by omega)) (by omega)) (by omega) | with_reducible exact bel7d BU.out (by omega) | with_reducible exact bel7d (bel_set BU.out (by omega)) (by omega) | with_reducible exact bel7d (bel_set (bel_set BU.out (by omega)) (by omega)) (by omega) | with_reducible exact bel7 (bel_set (Below.drew (bel_set BU.out (by omega))) (by omega)) (by omega) | with_reducible exact bel7 (bel_set (bel_set (Below.drew (bel_set BU.out (by omega))) (by omega)) (by omega)) (by omega) | with_reducible exact bel7 (bel_set (Below.drew (bel_set (bel_set BU.out (by omega)) (by omega))) (by omega)) (by omega)
  · go_wp2_with fail
    refine bodyPost_ret (results11 _ (w.heap.size + 1) _ (.int .i64 6) (.int .i64 (k : Nat)) (.int .i64 0) (.int .i64 0) (.int .i64 0) (.int .i64 0) (.int .i64 0) _ _ _ _ 28 (0, 0) rfl rfl rfl rfl rfl ?hb) rfl ?hr
    case hb => first | with_reducible exact put7z hz | with_reducible exact put7z (Zr.set hz (by omega)) | with_reducible exact put7z (Zr.set (Zr.set hz (by omega)) (by omega)) | with_reducible exact put7z (Zr.set (Zr.set (Zr.set hz (by omega)) (by omega)) (by omega)) | with_reducible exact put7d hz | with_reducible exact put7d (Zr.set hz (by omega)) | with_reducible exact put7d (Zr.set (Zr.set hz (by omega)) (by omega)) | with_reducible exact put7z (Zr.set (Zr.drew (Zr.set hz (by omega))) (by omega)) | with_reducible exact put7z (Zr.set (Zr.set (Zr.drew (Zr.set hz (by omega))) (by omega)) (by omega)) | with_reducible exact put7z (Zr.set (Zr.drew (Zr.set (Zr.set hz (by omega)) (by omega))) (by omega))
    case hr =>
      refine ⟨6, k, 0, 0, a, b, 0, k, good_m (by decide) hk16 hk2 ha1 hb1, rfl, ?_⟩
      first | with_reducible exact bel7 BU.out (by omega) | with_reducible exact bel7 (bel_set BU.out (by omega)) (by omega) | with_reducible exact bel7 (bel_set (bel_set BU.out (by omega)) (by omega)) (by omega) | with_reducible exact bel7 (bel_set (bel_set (bel_set BU.out (by omega)) (by omega)) (by omega)) (by omega) | with_reducible exact bel7d BU.out (by omega) | with_reducible exact bel7d (bel_set BU.out (by omega)) (by omega) | with_reducible exact bel7d (bel_set (bel_set BU.out (by omega)) (by omega)) (by omega) | with_reducible exact bel7 (bel_set (Below.drew (bel_set BU.out (by omega))) (by omega)) (by omega) | with_reducible exact bel7 (bel_set (bel_set (Below.drew (bel_set BU.out (by omega))) (by omega)) (by omega)) (by omega) | with_reducible exact bel7 (bel_set (Below.drew (bel_set (bel_set BU.out (by omega)) (by omega))) (by omega)) (by omega)
  · go_wp2_with fail
    refine bodyPost_ret (results11 _ (w.heap.size + 1) _ (.int .i64 7) (.int .i64 (k : Nat)) (.int .i64 0) (.int .i64 0) (.int .i64 0) (.int .i64 0) (.int .i64 0) _ _ _ _ 28 (0, 0) rfl rfl rfl rfl rfl ?hb) rfl ?hr
    case hb => first | with_reducible exact put7z hz | with_reducible exact put7z (Zr.set hz (by omega)) | with_reducible exact put7z (Zr.set (Zr.set hz (by omega)) (by omega)) | with_reducible exact put7z (Zr.set (Zr.set (Zr.set hz (by omega)) (by omega)) (by omega)) | with_reducible exact put7d hz | with_reducible exact put7d (Zr.set hz (by omega)) | with_reducible exact put7d (Zr.set (Zr.set hz (by omega)) (by omega)) | with_reducible exact put7z (Zr.set (Zr.drew (Zr.set hz (by omega))) (by omega)) | with_reducible exact put7z (Zr.set (Zr.set (Zr.drew (Zr.set hz (by omega))) (by omega)) (by omega)) | with_reducible exact put7z (Zr.set (Zr.drew (Zr.set (Zr.set hz (by omega)) (by omega))) (by omega))
    case hr =>
      refine ⟨7, k, 0, 0, a, b, 0, k, good_m (by decide) hk16 hk2 ha1 hb1, rfl, ?_⟩
      first | with_reducible exact bel7 BU.out (by omega) | with_reducible exact bel7 (bel_set BU.out (by omega)) (by omega) | with_reducible exact bel7 (bel_set (bel_set BU.out (by omega)) (by omega)) (by omega) | with_reducible exact bel7 (bel_set (bel_set (bel_set BU.out (by omega)) (by omega)) (by omega)) (by omega) | with_reducible exact bel7d BU.out (by omega) | with_reducible exact bel7d (bel_set BU.out (by omega)) (by omega) | with_reducible exact bel7d (bel_set (bel_set BU.out (by omega)) (by omega)) (by omega) | with_reducible exact bel7 (bel_set (Below.drew (bel_set BU.out (by omega))) (by omega)) (by omega) | with_reducible exact bel7 (bel_set (bel_set (Below.drew (bel_set BU.out (by omega))) (by omega)) (by omega)) (by omega) | with_reducible exact bel7 (bel_set (Below.drew (bel_set (bel_set BU.out (by omega)) (by omega))) (by omega)) (by omega)
  · go_wp2_with fail
    refine bodyPost_ret (results11 _ (w.heap.size + 1) _ (.int .i64 8) (.int .i64 (k : Nat)) (.int .i64 0) (.int .i64 0) (.int .i64 0) (.int .i64 0) (.int .i64 0) _ _ _ _ 28 (0, 0) rfl rfl rfl rfl rfl ?hb) rfl ?hr
    case hb => first | with_reducible exact put7z hz | with_reducible exact put7z (Zr.set hz (by omega)) | with_reducible exact put7z (Zr.set (Zr.set hz (by omega)) (by omega)) | with_reducible exact put7z (Zr.set (Zr.set (Zr.set hz (by omega)) (by omega)) (by omega)) | with_reducible exact put7d hz | with_reducible exact put7d (Zr.set hz (by omega)) | with_reducible exact put7d (Zr.set (Zr.set hz (by omega)) (by omega)) | with_reducible exact put7z (Zr.set (Zr.drew (Zr.set hz (by omega))) (by omega)) | with_reducible exact put7z (Zr.set (Zr.set (Zr.drew (Zr.set hz (by omega))) (by omega)) (by omega)) | with_reducible exact put7z (Zr.set (Zr.drew (Zr.set (Zr.set hz (by omega)) (by omega))) (by omega))
    case hr =>
      refine ⟨8, k, 0, 0, a, b, 0, k, good_m (by decide) hk16 hk2 ha1 hb1, rfl, ?_⟩
      first | with_reducible exact bel7 BU.out (by omega) | with_reducible exact bel7 (bel_set BU.out (by omega)) (by omega) | with_reducible exact bel7 (bel_set (bel_set BU.out (by omega)) (by omega)) (by omega) | with_reducible exact bel7 (bel_set (bel_set (bel_set BU.out (by omega)) (by omega)) (by omega)) (by omega) | with_reducible exact bel7d BU.out (by omega) | with_reducible exact bel7d (bel_set BU.out (by omega)) (by omega) | with_reducible exact bel7d (bel_set (bel_set BU.out (by omega)) (by omega)) (by omega) | with_reducible exact bel7 (bel_set (Below.drew (bel_set BU.out (by omega))) (by omega)) (by omega) | with_reducible exact bel7 (bel_set (bel_set (Below.drew (bel_set BU.out (by omega))) (by omega)) (by omega)) (by omega) | with_reducible exact bel7 (bel_set (Below.drew (bel_set (bel_set BU.out (by omega)) (by omega))) (by omega)) (by omega)
  · go_wp2_with fail
    refine bodyPost_ret (results11 _ (w.heap.size + 1) _ (.int .i64 9) (.int .i64 (k : Nat)) (.int .i64 0) (.int .i64 0) (.int .i64 0) (.int .i64 0) (.int .i64 0) _ _ _ _ 28 (0, 0) rfl rfl rfl rfl rfl ?hb) rfl ?hr
    case hb => first | with_reducible exact put7z hz | with_reducible exact put7z (Zr.set hz (by omega)) | with_reducible exact put7z (Zr.set (Zr.set hz (by omega)) (by omega)) | with_reducible exact put7z (Zr.set (Zr.set (Zr.set hz (by omega)) (by omega)) (by omega)) | with_reducible exact put7d hz | with_reducible exact put7d (Zr.set hz (by omega)) | with_reducible exact put7d (Zr.set (Zr.set hz (by omega)) (by omega)) | with_reducible exact put7z (Zr.set (Zr.drew (Zr.set hz (by omega))) (by omega)) | with_reducible exact put7z (Zr.set (Zr.set (Zr.drew (Zr.set hz (by omega))) (by omega)) (by omega)) | with_reducible exact put7z (Zr.set (Zr.drew (Zr.set (Zr.set hz (by omega)) (by omega))) (by omega))
    case hr =>
      refine ⟨9, k, 0, 0, a, b, 0, k, good_m (by decide) hk16 hk2 ha1 hb1, rfl, ?_⟩
      first | with_reducible exact bel7 BU.out (by omega) | with_reducible exact bel7 (bel_set BU.out (by omega)) (by omega) | with_reducible exact bel7 (bel_set (bel_set BU.out (by omega)) (by omega)) (by omega) | with_reducible exact bel7 (bel_set (bel_set (bel_set BU.out (by omega)) (by omega)) (by omega)) (by omega) | with_reducible exact bel7d BU.out (by omega) | with_reducible exact bel7d (bel_set BU.out (by omega)) (by omega) | with_reducible exact bel7d (bel_set (bel_set BU.out (by omega)) (by omega)) (by omega) | with_reducible exact bel7 (bel_set (Below.drew (bel_set BU.out (by omega))) (by omega)) (by omega) | with_reducible exact bel7 (bel_set (bel_set (Below.drew (bel_set BU.out (by omega))) (by omega)) (by omega)) (by omega) | with_reducible exact bel7 (bel_set (Below.drew (bel_set (bel_set BU.out (by omega)) (by omega))) (by omega)) (by omega)
  · go_wp2_with fail
    refine bodyPost_ret (results11 _ (w.heap.size + 1) _ (.int .i64 10) (.int .i64 (k : Nat)) (.int .i64 0) (.int .i64 0) (.int .i64 0) (.int .i64 0) (.int .i64 0) _ _ _ _ 28 (0, 0) rfl rfl rfl rfl rfl ?hb) rfl ?hr
    case hb => first | with_reducible exact put7z hz | with_reducible exact put7z (Zr.set hz (by omega)) | with_reducible exact put7z (Zr.set (Zr.set hz (by omega)) (by omega)) | with_reducible exact put7z (Zr.set (Zr.set (Zr.set hz (by omega)) (by omega)) (by omega)) | with_reducible exact put7d hz | with_reducible exact put7d (Zr.set hz (by omega)) | with_reducible exact put7d (Zr.set (Zr.set hz (by omega)) (by omega)) | with_reducible exact put7z (Zr.set (Zr.drew (Zr.set hz (by omega))) (by omega)) | with_reducible exact put7z (Zr.set (Zr.set (Zr.drew (Zr.set hz (by omega))) (by omega)) (by omega)) | with_reducible exact put7z (Zr.set (Zr.drew (Zr.set (Zr.set hz (by omega)) (by omega))) (by omega))
    case hr =>
      refine ⟨10, k, 0, 0, a, b, 0, k, good_m (by decide) hk16 hk2 ha1 hb1, rfl, ?_⟩
      first | with_reducible exact bel7 BU.out (by omega) | with_reducible exact bel7 (bel_set BU.out (by omega)) (by omega) | with_reducible exact bel7 (bel_set (bel_set BU.out (by omega)) (by omega)) (by omega) | with_reducible exact bel7 (bel_set (bel_set (bel_set BU.out (by omega)) (by omega)) (by omega)) (by omega) | with_reducible exact bel7d BU.out (by omega) | with_reducible exact bel7d (bel_set BU.out (by omega)) (by omega) | with_reducible exact bel7d (bel_set (bel_set BU.out (by omega)) (by omega)) (by omega) | with_reducible exact bel7 (bel_set (Below.drew (bel_set BU.out (by omega))) (by omega)) (by omega) | with_reducible exact bel7 (bel_set (bel_set (Below.drew (bel_set BU.out (by omega))) (by omega)) (by omega)) (by omega) | with_reducible exact bel7 (bel_set (Below.drew (bel_set (bel_set BU.out (by omega)) (by omega))) (by omega)) (by omega)
  · go_wp2_with fail
    refine bodyPost_ret (results11 _ (w.heap.size + 1) _ (.int .i64 11) (.int .i64 (k : Nat)) (.int .i64 0) (.int .i64 0) (.int .i64 0) (.int .i64 0) (.int .i64 0) _ _ _ _ 28 (0, 0) rfl rfl rfl rfl rfl ?hb) rfl ?hr
    case hb => first | with_reducible exact put7z hz | with_reducible exact put7z (Zr.set hz (by omega)) | with_reducible exact put7z (Zr.set (Zr.set hz (by omega)) (by omega)) | with_reducible exact put7z (Zr.set (Zr.set (Zr.set hz (by omega)) (by omega)) (by omega)) | with_reducible exact put7d hz | with_reducible exact put7d (Zr.set hz (by omega)) | with_reducible exact put7d (Zr.set (Zr.set hz (by omega)) (by omega)) | with_reducible exact put7z (Zr.set (Zr.drew (Zr.set hz (by omega))) (by omega)) | with_reducible exact put7z (Zr.set (Zr.set (Zr.drew (Zr.set hz (by omega))) (by omega)) (by omega)) | with_reducible exact put7z (Zr.set (Zr.drew (Zr.set (Zr.set hz (by omega)) (by omega))) (by omega))
    case hr =>
      refine ⟨11, k, 0, 0, a, b, 0, k, good_m (by decide) hk16 hk2 ha1 hb1, rfl, ?_⟩
      first | with_reducible exact bel7 BU.out (by omega) | with_reducible exact bel7 (bel_set BU.out (by omega)) (by omega) | with_reducible exact bel7 (bel_set (bel_set BU.out (by omega)) (by omega)) (by omega) | with_reducible exact bel7 (bel_set (bel_set (bel_set BU.out (by omega)) (by omega)) (by omega)) (by omega) | with_reducible exact bel7d BU.out (by omega) | with_reducible exact bel7d (bel_set BU.out (by omega)) (by omega) | with_reducible exact bel7d (bel_set (bel_set BU.out (by omega)) (by omega)) (by omega) | with_reducible exact bel7 (bel_set (Below.drew (bel_set BU.out (by omega))) (by omega)) (by omega) | with_reducible exact bel7 (bel_set (bel_set (Below.drew (bel_set BU.out (by omega))) (by omega)) (by omega)) (by omega) | with_reducible exact bel7 (bel_set (Below.drew (bel_set (bel_set BU.out (by omega)) (by omega))) (by omega)) (by omega)
  · go_wp2_with fail
    refine bodyPost_ret (results11 _ (w.heap.size + 1) _ (.int .i64 12) (.int .i64 1) (.int .i64 0) (.int .i64 0) (.int .i64 0) (.int .i64 0) (.int .i64 (k : Nat)) _ _ _ _ 28 (0, 0) rfl rfl rfl rfl rfl ?hb) rfl ?hr
    case hb => first | with_reducible exact put7z hz | with_reducible exact put7z (Zr.set hz (by omega)) | with_reducible exact put7z (Zr.set (Zr.set hz (by omega)) (by omega)) | with_reducible exact put7z (Zr.set (Zr.set (Zr.set hz (by omega)) (by omega)) (by omega)) | with_reducible exact put7d hz | with_reducible exact put7d (Zr.set hz (by omega)) | with_reducible exact put7d (Zr.set (Zr.set hz (by omega)) (by omega)) | with_reducible exact put7z (Zr.set (Zr.drew (Zr.set hz (by omega))) (by omega)) | with_reducible exact put7z (Zr.set (Zr.set (Zr.drew (Zr.set hz (by omega))) (by omega)) (by omega)) | with_reducible exact put7z (Zr.set (Zr.drew (Zr.set (Zr.set hz (by omega)) (by omega))) (by omega))
    case hr =>
      refine ⟨12, 1, 0, k, a, b, 0, k, good_t (by decide) hk16 (by omega) (by omega) (by omega), rfl, ?_⟩
      first | with_reducible exact bel7 BU.out (by omega) | with_reducible exact bel7 (bel_set BU.out (by omega)) (by omega) | with_reducible exact bel7 (bel_set (bel_set BU.out (by omega)) (by omega)) (by omega) | with_reducible exact bel7 (bel_set (bel_set (bel_set BU.out (by omega)) (by omega)) (by omega)) (by omega) | with_reducible exact bel7d BU.out (by omega) | with_reducible exact bel7d (bel_set BU.out (by omega)) (by omega) | with_reducible exact bel7d (bel_set (bel_set BU.out (by omega)) (by omega)) (by omega) | with_reducible exact bel7 (bel_set (Below.drew (bel_set BU.out (by omega))) (by omega)) (by omega) | with_reducible exact bel7 (bel_set (bel_set (Below.drew (bel_set BU.out (by omega))) (by omega)) (by omega)) (by omega) | with_reducible exact bel7 (bel_set (Below.drew (bel_set (bel_set BU.out (by omega)) (by omega))) (by omega)) (by omega)
  · go_wp2_with fail
    refine bodyPost_ret (results11 _ (w.heap.size + 1) _ (.int .i64 13) (.int .i64 1) (.int .i64 0) (.int .i64 0) (.int .i64 0) (.int .i64 0) (.int .i64 (k : Nat)) _ _ _ _ 28 (0, 0) rfl rfl rfl rfl rfl ?hb) rfl ?hr
    case hb => first | with_reducible exact put7z hz | with_reducible exact put7z (Zr.set hz (by omega)) | with_reducible exact put7z (Zr.set (Zr.set hz (by omega)) (by omega)) | with_reducible exact put7z (Zr.set (Zr.set (Zr.set hz (by omega)) (by omega)) (by omega)) | with_reducible exact put7d hz | with_reducible exact put7d (Zr.set hz (by omega)) | with_reducible exact put7d (Zr.set (Zr.set hz (by omega)) (by omega)) | with_reducible exact put7z (Zr.set (Zr.drew (Zr.set hz (by omega))) (by omega)) | with_reducible exact put7z (Zr.set (Zr.set (Zr.drew (Zr.set hz (by omega))) (by omega)) (by omega)) | with_reducible exact put7z (Zr.set (Zr.drew (Zr.set (Zr.set hz (by omega)) (by omega))) (by omega))
    case hr =>
      refine ⟨13, 1, 0, k, a, b, 0, k, good_t (by decide) hk16 (by omega) (by omega) (by omega), rfl, ?_⟩
      first | with_reducible exact bel7 BU.out (by omega) | with_reducible exact bel7 (bel_set BU.out (by omega)) (by omega) | with_reducible exact bel7 (bel_set (bel_set BU.out (by omega)) (by omega)) (by omega) | with_reducible exact bel7 (bel_set (bel_set (bel_set BU.out (by omega)) (by omega)) (by omega)) (by omega) | with_reducible exact bel7d BU.out (by omega) | with_reducible exact bel7d (bel_set BU.out (by omega)) (by omega) | with_reducible exact bel7d (bel_set (bel_set BU.out (by omega)) (by omega)) (by omega) | with_reducible exact bel7 (bel_set (Below.drew (bel_set BU.out (by omega))) (by omega)) (by omega) | with_reducible exact bel7 (bel_set (bel_set (Below.drew (bel_set BU.out (by omega))) (by omega)) (by omega)) (by omega) | with_reducible exact bel7 (bel_set (Below.drew (bel_set (bel_set BU.out (by omega)) (by omega))) (by omega)) (by omega)
  · go_wp2_with fail
    refine bodyPost_ret (results11 _ (w.heap.size + 1) _ (.int .i64 14) (.int .i64 1) (.int .i64 0) (.int .i64 0) (.int .i64 0) (.int .i64 0) (.int .i64 (k : Nat)) _ _ _ _ 28 (0, 0) rfl rfl rfl rfl rfl ?hb) rfl ?hr
    case hb => first | with_reducible exact put7z hz | with_reducible exact put7z (Zr.set hz (by omega)) | with_reducible exact put7z (Zr.set (Zr.set hz (by omega)) (by omega)) | with_reducible exact put7z (Zr.set (Zr.set (Zr.set hz (by omega)) (by omega)) (by omega)) | with_reducible exact put7d hz | with_reducible exact put7d (Zr.set hz (by omega)) | with_reducible exact put7d (Zr.set (Zr.set hz (by omega)) (by omega)) | with_reducible exact put7z (Zr.set (Zr.drew (Zr.set hz (by omega))) (by omega)) | with_reducible exact put7z (Zr.set (Zr.set (Zr.drew (Zr.set hz (by omega))) (by omega)) (by omega)) | with_reducible exact put7z (Zr.set (Zr.drew (Zr.set (Zr.set hz (by omega)) (by omega))) (by omega))
    case hr =>
      refine ⟨14, 1, 0, k, a, b, 0, k, good_t (by decide) hk16 (by omega) (by omega) (by omega), rfl, ?_⟩
      first | with_reducible exact bel7 BU.out (by omega) | with_reducible exact bel7 (bel_set BU.out (by omega)) (by omega) | with_reducible exact bel7 (bel_set (bel_set BU.out (by omega)) (by omega)) (by omega) | with_reducible exact bel7 (bel_set (bel_set (bel_set BU.out (by omega)) (by omega)) (by omega)) (by omega) | with_reducible exact bel7d BU.out (by omega) | with_reducible exact bel7d (bel_set BU.out (by omega)) (by omega) | with_reducible exact bel7d (bel_set (bel_set BU.out (by omega)) (by omega)) (by omega) | with_reducible exact bel7 (bel_set (Below.drew (bel_set BU.out (by omega))) (by omega)) (by omega) | with_reducible exact bel7 (bel_set (bel_set (Below.drew (bel_set BU.out (by omega))) (by omega)) (by omega)) (by omega) | with_reducible exact bel7 (bel_set (Below.drew (bel_set (bel_set BU.out (by omega)) (by omega))) (by omega)) (by omega)
  · go_wp2_with fail
    refine bodyPost_ret (results11 _ (w.heap.size + 1) _ (.int .i64 15) (.int .i64 1) (.int .i64 0) (.int .i64 0) (.int .i64 0) (.int .i64 0) (.int .i64 (k : Nat)) _ _ _ _ 28 (0, 0) rfl rfl rfl rfl rfl ?hb) rfl ?hr
    case hb => first | with_reducible exact put7z hz | with_reducible exact put7z (Zr.set hz (by omega)) | with_reducible exact put7z (Zr.set (Zr.set hz (by omega)) (by omega)) | with_reducible exact put7z (Zr.set (Zr.set (Zr.set hz (by omega)) (by omega)) (by omega)) | with_reducible exact put7d hz | with_reducible exact put7d (Zr.set hz (by omega)) | with_reducible exact put7d (Zr.set (Zr.set hz (by omega)) (by omega)) | with_reducible exact put7z (Zr.set (Zr.drew (Zr.set hz (by omega))) (by omega)) | with_reducible exact put7z (Zr.set (Zr.set (Zr.drew (Zr.set hz (by omega))) (by omega)) (by omega)) | with_reducible exact put7z (Zr.set (Zr.drew (Zr.set (Zr.set hz (by omega)) (by omega))) (by omega))
    case hr =>
      refine ⟨15, 1, 0, k, a, b, 0, k, good_t (by decide) hk16 (by omega) (by omega) (by omega), rfl, ?_⟩
      first | with_reducible exact bel7 BU.out (by omega) | with_reducible exact bel7 (bel_set BU.out (by omega)) (by omega) | with_reducible exact bel7 (bel_set (bel_set BU.out (by omega)) (by omega)) (by omega) | with_reducible exact bel7 (bel_set (bel_set (bel_set BU.out (by omega)) (by omega)) (by omega)) (by omega) | with_reducible exact bel7d BU.out (by omega) | with_reducible exact bel7d (bel_set BU.out (by omega)) (by omega) | with_reducible exact bel7d (bel_set (bel_set BU.out (by omega)) (by omega)) (by omega) | with_reducible exact bel7 (bel_set (Below.drew (bel_set BU.out (by omega))) (by omega)) (by omega) | with_reducible exact bel7 (bel_set (bel_set (Below.drew (bel_set BU.out (by omega))) (by omega)) (by omega)) (by omega) | with_reducible exact bel7 (bel_set (Below.drew (bel_set (bel_set BU.out (by omega)) (by omega))) (by omega)) (by omega)
  · have h1 := and_one (a := A)
    have h2 : A % 2 < 2 := Nat.mod_lt _ (by decide)
    generalize A % 2 = m at h1 h2
    go_wp2_with fail
    go_region
    go_wp2_with fail
    refine bodyPost_ret (results11 _ (w.heap.size + 1) _ (.int .i64 16) (.int .i64 (k : Nat)) (.int .i64 0) (.int .i64 0) (.int .i64 0) (.int .i64 0) (.int .i64 0) _ _ _ _ 28 (0, 0) rfl rfl rfl rfl rfl ?hb) rfl ?hr
    case hb => first | with_reducible exact put7z hz | with_reducible exact put7z (Zr.set hz (by omega)) | with_reducible exact put7z (Zr.set (Zr.set hz (by omega)) (by omega)) | with_reducible exact put7z (Zr.set (Zr.set (Zr.set hz (by omega)) (by omega)) (by omega)) | with_reducible exact put7d hz | with_reducible exact put7d (Zr.set hz (by omega)) | with_reducible exact put7d (Zr.set (Zr.set hz (by omega)) (by omega)) | with_reducible exact put7z (Zr.set (Zr.drew (Zr.set hz (by omega))) (by omega)) | with_reducible exact put7z (Zr.set (Zr.set (Zr.drew (Zr.set hz (by omega))) (by omega)) (by omega)) | with_reducible exact put7z (Zr.set (Zr.drew (Zr.set (Zr.set hz (by omega)) (by omega))) (by omega))
    case hr =>
      refine ⟨16, k, 0, 0, m, b, c, k, good_16 hk16 hk2 h2 hb1 hc1, rfl, ?_⟩
      first | with_reducible exact bel7 BU.out (by omega) | with_reducible exact bel7 (bel_set BU.out (by omega)) (by omega) | with_reducible exact bel7 (bel_set (bel_set BU.out (by omega)) (by omega)) (by omega) | with_reducible exact bel7 (bel_set (bel_set (bel_set BU.out (by omega)) (by omega)) (by omega)) (by omega) | with_reducible exact bel7d BU.out (by omega) | with_reducible exact bel7d (bel_set BU.out (by omega)) (by omega) | with_reducible exact bel7d (bel_set (bel_set BU.out (by omega)) (by omega)) (by omega) | with_reducible exact bel7 (bel_set (Below.drew (bel_set BU.out (by omega))) (by omega)) (by omega) | with_reducible exact bel7 (bel_set (bel_set (Below.drew (bel_set BU.out (by omega))) (by omega)) (by omega)) (by omega) | with_reducible exact bel7 (bel_set (Below.drew (bel_set (bel_set BU.out (by omega)) (by omega))) (by omega)) (by omega)
  · obtain ⟨x0, hx0, hx1⟩ : ∃ x0, V % k = x0 ∧ x0 < k := ⟨_, rfl, Nat.mod_lt _ (by omega)⟩
    have hxI : (V : Int) % (k : Int) = (x0 : Int) := by omega
    have hk0 : ((k : Int) == 0) = false := by simpa using (by omega : k ≠ 0)
    obtain ⟨wb, hwb⟩ : ∃ wb, x0 + 1 = wb := ⟨_, rfl⟩
    have hwbI : (x0 : Int) + 1 = (wb : Int) := by omega
    clear hx0
    by_cases hw : wb = k
    · have hwk : ((wb : Int) == (k : Int)) = true := by subst hw; simp
      have hwk' : (wb == k) = true := by subst hw; simp
      clear hw
      by_cases h16 : k = 16
      · have hlt16 : (16 : Int) < (k : Int) + 1 := by omega
        clear h16
        go_wp2_with fail
        obtain ⟨V1, eV1, nV1, zzV1, bV1⟩ : ∃ V1, (U.setCell ⟨w.heap.size + 1 + 1 + 1, 1, none⟩ (.int .i64 16)) = V1 ∧ Hid (V1.heap[w.heap.size + 1 + 1 + 1]? = some (.cells #[.int .i64 17, .int .i64 16, .int .i64 0, .int .i64 0, .int .i64 0, .int .i64 0, .int .i64 0] 28 (0, 0))) ∧ Hid (Zr V1 (w.heap.size + 1)) ∧ Hid (Below w.heap.size w V1) := ⟨_, rfl, Lib.hid (by (try rw [drew_heap]); simp [World.setCell, Array.getElem?_modify, hn]), Lib.hid (Zr.set hz (by omega)), Lib.hid (bel_set BU.out (by omega))⟩
        have cA' : V1.cell? ⟨w.heap.size, 2, none⟩ = some (.int .u32 (A : Nat)) := by rw [← eV1, World.cell?_of_block (a := ⟨w.heap.size, 2, none⟩) (set_ne (b := w.heap.size + 1 + 1 + 1) (g := w.heap.size) (by omega))]; exact cA
        have cB' : V1.cell? ⟨w.heap.size, 3, none⟩ = some (.int .u32 (B : Nat)) := by rw [← eV1, World.cell?_of_block (a := ⟨w.heap.size, 3, none⟩) (set_ne (b := w.heap.size + 1 + 1 + 1) (g := w.heap.size) (by omega))]; exact cB
        rw [eV1]
        clear cA cB cC cV
        clear eV1 d0 d1 d2 d3 d4 d5 d6 z0 z1 z2 z3 z4 z5 z6 fz fd BU hz
        have BU := bV1
        have hz := zzV1.out
        have d0 : V1.cell? ⟨w.heap.size + 1 + 1 + 1, 0, none⟩ = some (.int .i64 17) := by simp [World.cell?, nV1.out]
        have d1 : V1.cell? ⟨w.heap.size + 1 + 1 + 1, 1, none⟩ = some (.int .i64 16) := by simp [World.cell?, nV1.out]
        have d2 : V1.cell? ⟨w.heap.size + 1 + 1 + 1, 2, none⟩ = some (.int .i64 0) := by simp [World.cell?, nV1.out]
        have d3 : V1.cell? ⟨w.heap.size + 1 + 1 + 1, 3, none⟩ = some (.int .i64 0) := by simp [World.cell?, nV1.out]
        have d4 : V1.cell? ⟨w.heap.size + 1 + 1 + 1, 4, none⟩ = some (.int .i64 0) := by simp [World.cell?, nV1.out]
        have d5 : V1.cell? ⟨w.heap.size + 1 + 1 + 1, 5, none⟩ = some (.int .i64 0) := by simp [World.cell?, nV1.out]
        have d6 : V1.cell? ⟨w.heap.size + 1 + 1 + 1, 6, none⟩ = some (.int .i64 0) := by simp [World.cell?, nV1.out]
        have z0 : V1.cell? ⟨w.heap.size + 1, 0, none⟩ = some (.int .i64 0) := by simp [World.cell?, zzV1.out]
        have z1 : V1.cell? ⟨w.heap.size + 1, 1, none⟩ = some (.int .i64 0) := by simp [World.cell?, zzV1.out]
        have z2 : V1.cell? ⟨w.heap.size + 1, 2, none⟩ = some (.int .i64 0) := by simp [World.cell?, zzV1.out]
        have z3 : V1.cell? ⟨w.heap.size + 1, 3, none⟩ = some (.int .i64 0) := by simp [World.cell?, zzV1.out]
        have z4 : V1.cell? ⟨w.heap.size + 1, 4, none⟩ = some (.int .i64 0) := by simp [World.cell?, zzV1.out]
        have z5 : V1.cell? ⟨w.heap.size + 1, 5, none⟩ = some (.int .i64 0) := by simp [World.cell?, zzV1.out]
        have z6 : V1.cell? ⟨w.heap.size + 1, 6, none⟩ = some (.int .i64 0) := by simp [World.cell?, zzV1.out]
        have fz : ∀ j, V1.frozen? ⟨w.heap.size + 1, j, none⟩ = false := fun j => by simp [World.frozen?, zzV1.out]
        have fd : ∀ j, V1.frozen? ⟨w.heap.size + 1 + 1 + 1, j, none⟩ = false := fun j => by simp [World.frozen?, nV1.out]
        obtain ⟨dd, hdd⟩ : ∃ dd, 16 - 1 = dd := ⟨_, rfl⟩
        have hddI : 16 - 1 = (dd : Int) := by omega
        obtain ⟨qa, hqa⟩ : ∃ q, 2 ^ dd - 1 = q := ⟨_, rfl⟩
        obtain ⟨qb, hqb⟩ : ∃ q, 2 ^ 1 - 1 = q := ⟨_, rfl⟩
        have RMA := Lib.hid (rmask_is (k := dd) (by omega) hqa)
        have RMB := Lib.hid (show ∀ u, Calls Try.prog 15 #[.int .i64 1] u fun e w' => e = .returned (.int .i64 (qb : Nat)) ∧ u = w' from rmask_is (k := 1) (by omega) hqb)
        have ea := and_mask_nat (a := A) (k := dd) (by omega)
        have eb := and_mask_nat (a := B) (k := 1) (by omega)
        have la := mod_lt_pow A dd
        have lb := mod_lt_pow B 1
        rw [hqa] at ea
        rw [hqb] at eb
        generalize A % 2 ^ dd = a1 at ea la
        generalize B % 2 ^ 1 = b1 at eb lb
        rw [← hdd] at la
        have hwr := wrap_nat (a := dd) (by omega)
        have hwA := wrap_nat (a := A) (by omega)
        have hwB := wrap_nat (a := B) (by omega)
        clear hqa hqb hdd ha hb hc ha1 hb1 hc1 RQ
        go_region_held3 (fun u => u.cell? ⟨w.heap.size + 1 + 1 + 1, 0, none⟩ = some (.int .i64 17) ∧ u.cell? ⟨w.heap.size + 1 + 1 + 1, 1, none⟩ = some (.int .i64 16) ∧ u.cell? ⟨w.heap.size + 1 + 1 + 1, 2, none⟩ = some (.int .i64 0) ∧ u.cell? ⟨w.heap.size + 1 + 1 + 1, 3, none⟩ = some (.int .i64 0) ∧ u.cell? ⟨w.heap.size + 1 + 1 + 1, 4, none⟩ = some (.int .i64 0) ∧ u.cell? ⟨w.heap.size + 1 + 1 + 1, 5, none⟩ = some (.int .i64 0) ∧ u.cell? ⟨w.heap.size + 1 + 1 + 1, 6, none⟩ = some (.int .i64 0) ∧ u.cell? ⟨w.heap.size, 2, none⟩ = some (.int .u32 (A : Nat)) ∧ u.cell? ⟨w.heap.size, 3, none⟩ = some (.int .u32 (B : Nat)))
          (go_keep)
          (first
            | (go_at_call 15; (with_reducible refine (RMA.out _).mono ?_); rintro e u1 ⟨rfl, rfl⟩)
            | (go_at_call 15; (with_reducible refine (RMB.out _).mono ?_); rintro e u2 ⟨rfl, rfl⟩))
        go_wp2_with fail
        refine bodyPost_ret (results11 _ (w.heap.size + 1) _ (.int .i64 17) (.int .i64 16) (.int .i64 0) (.int .i64 0) (.int .i64 0) (.int .i64 0) (.int .i64 0) _ _ _ _ 28 (0, 0) rfl rfl rfl rfl rfl ?hb) rfl ?hr
        case hb => first | with_reducible exact put7z hz | with_reducible exact put7z (Zr.set hz (by omega)) | with_reducible exact put7z (Zr.set (Zr.set hz (by omega)) (by omega)) | with_reducible exact put7z (Zr.set (Zr.set (Zr.set hz (by omega)) (by omega)) (by omega)) | with_reducible exact put7d hz | with_reducible exact put7d (Zr.set hz (by omega)) | with_reducible exact put7d (Zr.set (Zr.set hz (by omega)) (by omega)) | with_reducible exact put7z (Zr.set (Zr.drew (Zr.set hz (by omega))) (by omega)) | with_reducible exact put7z (Zr.set (Zr.set (Zr.drew (Zr.set hz (by omega))) (by omega)) (by omega)) | with_reducible exact put7z (Zr.set (Zr.drew (Zr.set (Zr.set hz (by omega)) (by omega))) (by omega)) | with_reducible exact put7z (Zr.drew hz)
        case hr =>
          refine ⟨17, 16, 0, 0, a1, b1, 0, 1, good_17 (by omega) (by omega) la lb, rfl, ?_⟩
          first | with_reducible exact bel7 BU.out (by omega) | with_reducible exact bel7 (bel_set BU.out (by omega)) (by omega) | with_reducible exact bel7 (bel_set (bel_set BU.out (by omega)) (by omega)) (by omega) | with_reducible exact bel7 (bel_set (bel_set (bel_set BU.out (by omega)) (by omega)) (by omega)) (by omega) | with_reducible exact bel7d BU.out (by omega) | with_reducible exact bel7d (bel_set BU.out (by omega)) (by omega) | with_reducible exact bel7d (bel_set (bel_set BU.out (by omega)) (by omega)) (by omega) | with_reducible exact bel7 (bel_set (Below.drew (bel_set BU.out (by omega))) (by omega)) (by omega) | with_reducible exact bel7 (bel_set (bel_set (Below.drew (bel_set BU.out (by omega))) (by omega)) (by omega)) (by omega) | with_reducible exact bel7 (bel_set (Below.drew (bel_set (bel_set BU.out (by omega)) (by omega))) (by omega)) (by omega) | with_reducible exact bel7 (Below.drew BU.out) (by omega)
      · obtain ⟨Wn, hWn⟩ : ∃ Wn, k + 1 = Wn := ⟨_, rfl⟩
        have hWnI : (k : Int) + 1 = (Wn : Int) := by omega
        have hlt16 : ¬ ((16 : Int) < (Wn : Int)) := by omega
        clear h16
        go_wp2_with fail
        obtain ⟨V1, eV1, nV1, zzV1, bV1⟩ : ∃ V1, (U.setCell ⟨w.heap.size + 1 + 1 + 1, 1, none⟩ (.int .i64 (Wn : Nat))) = V1 ∧ Hid (V1.heap[w.heap.size + 1 + 1 + 1]? = some (.cells #[.int .i64 17, .int .i64 (Wn : Nat), .int .i64 0, .int .i64 0, .int .i64 0, .int .i64 0, .int .i64 0] 28 (0, 0))) ∧ Hid (Zr V1 (w.heap.size + 1)) ∧ Hid (Below w.heap.size w V1) := ⟨_, rfl, Lib.hid (by (try rw [drew_heap]); simp [World.setCell, Array.getElem?_modify, hn]), Lib.hid (Zr.set hz (by omega)), Lib.hid (bel_set BU.out (by omega))⟩
        have cA' : V1.cell? ⟨w.heap.size, 2, none⟩ = some (.int .u32 (A : Nat)) := by rw [← eV1, World.cell?_of_block (a := ⟨w.heap.size, 2, none⟩) (set_ne (b := w.heap.size + 1 + 1 + 1) (g := w.heap.size) (by omega))]; exact cA
        have cB' : V1.cell? ⟨w.heap.size, 3, none⟩ = some (.int .u32 (B : Nat)) := by rw [← eV1, World.cell?_of_block (a := ⟨w.heap.size, 3, none⟩) (set_ne (b := w.heap.size + 1 + 1 + 1) (g := w.heap.size) (by omega))]; exact cB
        rw [eV1]
        clear cA cB cC cV
        clear eV1 d0 d1 d2 d3 d4 d5 d6 z0 z1 z2 z3 z4 z5 z6 fz fd BU hz
        have BU := bV1
        have hz := zzV1.out
        have d0 : V1.cell? ⟨w.heap.size + 1 + 1 + 1, 0, none⟩ = some (.int .i64 17) := by simp [World.cell?, nV1.out]
        have d1 : V1.cell? ⟨w.heap.size + 1 + 1 + 1, 1, none⟩ = some (.int .i64 (Wn : Nat)) := by simp [World.cell?, nV1.out]
        have d2 : V1.cell? ⟨w.heap.size + 1 + 1 + 1, 2, none⟩ = some (.int .i64 0) := by simp [World.cell?, nV1.out]
        have d3 : V1.cell? ⟨w.heap.size + 1 + 1 + 1, 3, none⟩ = some (.int .i64 0) := by simp [World.cell?, nV1.out]
        have d4 : V1.cell? ⟨w.heap.size + 1 + 1 + 1, 4, none⟩ = some (.int .i64 0) := by simp [World.cell?, nV1.out]
        have d5 : V1.cell? ⟨w.heap.size + 1 + 1 + 1, 5, none⟩ = some (.int .i64 0) := by simp [World.cell?, nV1.out]
        have d6 : V1.cell? ⟨w.heap.size + 1 + 1 + 1, 6, none⟩ = some (.int .i64 0) := by simp [World.cell?, nV1.out]
        have z0 : V1.cell? ⟨w.heap.size + 1, 0, none⟩ = some (.int .i64 0) := by simp [World.cell?, zzV1.out]
        have z1 : V1.cell? ⟨w.heap.size + 1, 1, none⟩ = some (.int .i64 0) := by simp [World.cell?, zzV1.out]
        have z2 : V1.cell? ⟨w.heap.size + 1, 2, none⟩ = some (.int .i64 0) := by simp [World.cell?, zzV1.out]
        have z3 : V1.cell? ⟨w.heap.size + 1, 3, none⟩ = some (.int .i64 0) := by simp [World.cell?, zzV1.out]
        have z4 : V1.cell? ⟨w.heap.size + 1, 4, none⟩ = some (.int .i64 0) := by simp [World.cell?, zzV1.out]
        have z5 : V1.cell? ⟨w.heap.size + 1, 5, none⟩ = some (.int .i64 0) := by simp [World.cell?, zzV1.out]
        have z6 : V1.cell? ⟨w.heap.size + 1, 6, none⟩ = some (.int .i64 0) := by simp [World.cell?, zzV1.out]
        have fz : ∀ j, V1.frozen? ⟨w.heap.size + 1, j, none⟩ = false := fun j => by simp [World.frozen?, zzV1.out]
        have fd : ∀ j, V1.frozen? ⟨w.heap.size + 1 + 1 + 1, j, none⟩ = false := fun j => by simp [World.frozen?, nV1.out]
        obtain ⟨dd, hdd⟩ : ∃ dd, Wn - 1 = dd := ⟨_, rfl⟩
        have hddI : (Wn : Int) - 1 = (dd : Int) := by omega
        obtain ⟨qa, hqa⟩ : ∃ q, 2 ^ dd - 1 = q := ⟨_, rfl⟩
        obtain ⟨qb, hqb⟩ : ∃ q, 2 ^ 1 - 1 = q := ⟨_, rfl⟩
        have RMA := Lib.hid (rmask_is (k := dd) (by omega) hqa)
        have RMB := Lib.hid (show ∀ u, Calls Try.prog 15 #[.int .i64 1] u fun e w' => e = .returned (.int .i64 (qb : Nat)) ∧ u = w' from rmask_is (k := 1) (by omega) hqb)
        have ea := and_mask_nat (a := A) (k := dd) (by omega)
        have eb := and_mask_nat (a := B) (k := 1) (by omega)
        have la := mod_lt_pow A dd
        have lb := mod_lt_pow B 1
        rw [hqa] at ea
        rw [hqb] at eb
        generalize A % 2 ^ dd = a1 at ea la
        generalize B % 2 ^ 1 = b1 at eb lb
        rw [← hdd] at la
        have hwr := wrap_nat (a := dd) (by omega)
        have hwA := wrap_nat (a := A) (by omega)
        have hwB := wrap_nat (a := B) (by omega)
        clear hqa hqb hdd ha hb hc ha1 hb1 hc1 RQ
        go_region_held3 (fun u => u.cell? ⟨w.heap.size + 1 + 1 + 1, 0, none⟩ = some (.int .i64 17) ∧ u.cell? ⟨w.heap.size + 1 + 1 + 1, 1, none⟩ = some (.int .i64 (Wn : Nat)) ∧ u.cell? ⟨w.heap.size + 1 + 1 + 1, 2, none⟩ = some (.int .i64 0) ∧ u.cell? ⟨w.heap.size + 1 + 1 + 1, 3, none⟩ = some (.int .i64 0) ∧ u.cell? ⟨w.heap.size + 1 + 1 + 1, 4, none⟩ = some (.int .i64 0) ∧ u.cell? ⟨w.heap.size + 1 + 1 + 1, 5, none⟩ = some (.int .i64 0) ∧ u.cell? ⟨w.heap.size + 1 + 1 + 1, 6, none⟩ = some (.int .i64 0) ∧ u.cell? ⟨w.heap.size, 2, none⟩ = some (.int .u32 (A : Nat)) ∧ u.cell? ⟨w.heap.size, 3, none⟩ = some (.int .u32 (B : Nat)))
          (go_keep)
          (first
            | (go_at_call 15; (with_reducible refine (RMA.out _).mono ?_); rintro e u1 ⟨rfl, rfl⟩)
            | (go_at_call 15; (with_reducible refine (RMB.out _).mono ?_); rintro e u2 ⟨rfl, rfl⟩))
        go_wp2_with fail
        refine bodyPost_ret (results11 _ (w.heap.size + 1) _ (.int .i64 17) (.int .i64 (Wn : Nat)) (.int .i64 0) (.int .i64 0) (.int .i64 0) (.int .i64 0) (.int .i64 0) _ _ _ _ 28 (0, 0) rfl rfl rfl rfl rfl ?hb) rfl ?hr
        case hb => first | with_reducible exact put7z hz | with_reducible exact put7z (Zr.set hz (by omega)) | with_reducible exact put7z (Zr.set (Zr.set hz (by omega)) (by omega)) | with_reducible exact put7z (Zr.set (Zr.set (Zr.set hz (by omega)) (by omega)) (by omega)) | with_reducible exact put7d hz | with_reducible exact put7d (Zr.set hz (by omega)) | with_reducible exact put7d (Zr.set (Zr.set hz (by omega)) (by omega)) | with_reducible exact put7z (Zr.set (Zr.drew (Zr.set hz (by omega))) (by omega)) | with_reducible exact put7z (Zr.set (Zr.set (Zr.drew (Zr.set hz (by omega))) (by omega)) (by omega)) | with_reducible exact put7z (Zr.set (Zr.drew (Zr.set (Zr.set hz (by omega)) (by omega))) (by omega)) | with_reducible exact put7z (Zr.drew hz)
        case hr =>
          refine ⟨17, Wn, 0, 0, a1, b1, 0, 1, good_17 (by omega) (by omega) la lb, rfl, ?_⟩
          first | with_reducible exact bel7 BU.out (by omega) | with_reducible exact bel7 (bel_set BU.out (by omega)) (by omega) | with_reducible exact bel7 (bel_set (bel_set BU.out (by omega)) (by omega)) (by omega) | with_reducible exact bel7 (bel_set (bel_set (bel_set BU.out (by omega)) (by omega)) (by omega)) (by omega) | with_reducible exact bel7d BU.out (by omega) | with_reducible exact bel7d (bel_set BU.out (by omega)) (by omega) | with_reducible exact bel7d (bel_set (bel_set BU.out (by omega)) (by omega)) (by omega) | with_reducible exact bel7 (bel_set (Below.drew (bel_set BU.out (by omega))) (by omega)) (by omega) | with_reducible exact bel7 (bel_set (bel_set (Below.drew (bel_set BU.out (by omega))) (by omega)) (by omega)) (by omega) | with_reducible exact bel7 (bel_set (Below.drew (bel_set (bel_set BU.out (by omega)) (by omega))) (by omega)) (by omega) | with_reducible exact bel7 (Below.drew BU.out) (by omega)
    · have hwk : ((wb : Int) == (k : Int)) = false := by simpa using fun e => hw (by omega)
      have hwk' : (wb == k) = false := by simpa using hw
      obtain ⟨Wn, rfl⟩ : ∃ Wn, Wn = k := ⟨_, rfl⟩
      have cA' := cA
      have cB' := cB
      go_wp2_with fail
      obtain ⟨dd, hdd⟩ : ∃ dd, Wn - wb = dd := ⟨_, rfl⟩
      have hddI : (Wn : Int) - (wb : Int) = (dd : Int) := by omega
      obtain ⟨qa, hqa⟩ : ∃ q, 2 ^ dd - 1 = q := ⟨_, rfl⟩
      obtain ⟨qb, hqb⟩ : ∃ q, 2 ^ wb - 1 = q := ⟨_, rfl⟩
      have RMA := Lib.hid (rmask_is (k := dd) (by omega) hqa)
      have RMB := Lib.hid (show ∀ u, Calls Try.prog 15 #[.int .i64 (wb : Nat)] u fun e w' => e = .returned (.int .i64 (qb : Nat)) ∧ u = w' from rmask_is (k := wb) (by omega) hqb)
      have ea := and_mask_nat (a := A) (k := dd) (by omega)
      have eb := and_mask_nat (a := B) (k := wb) (by omega)
      have la := mod_lt_pow A dd
      have lb := mod_lt_pow B wb
      rw [hqa] at ea
      rw [hqb] at eb
      generalize A % 2 ^ dd = a1 at ea la
      generalize B % 2 ^ wb = b1 at eb lb
      rw [← hdd] at la
      have hwr := wrap_nat (a := dd) (by omega)
      have hwA := wrap_nat (a := A) (by omega)
      have hwB := wrap_nat (a := B) (by omega)
      clear hqa hqb hdd ha hb hc ha1 hb1 hc1 RQ
      go_region_held3 (fun u => u.cell? ⟨w.heap.size + 1 + 1 + 1, 0, none⟩ = some (.int .i64 17) ∧ u.cell? ⟨w.heap.size + 1 + 1 + 1, 1, none⟩ = some (.int .i64 (Wn : Nat)) ∧ u.cell? ⟨w.heap.size + 1 + 1 + 1, 2, none⟩ = some (.int .i64 0) ∧ u.cell? ⟨w.heap.size + 1 + 1 + 1, 3, none⟩ = some (.int .i64 0) ∧ u.cell? ⟨w.heap.size + 1 + 1 + 1, 4, none⟩ = some (.int .i64 0) ∧ u.cell? ⟨w.heap.size + 1 + 1 + 1, 5, none⟩ = some (.int .i64 0) ∧ u.cell? ⟨w.heap.size + 1 + 1 + 1, 6, none⟩ = some (.int .i64 0) ∧ u.cell? ⟨w.heap.size, 2, none⟩ = some (.int .u32 (A : Nat)) ∧ u.cell? ⟨w.heap.size, 3, none⟩ = some (.int .u32 (B : Nat)))
        (go_keep)
        (first
          | (go_at_call 15; (with_reducible refine (RMA.out _).mono ?_); rintro e u1 ⟨rfl, rfl⟩)
          | (go_at_call 15; (with_reducible refine (RMB.out _).mono ?_); rintro e u2 ⟨rfl, rfl⟩))
      go_wp2_with fail
      refine bodyPost_ret (results11 _ (w.heap.size + 1) _ (.int .i64 17) (.int .i64 (Wn : Nat)) (.int .i64 0) (.int .i64 0) (.int .i64 0) (.int .i64 0) (.int .i64 0) _ _ _ _ 28 (0, 0) rfl rfl rfl rfl rfl ?hb) rfl ?hr
      case hb => first | with_reducible exact put7z hz | with_reducible exact put7z (Zr.set hz (by omega)) | with_reducible exact put7z (Zr.set (Zr.set hz (by omega)) (by omega)) | with_reducible exact put7z (Zr.set (Zr.set (Zr.set hz (by omega)) (by omega)) (by omega)) | with_reducible exact put7d hz | with_reducible exact put7d (Zr.set hz (by omega)) | with_reducible exact put7d (Zr.set (Zr.set hz (by omega)) (by omega)) | with_reducible exact put7z (Zr.set (Zr.drew (Zr.set hz (by omega))) (by omega)) | with_reducible exact put7z (Zr.set (Zr.set (Zr.drew (Zr.set hz (by omega))) (by omega)) (by omega)) | with_reducible exact put7z (Zr.set (Zr.drew (Zr.set (Zr.set hz (by omega)) (by omega))) (by omega)) | with_reducible exact put7z (Zr.drew hz)
      case hr =>
        refine ⟨17, Wn, 0, 0, a1, b1, 0, wb, good_17 (by omega) (by omega) la lb, rfl, ?_⟩
        first | with_reducible exact bel7 BU.out (by omega) | with_reducible exact bel7 (bel_set BU.out (by omega)) (by omega) | with_reducible exact bel7 (bel_set (bel_set BU.out (by omega)) (by omega)) (by omega) | with_reducible exact bel7 (bel_set (bel_set (bel_set BU.out (by omega)) (by omega)) (by omega)) (by omega) | with_reducible exact bel7d BU.out (by omega) | with_reducible exact bel7d (bel_set BU.out (by omega)) (by omega) | with_reducible exact bel7d (bel_set (bel_set BU.out (by omega)) (by omega)) (by omega) | with_reducible exact bel7 (bel_set (Below.drew (bel_set BU.out (by omega))) (by omega)) (by omega) | with_reducible exact bel7 (bel_set (bel_set (Below.drew (bel_set BU.out (by omega))) (by omega)) (by omega)) (by omega) | with_reducible exact bel7 (bel_set (Below.drew (bel_set (bel_set BU.out (by omega)) (by omega))) (by omega)) (by omega) | with_reducible exact bel7 (Below.drew BU.out) (by omega)
  · obtain ⟨lo, hlo, hlo1⟩ : ∃ lo, V % k = lo ∧ lo < k := ⟨_, rfl, Nat.mod_lt _ (by omega)⟩
    have hloI : (V : Int) % (k : Int) = (lo : Int) := by omega
    obtain ⟨d, hd, hdp⟩ : ∃ d, k - lo = d ∧ 1 ≤ d := ⟨_, rfl, by omega⟩
    have hdI : (k : Int) - (lo : Int) = (d : Int) := by omega
    obtain ⟨m, hm, hm1⟩ : ∃ m, C % d = m ∧ m < d := ⟨_, rfl, Nat.mod_lt _ (by omega)⟩
    have hmI : (C : Int) % (d : Int) = (m : Int) := by omega
    obtain ⟨N, hN⟩ : ∃ N, lo + m = N := ⟨_, rfl⟩
    have hNI : (lo : Int) + (m : Int) = (N : Int) := by omega
    obtain ⟨Wn, hWn⟩ : ∃ Wn, N - lo + 1 = Wn := ⟨_, rfl⟩
    have hWI : (N : Int) - (lo : Int) + 1 = (Wn : Int) := by omega
    have hd0 : ((d : Int) == 0) = false := by simpa using (by omega : d ≠ 0)
    have hk0 : ((k : Int) == 0) = false := by simpa using (by omega : k ≠ 0)
    clear hlo hm
    go_wp2_with fail
    go_region
    obtain ⟨V1, eV1, nV1, zzV1, bV1⟩ : ∃ V1, ((U.setCell ⟨w.heap.size + 1 + 1 + 1, 6, none⟩ (.int .i64 (lo : Nat))).setCell ⟨w.heap.size + 1 + 1 + 1, 5, none⟩ (.int .i64 (N : Nat))).drew = V1 ∧ Hid (V1.heap[w.heap.size + 1 + 1 + 1]? = some (.cells #[.int .i64 18, .int .i64 (k : Nat), .int .i64 0, .int .i64 0, .int .i64 0, .int .i64 (N : Nat), .int .i64 (lo : Nat)] 28 (0, 0))) ∧ Hid (Zr V1 (w.heap.size + 1)) ∧ Hid (Below w.heap.size w V1) := ⟨_, rfl, Lib.hid (by (try rw [drew_heap]); simp [World.setCell, Array.getElem?_modify, hn]), Lib.hid (Zr.drew (Zr.set (Zr.set hz (by omega)) (by omega))), Lib.hid (Below.drew (bel_set (bel_set BU.out (by omega)) (by omega)))⟩
    rw [eV1]
    clear eV1 d0 d1 d2 d3 d4 d5 d6 z0 z1 z2 z3 z4 z5 z6 fz fd BU hz
    have BU := bV1
    have hz := zzV1.out
    have d0 : V1.cell? ⟨w.heap.size + 1 + 1 + 1, 0, none⟩ = some (.int .i64 18) := by simp [World.cell?, nV1.out]
    have d1 : V1.cell? ⟨w.heap.size + 1 + 1 + 1, 1, none⟩ = some (.int .i64 (k : Nat)) := by simp [World.cell?, nV1.out]
    have d2 : V1.cell? ⟨w.heap.size + 1 + 1 + 1, 2, none⟩ = some (.int .i64 0) := by simp [World.cell?, nV1.out]
    have d3 : V1.cell? ⟨w.heap.size + 1 + 1 + 1, 3, none⟩ = some (.int .i64 0) := by simp [World.cell?, nV1.out]
    have d4 : V1.cell? ⟨w.heap.size + 1 + 1 + 1, 4, none⟩ = some (.int .i64 0) := by simp [World.cell?, nV1.out]
    have d5 : V1.cell? ⟨w.heap.size + 1 + 1 + 1, 5, none⟩ = some (.int .i64 (N : Nat)) := by simp [World.cell?, nV1.out]
    have d6 : V1.cell? ⟨w.heap.size + 1 + 1 + 1, 6, none⟩ = some (.int .i64 (lo : Nat)) := by simp [World.cell?, nV1.out]
    have z0 : V1.cell? ⟨w.heap.size + 1, 0, none⟩ = some (.int .i64 0) := by simp [World.cell?, zzV1.out]
    have z1 : V1.cell? ⟨w.heap.size + 1, 1, none⟩ = some (.int .i64 0) := by simp [World.cell?, zzV1.out]
    have z2 : V1.cell? ⟨w.heap.size + 1, 2, none⟩ = some (.int .i64 0) := by simp [World.cell?, zzV1.out]
    have z3 : V1.cell? ⟨w.heap.size + 1, 3, none⟩ = some (.int .i64 0) := by simp [World.cell?, zzV1.out]
    have z4 : V1.cell? ⟨w.heap.size + 1, 4, none⟩ = some (.int .i64 0) := by simp [World.cell?, zzV1.out]
    have z5 : V1.cell? ⟨w.heap.size + 1, 5, none⟩ = some (.int .i64 0) := by simp [World.cell?, zzV1.out]
    have z6 : V1.cell? ⟨w.heap.size + 1, 6, none⟩ = some (.int .i64 0) := by simp [World.cell?, zzV1.out]
    have fz : ∀ j, V1.frozen? ⟨w.heap.size + 1, j, none⟩ = false := fun j => by simp [World.frozen?, zzV1.out]
    have fd : ∀ j, V1.frozen? ⟨w.heap.size + 1 + 1 + 1, j, none⟩ = false := fun j => by simp [World.frozen?, nV1.out]
    go_wp2_with fail
    refine bodyPost_ret (results11 _ (w.heap.size + 1) _ (.int .i64 18) (.int .i64 (Wn : Nat)) (.int .i64 0) (.int .i64 0) (.int .i64 0) (.int .i64 (N : Nat)) (.int .i64 (lo : Nat)) _ _ _ _ 28 (0, 0) rfl rfl rfl rfl rfl ?hb) rfl ?hr
    case hb => first | with_reducible exact put7z hz | with_reducible exact put7z (Zr.set hz (by omega)) | with_reducible exact put7z (Zr.set (Zr.set hz (by omega)) (by omega)) | with_reducible exact put7z (Zr.set (Zr.set (Zr.set hz (by omega)) (by omega)) (by omega)) | with_reducible exact put7d hz | with_reducible exact put7d (Zr.set hz (by omega)) | with_reducible exact put7d (Zr.set (Zr.set hz (by omega)) (by omega)) | with_reducible exact put7z (Zr.set (Zr.drew (Zr.set hz (by omega))) (by omega)) | with_reducible exact put7z (Zr.set (Zr.set (Zr.drew (Zr.set hz (by omega))) (by omega)) (by omega)) | with_reducible exact put7z (Zr.set (Zr.drew (Zr.set (Zr.set hz (by omega)) (by omega))) (by omega))
    case hr =>
      refine ⟨18, Wn, N, lo, a, 0, 0, 0, good_18 hk16 hk2 ha1 (by omega) (by omega) (by omega), rfl, ?_⟩
      first | with_reducible exact bel7 BU.out (by omega) | with_reducible exact bel7 (bel_set BU.out (by omega)) (by omega) | with_reducible exact bel7 (bel_set (bel_set BU.out (by omega)) (by omega)) (by omega) | with_reducible exact bel7 (bel_set (bel_set (bel_set BU.out (by omega)) (by omega)) (by omega)) (by omega) | with_reducible exact bel7d BU.out (by omega) | with_reducible exact bel7d (bel_set BU.out (by omega)) (by omega) | with_reducible exact bel7d (bel_set (bel_set BU.out (by omega)) (by omega)) (by omega) | with_reducible exact bel7 (bel_set (Below.drew (bel_set BU.out (by omega))) (by omega)) (by omega) | with_reducible exact bel7 (bel_set (bel_set (Below.drew (bel_set BU.out (by omega))) (by omega)) (by omega)) (by omega) | with_reducible exact bel7 (bel_set (Below.drew (bel_set (bel_set BU.out (by omega)) (by omega))) (by omega)) (by omega)
end Go.Proofs.Ytfnamjnggmndmaa
