/-
  item's faults, WALKED: no token, no rule, one item too many.
-/
import Derived.Test.YtccjbpghpoblhaaDoorK16
namespace Go.Proofs.YtccjbpghpoblhaaDoor
open Go.RowKit

set_option maxRecDepth 100000 in
set_option maxHeartbeats 2000000 in
theorem item_end (P : Pr) (V : Va) (n : Nat) (w : World) (h : Hid (St P V n w)) (hn : n = P.T.length) :
    Calls Tryd.prog 70 #[.pointer (some ⟨P.b, 0, none⟩)] w (Got P V w (.error (gu P.T n 21) : PR It) (vItem w)) := by
  have c0 := h.out.c0
  have c2 := h.out.c2
  have hlt := h.out.lt
  have hd : ((n : Int) == (P.T.length : Int)) = true := by simp; omega
  go_enter Tryd.func70, Tryd.ntmps70
  go_wp2_with fail
  go_quiet (fail)
  obtain ⟨W, eW, FW, SW⟩ : ∃ W, (w.alloc (.cells zero59.toArray 59)).drewN nq = W ∧ Hid (Fr P.b w W) ∧ Hid (St P V n W) :=
    ⟨_, rfl, Lib.hid ((Fr.alloc _ _ _).drawn _), Lib.hid ((h.out.alloc _).drewN _)⟩
  have eW' : (w.alloc (.cells #[.int .i64 0, .string ⟨#[]⟩, .string ⟨#[]⟩, .int .i64 0, .string ⟨#[]⟩, .int .i64 0, .string ⟨#[]⟩, .slice none 0 0, .slice none 0 0, .int .i64 0, .string ⟨#[]⟩, .int .i64 0, .string ⟨#[]⟩, .int .i64 0, .string ⟨#[]⟩, .int .i64 0, .string ⟨#[]⟩, .int .i64 0, .string ⟨#[]⟩, .slice none 0 0, .int .i64 0, .string ⟨#[]⟩, .int .i64 0, .string ⟨#[]⟩, .int .i64 0, .string ⟨#[]⟩, .int .i64 0, .string ⟨#[]⟩, .int .i64 0, .string ⟨#[]⟩, .slice none 0 0, .int .i64 0, .string ⟨#[]⟩, .int .i64 0, .string ⟨#[]⟩, .int .i64 0, .string ⟨#[]⟩, .int .i64 0, .string ⟨#[]⟩, .int .i64 0, .string ⟨#[]⟩, .slice none 0 0] 59)).drewN nq = W := eW
  rw [eW']
  clear eW eW' c0 c2
  go_wp2_with fail
  refine (giveUp_any P V n 21 W SW).mono ?_
  rintro e w2 ⟨rfl, hf2, hs2⟩
  go_wp2_with fail
  refine ⟨rfl, ?_⟩
  exact got_bad rfl (FW.out.trans hf2) hs2 rfl

set_option maxRecDepth 100000 in
set_option maxHeartbeats 2000000 in
theorem item_none (P : Pr) (V : Va) (n : Nat) (t : LexM.Tk) (w : World) (h : Hid (St P V n w)) (hn : n < P.T.length) (ht : P.T[n]? = some t) (hr : ruleOf t.text = none) :
    Calls Tryd.prog 70 #[.pointer (some ⟨P.b, 0, none⟩)] w (Got P V w (.error (gu P.T n 20) : PR It) (vItem w)) := by
  have c0 := h.out.c0
  have c2 := h.out.c2
  have hlt := h.out.lt
  have hB := h.out.hB
  have hbd := h.out.bd
  obtain ⟨g, off, hA, hne, hgl, k0, k1, k2, k3⟩ := h.out.tok n t ht
  have LS := Lib.hid (fun w' hs => lookS (V := V) ht hA (rv := .agg #[.int .i64 0, .nilFunc]) (b := false) (by unfold ruleVal; rw [hr]) (by rw [hr]; rfl) w' hs)
  have hgl2 : g < w.heap.size := Nat.lt_of_lt_of_le hgl h.out.hB
  rw [hA] at c0
  have HA := Lib.hid (And.intro hA (And.intro ht hr))
  clear hA ht hr
  have hd : ((n : Int) == (P.T.length : Int)) = false := by simp; omega
  have hn0 : (0 : Int) ≤ (n : Int) := by omega
  have hn1 : (n : Int) < (P.T.length : Int) := by omega
  go_enter Tryd.func70, Tryd.ntmps70
  go_wp2_with fail
  go_quiet (fail)
  obtain ⟨W, eW, FW, SW, BW⟩ : ∃ W, (w.alloc (.cells zero59.toArray 59)).drewN nq = W ∧ Hid (Fr P.b w W) ∧ Hid (St P V n W) ∧ Hid (W.heap[w.heap.size]? = some (.cells zero59.toArray 59 (0, 0))) :=
    ⟨_, rfl, Lib.hid ((Fr.alloc _ _ _).drawn _), Lib.hid ((h.out.alloc _).drewN _), Lib.hid (new_at w _)⟩
  have eW' : (w.alloc (.cells #[.int .i64 0, .string ⟨#[]⟩, .string ⟨#[]⟩, .int .i64 0, .string ⟨#[]⟩, .int .i64 0, .string ⟨#[]⟩, .slice none 0 0, .slice none 0 0, .int .i64 0, .string ⟨#[]⟩, .int .i64 0, .string ⟨#[]⟩, .int .i64 0, .string ⟨#[]⟩, .int .i64 0, .string ⟨#[]⟩, .int .i64 0, .string ⟨#[]⟩, .slice none 0 0, .int .i64 0, .string ⟨#[]⟩, .int .i64 0, .string ⟨#[]⟩, .int .i64 0, .string ⟨#[]⟩, .int .i64 0, .string ⟨#[]⟩, .int .i64 0, .string ⟨#[]⟩, .slice none 0 0, .int .i64 0, .string ⟨#[]⟩, .int .i64 0, .string ⟨#[]⟩, .int .i64 0, .string ⟨#[]⟩, .int .i64 0, .string ⟨#[]⟩, .int .i64 0, .string ⟨#[]⟩, .slice none 0 0] 59)).drewN nq = W := eW
  rw [eW']
  clear eW eW' c0 c2 k0 k1 k2 k3
  have hltW : P.b < W.heap.size := SW.out.lt
  have hglW : g < W.heap.size := by have := FW.out.size; omega
  have hWw : w.heap.size < W.heap.size := heap_lt BW.out
  go_upto_region 3 with fail
  go_cut [3, 4] (fun s3 s4 wx => Hid (CutA P V n w (.int .i64 0) .nilFunc false s3 s4 wx))
  case first =>
    go_region_held3 (fun w' => St P V n w' ∧ w'.cell? ⟨P.b, 5, none⟩ = some (.map (some P.rb)) ∧ w'.cell? ⟨P.b, 0, none⟩ = some (.slice (some ⟨g, off, none⟩) P.T.length P.cp) ∧ w'.cell? ⟨P.b, 2, none⟩ = some (.int .i64 (n : Nat)) ∧ w'.cell? ⟨g, off + n * 4 + 1, none⟩ = some (.string (str t.text)) ∧ (Instr.lookup 68 (.map (some P.rb)) (.string (str t.text)) true).run Tryd.prog w' = .ok (.tuple #[.agg #[.int .i64 0, .nilFunc], .bool false]) w')
      (first | exact LS.out _ SW.out.drew | exact LS.out _ ((SW.out.alloc _).drew)) (fail)
    all_goals
      go_wp2_with fail
      go_meet
    all_goals
      exact Lib.hid ⟨_, rfl, rfl, hWw, (FW.out.more _).draw, (SW.out.alloc _).drew, (Below.heap_alloc _ _ _ hWw).trans BW.out, new_at W _⟩
  case rest =>
    obtain ⟨gr, rfl, rfl, hgr, FX, SX, BX, CX⟩ := hcut.out
    have FX := Lib.hid FX
    have SX := Lib.hid SX
    clear BX CX hcut
    go_wp2_with fail
    refine (giveUp_any P V n 20 _ SX).mono ?_
    rintro e w2 ⟨rfl, hf2, hs2⟩
    go_wp2_with fail
    refine ⟨rfl, ?_⟩
    exact got_bad rfl (FX.out.trans hf2) hs2 rfl

set_option maxRecDepth 100000 in
set_option maxHeartbeats 2000000 in
theorem item_full (P : Pr) (V : Va) (n kind F : Nat) (t : LexM.Tk) (w : World) (h : Hid (St P V n w)) (hn : n < P.T.length) (ht : P.T[n]? = some t) (hr : ruleOf t.text = some (t.text, kind, F)) (h64 : V.it = 64) :
    Calls Tryd.prog 70 #[.pointer (some ⟨P.b, 0, none⟩)] w (Got P V w (.error (gu P.T n 2) : PR It) (vItem w)) := by
  have c0 := h.out.c0
  have c2 := h.out.c2
  have hlt := h.out.lt
  have hB := h.out.hB
  have hbd := h.out.bd
  obtain ⟨g, off, hA, hne, hgl, k0, k1, k2, k3⟩ := h.out.tok n t ht
  have LS := Lib.hid (fun w' hs => lookS (V := V) ht hA (rv := .agg #[.int .i64 (kind : Nat), .func (.func F) #[.pointer (some ⟨P.b, 0, none⟩)] #[]]) (b := true) (by unfold ruleVal; rw [hr]; rfl) (by rw [hr]; rfl) w' hs)
  have hgl2 : g < w.heap.size := Nat.lt_of_lt_of_le hgl h.out.hB
  rw [hA] at c0
  have HA := Lib.hid (And.intro hA (And.intro ht hr))
  clear hA ht hr
  have hd : ((n : Int) == (P.T.length : Int)) = false := by simp; omega
  have hn0 : (0 : Int) ≤ (n : Int) := by omega
  have hn1 : (n : Int) < (P.T.length : Int) := by omega
  go_enter Tryd.func70, Tryd.ntmps70
  go_wp2_with fail
  go_quiet (fail)
  obtain ⟨W, eW, FW, SW, BW⟩ : ∃ W, (w.alloc (.cells zero59.toArray 59)).drewN nq = W ∧ Hid (Fr P.b w W) ∧ Hid (St P V n W) ∧ Hid (W.heap[w.heap.size]? = some (.cells zero59.toArray 59 (0, 0))) :=
    ⟨_, rfl, Lib.hid ((Fr.alloc _ _ _).drawn _), Lib.hid ((h.out.alloc _).drewN _), Lib.hid (new_at w _)⟩
  have eW' : (w.alloc (.cells #[.int .i64 0, .string ⟨#[]⟩, .string ⟨#[]⟩, .int .i64 0, .string ⟨#[]⟩, .int .i64 0, .string ⟨#[]⟩, .slice none 0 0, .slice none 0 0, .int .i64 0, .string ⟨#[]⟩, .int .i64 0, .string ⟨#[]⟩, .int .i64 0, .string ⟨#[]⟩, .int .i64 0, .string ⟨#[]⟩, .int .i64 0, .string ⟨#[]⟩, .slice none 0 0, .int .i64 0, .string ⟨#[]⟩, .int .i64 0, .string ⟨#[]⟩, .int .i64 0, .string ⟨#[]⟩, .int .i64 0, .string ⟨#[]⟩, .int .i64 0, .string ⟨#[]⟩, .slice none 0 0, .int .i64 0, .string ⟨#[]⟩, .int .i64 0, .string ⟨#[]⟩, .int .i64 0, .string ⟨#[]⟩, .int .i64 0, .string ⟨#[]⟩, .int .i64 0, .string ⟨#[]⟩, .slice none 0 0] 59)).drewN nq = W := eW
  rw [eW']
  clear eW eW' c0 c2 k0 k1 k2 k3
  have hltW : P.b < W.heap.size := SW.out.lt
  have hglW : g < W.heap.size := by have := FW.out.size; omega
  have hWw : w.heap.size < W.heap.size := heap_lt BW.out
  go_upto_region 3 with fail
  go_cut [3, 4] (fun s3 s4 wx => Hid (CutA P V n w (.int .i64 (kind : Nat)) (.func (.func F) #[.pointer (some ⟨P.b, 0, none⟩)] #[]) true s3 s4 wx))
  case first =>
    go_region_held3 (fun w' => St P V n w' ∧ w'.cell? ⟨P.b, 5, none⟩ = some (.map (some P.rb)) ∧ w'.cell? ⟨P.b, 0, none⟩ = some (.slice (some ⟨g, off, none⟩) P.T.length P.cp) ∧ w'.cell? ⟨P.b, 2, none⟩ = some (.int .i64 (n : Nat)) ∧ w'.cell? ⟨g, off + n * 4 + 1, none⟩ = some (.string (str t.text)) ∧ (Instr.lookup 68 (.map (some P.rb)) (.string (str t.text)) true).run Tryd.prog w' = .ok (.tuple #[.agg #[.int .i64 (kind : Nat), .func (.func F) #[.pointer (some ⟨P.b, 0, none⟩)] #[]], .bool true]) w')
      (first | exact LS.out _ SW.out.drew | exact LS.out _ ((SW.out.alloc _).drew)) (fail)
    all_goals
      go_wp2_with fail
      go_meet
    all_goals
      exact Lib.hid ⟨_, rfl, rfl, hWw, (FW.out.more _).draw, (SW.out.alloc _).drew, (Below.heap_alloc _ _ _ hWw).trans BW.out, new_at W _⟩
  case rest =>
    obtain ⟨gr, rfl, rfl, hgr, FX, SX, BX, CX⟩ := hcut.out
    have c4 := SX.c4
    have FX := Lib.hid FX
    have SX := Lib.hid SX
    clear BX CX hcut
    have h64d : ((V.it : Int) == 64) = true := by simp; omega
    go_wp2_with fail
    refine (giveUp_any P V n 2 _ SX).mono ?_
    rintro e w2 ⟨rfl, hf2, hs2⟩
    go_wp2_with fail
    refine ⟨rfl, ?_⟩
    exact got_bad rfl (FX.out.trans hf2) hs2 rfl

end Go.Proofs.YtccjbpghpoblhaaDoor

