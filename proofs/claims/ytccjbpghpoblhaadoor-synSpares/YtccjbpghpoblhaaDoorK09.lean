/-
  PRIMARIES AND WHAT IS TURNED, WALKED.
-/
import Derived.Test.YtccjbpghpoblhaaDoorK08
import Derived.Deep.RegionWith
/-
  LEAVES AND PRIMARIES, WALKED.
-/
namespace Go.Proofs.YtccjbpghpoblhaaDoor
open Go.RowKit

theorem side_ok {P : Pr} {V : Va} {n m : Nat} {d : Dm} {w : World} (h : Hid (St P V n w)) (hd : pSide P.T n = .ok (d, m)) :
    Calls Tryd.prog 72 #[.pointer (some ⟨P.b, 0, none⟩)] w fun e w' => e = .returned (.agg #[.string (str d.1), .int .i64 (d.2 : Nat)]) ∧ Fr P.b w w' ∧ St P V m w' :=
  (side_any P V n w h).mono fun e w' hG => by
    rw [hd] at hG
    obtain ⟨hf, hs, v, rfl, rfl⟩ := hG
    exact ⟨rfl, hf, hs⟩
theorem side_bad {P : Pr} {V : Va} {n : Nat} {x : Nat × Nat} {w : World} (h : Hid (St P V n w)) (hd : pSide P.T n = .error x) :
    Calls Tryd.prog 72 #[.pointer (some ⟨P.b, 0, none⟩)] w fun e w' => e = panicV x.1 x.2 ∧ Fr P.b w w' ∧ ∃ m, St P V m w' :=
  (side_any P V n w h).mono fun e w' hG => by
    rw [hd] at hG
    obtain ⟨hf, hs, rfl⟩ := hG
    exact ⟨rfl, hf, hs⟩

theorem pName_len {T : List LexM.Tk} {n m : Nat} {l : List UInt8} (h : pName T n = .ok (l, m)) (hl : ∀ t ∈ T, t.text.length ≤ 20000) : l.length ≤ 20000 := by
  unfold pName at h
  split at h
  · rename_i hc
    injection h with h; injection h with h _
    subst h
    simp only [Bool.and_eq_true] at hc
    have hn := kindIs_lt hc.1
    rw [tokAt_some (List.getElem?_eq_getElem hn)]
    exact hl _ (List.getElem_mem _)
  · cases h
theorem pSide_len {T : List LexM.Tk} {n m : Nat} {d : Dm} (h : pSide T n = .ok (d, m)) (hl : ∀ t ∈ T, t.text.length ≤ 20000) : d.1.length ≤ 20000 := by
  unfold pSide at h
  split at h
  · split at h
    · injection h with h; injection h with h _; subst h; simp
    · cases h
  · split at h
    · rename_i l k e
      injection h with h; injection h with h _; subst h
      exact pName_len e hl
    · cases h
theorem leaf_tree (w0 w : World) (hd : Hd) (hs : w0.heap.size ≤ w.heap.size) : vTree w0 (.n0 hd) (w.alloc (.cells (hdCells hd (.slice none 0 0) ++ [Value.int .i64 0]).toArray 109)) (.pointer (some ⟨w.heap.size, 0, none⟩)) :=
  ⟨⟨w.heap.size, _, rfl, hs, new_at w _, rfl⟩, by simp [Ex.deep]⟩
theorem new_fr {b : Nat} {w w1 : World} {o : Obj} (hf : Fr b (w.alloc o) w1) (hb : b < w.heap.size) : w1.heap[w.heap.size]? = some o := hf.keep (new_at w o) (by omega)

set_option maxRecDepth 100000 in
set_option maxHeartbeats 1000000 in
theorem leaf_any (P : Pr) (V : Va) (n : Nat) (w : World) (h : Hid (St P V n w)) :
    Calls Tryd.prog 83 #[.pointer (some ⟨P.b, 0, none⟩)] w (Got P V w (pLeaf P.T n) (vTree w)) := by
  have hlt := h.out.lt
  have HTL := Lib.hid h.out.tl
  go_enter Tryd.func83, Tryd.ntmps83
  go_wp2_with fail
  refine (side_any P V n w h).mono ?_
  intro e w1 hG
  rcases hG.elim with ⟨x, m, hN, hf, hs, rfl⟩ | ⟨d, m1, v1, hN, hf, hs, rfl, hv⟩
  · have E1 := Lib.hid hN
    have F1 := Lib.hid hf
    have S1 := Lib.hid hs
    clear hN hf hs hG
    go_wp2_with fail
    refine ⟨rfl, ?_⟩
    exact got_bad (by simp only [pLeaf, E1.out, thn_err]) F1.out S1.out rfl
  unfold vDim at hv
  subst hv
  have hdl := pSide_len hN HTL.out
  have E1 := Lib.hid hN
  have F1 := Lib.hid hf
  have S1 := Lib.hid hs
  have hz1 := hf.size
  have hlt1 : P.b < w1.heap.size := hs.lt
  clear hN hf hs hG
  by_cases hq : d.1 = [] ∨ tokIs P.T m1 [39] = true
  · have HQ := Lib.hid hq
    by_cases hd : d.1 = []
    · have e1 : (str d.1).toList = [] := by rw [str_toList, hd]
      have e2 : (str d.1).toList.isEmpty = true := by rw [str_toList, hd]; rfl
      clear hq hd
      go_wp2_with fail
      refine (need_any P V m1 [39] _ (Lib.hid (S1.out.alloc _))).mono ?_
      intro e w2 hG
      rcases hG.elim with ⟨x, m, hN, hf, hs, rfl⟩ | ⟨a2, m2, v2, hN, hf, hs, rfl, hv⟩
      · have E2 := Lib.hid hN
        have F2 := Lib.hid ((F1.out.more _).trans hf)
        have S2 := Lib.hid hs
        clear hN hf hs hG
        go_wp2_with fail
        refine ⟨rfl, ?_⟩
        exact got_bad (by simp only [pLeaf, E1.out, thn_ok]; rw [if_pos HQ.out, E2.out, thn_err]) F2.out S2.out rfl
      have E2 := Lib.hid hN
      have F2 := Lib.hid ((F1.out.more _).trans hf)
      have S2 := Lib.hid hs
      have hb2 := hf.keep (new_at w1 _) (by omega)
      have c0 := cell_at (o := 0) hb2
      have c1 := cell_at (o := 1) hb2
      have hz2 := heap_lt hb2
      have HB := Lib.hid hb2
      clear hN hf hs hG hv hb2
      rcases hS : pSide P.T m2 with x | ⟨d2, m3⟩
      · have E3 := Lib.hid hS
        clear hS
        go_wp2_with fail
        refine wp_region_any (by kernel_rfl) ?_
        change wpAny _ _ _ _ _ _ _ (World.drew _)
        refine wpAny_take (i := 1) (v := .pointer (some ⟨P.b, 0, none⟩)) rfl (by kernel_rfl) (by kernel_rfl) (by kernel_rfl) (fun _ _ _ h => h) (Or.inl ⟨by rfl, by intro w; go_simp⟩) ?_
        refine wpAny_ready (rs := [0, 2]) (by kernel_rfl) (by simp) ?_
        refine AllReady.cons rfl (fun K hK => ?_) (AllReady.cons rfl (fun K hK => ?_) AllReady.nil)
        · go_simp
          refine hK _ _ ?_
          clear hK K
          refine wpAny_ready (rs := [2]) (by kernel_rfl) (by simp) ?_
          refine AllReady.cons rfl (fun K hK => ?_) AllReady.nil
          go_simp
          refine (side_bad (Lib.hid S2.out.drew) E3.out).mono ?_
          rintro e w3 ⟨rfl, hf3, m4, hs4⟩
          go_simp
          refine ⟨rfl, ?_⟩
          exact got_bad (by simp only [pLeaf, E1.out, thn_ok]; rw [if_pos HQ.out, E2.out, thn_ok, E3.out, thn_err]) (F2.out.draw.trans hf3) hs4 rfl
        · go_simp
          refine (side_bad (Lib.hid S2.out.drew) E3.out).mono ?_
          rintro e w3 ⟨rfl, hf3, m4, hs4⟩
          go_simp
          refine ⟨rfl, ?_⟩
          exact got_bad (by simp only [pLeaf, E1.out, thn_ok]; rw [if_pos HQ.out, E2.out, thn_ok, E3.out, thn_err]) (F2.out.draw.trans hf3) hs4 rfl
      · have E3 := Lib.hid hS
        clear hS
        go_wp2_with fail
        go_region_with ((go_at_call 72; refine (side_ok (Lib.hid S2.out.drew) E3.out).mono ?_; rintro e w3 ⟨rfl, hf3, hs3⟩; have k0 := cell_at (o := 0) (hf3.keep (w := w2.drew) HB.out (by omega)); have k1 := cell_at (o := 1) (hf3.keep (w := w2.drew) HB.out (by omega))))
        all_goals
          go_wp2_with fail
          go_ret
          have hz3 := hf3.size
          have hz4 := F2.out.size
          exact got_ok (a := litEx d d2) (m := m3) (by simp only [pLeaf, E1.out, thn_ok]; rw [if_pos HQ.out, E2.out, thn_ok, E3.out, thn_ok]) ((F2.out.draw.trans hf3).more _) (hs3.alloc _) (leaf_tree w w3 ⟨1, d2, d, ([], 0), ([], 0), []⟩ (Nat.le_trans hz4 hz3))
    · have e1 : ¬ (str d.1).toList = [] := by rw [str_toList]; exact hd
      have e2 : (str d.1).toList.isEmpty = false := by rw [str_toList]; simpa using hd
      have hT : tokIs P.T m1 [39] = true := hq.resolve_left hd
      clear hq hd
      go_wp2_with fail
      refine (is_s (Lib.hid (S1.out.alloc _)) hT).mono ?_
      rintro e wi ⟨rfl, hfi, hsi⟩
      have hbi := hfi.keep (new_at w1 _) (by omega)
      have FI := Lib.hid ((F1.out.more _).trans hfi)
      have SI := Lib.hid hsi
      have HBI := Lib.hid hbi
      clear hfi hsi hbi
      go_wp2_with fail
      refine (need_any P V m1 [39] _ SI).mono ?_
      intro e w2 hG
      rcases hG.elim with ⟨x, m, hN, hf, hs, rfl⟩ | ⟨a2, m2, v2, hN, hf, hs, rfl, hv⟩
      · have E2 := Lib.hid hN
        have F2 := Lib.hid (FI.out.trans hf)
        have S2 := Lib.hid hs
        clear hN hf hs hG
        go_wp2_with fail
        refine ⟨rfl, ?_⟩
        exact got_bad (by simp only [pLeaf, E1.out, thn_ok]; rw [if_pos HQ.out, E2.out, thn_err]) F2.out S2.out rfl
      have E2 := Lib.hid hN
      have F2 := Lib.hid (FI.out.trans hf)
      have S2 := Lib.hid hs
      have hb2 := hf.keep (HBI.out) (by omega)
      have c0 := cell_at (o := 0) hb2
      have c1 := cell_at (o := 1) hb2
      have hz2 := heap_lt hb2
      have HB := Lib.hid hb2
      clear hN hf hs hG hv hb2
      rcases hS : pSide P.T m2 with x | ⟨d2, m3⟩
      · have E3 := Lib.hid hS
        clear hS
        go_wp2_with fail
        refine wp_region_any (by kernel_rfl) ?_
        change wpAny _ _ _ _ _ _ _ (World.drew _)
        refine wpAny_take (i := 1) (v := .pointer (some ⟨P.b, 0, none⟩)) rfl (by kernel_rfl) (by kernel_rfl) (by kernel_rfl) (fun _ _ _ h => h) (Or.inl ⟨by rfl, by intro w; go_simp⟩) ?_
        refine wpAny_ready (rs := [0, 2]) (by kernel_rfl) (by simp) ?_
        refine AllReady.cons rfl (fun K hK => ?_) (AllReady.cons rfl (fun K hK => ?_) AllReady.nil)
        · go_simp
          refine hK _ _ ?_
          clear hK K
          refine wpAny_ready (rs := [2]) (by kernel_rfl) (by simp) ?_
          refine AllReady.cons rfl (fun K hK => ?_) AllReady.nil
          go_simp
          refine (side_bad (Lib.hid S2.out.drew) E3.out).mono ?_
          rintro e w3 ⟨rfl, hf3, m4, hs4⟩
          go_simp
          refine ⟨rfl, ?_⟩
          exact got_bad (by simp only [pLeaf, E1.out, thn_ok]; rw [if_pos HQ.out, E2.out, thn_ok, E3.out, thn_err]) (F2.out.draw.trans hf3) hs4 rfl
        · go_simp
          refine (side_bad (Lib.hid S2.out.drew) E3.out).mono ?_
          rintro e w3 ⟨rfl, hf3, m4, hs4⟩
          go_simp
          refine ⟨rfl, ?_⟩
          exact got_bad (by simp only [pLeaf, E1.out, thn_ok]; rw [if_pos HQ.out, E2.out, thn_ok, E3.out, thn_err]) (F2.out.draw.trans hf3) hs4 rfl
      · have E3 := Lib.hid hS
        clear hS
        go_wp2_with fail
        go_region_with ((go_at_call 72; refine (side_ok (Lib.hid S2.out.drew) E3.out).mono ?_; rintro e w3 ⟨rfl, hf3, hs3⟩; have k0 := cell_at (o := 0) (hf3.keep (w := w2.drew) HB.out (by omega)); have k1 := cell_at (o := 1) (hf3.keep (w := w2.drew) HB.out (by omega))))
        all_goals
          go_wp2_with fail
          go_ret
          have hz3 := hf3.size
          have hz4 := F2.out.size
          exact got_ok (a := litEx d d2) (m := m3) (by simp only [pLeaf, E1.out, thn_ok]; rw [if_pos HQ.out, E2.out, thn_ok, E3.out, thn_ok]) ((F2.out.draw.trans hf3).more _) (hs3.alloc _) (leaf_tree w w3 ⟨1, d2, d, ([], 0), ([], 0), []⟩ (Nat.le_trans hz4 hz3))
  · have hd : ¬ d.1 = [] := fun e => hq (.inl e)
    have hT : tokIs P.T m1 [39] = false := by simpa using fun e => hq (.inr e)
    have HQ := Lib.hid hq
    have e1 : ¬ (str d.1).toList = [] := by rw [str_toList]; exact hd
    have e2 : (str d.1).toList.isEmpty = false := by rw [str_toList]; simpa using hd
    clear hq hd
    go_wp2_with fail
    refine (is_s (Lib.hid (S1.out.alloc _)) hT).mono ?_
    rintro e wi ⟨rfl, hfi, hsi⟩
    have hbi := hfi.keep (new_at w1 _) (by omega)
    have c0 := cell_at (o := 0) hbi
    have FI := Lib.hid ((F1.out.more _).trans hfi)
    have SI := Lib.hid hsi
    clear hfi hsi hbi
    by_cases hp : tokIs P.T m1 [46] = true
    · go_wp2_with fail
      refine (take_yes P V m1 [46] _ SI hp).mono ?_
      rintro e w2 ⟨rfl, hf2, hs2⟩
      have F2 := Lib.hid (FI.out.trans hf2)
      have S2 := Lib.hid hs2
      clear hf2 hs2
      go_wp2_with fail
      refine (name_any P V (m1 + 1) w2 S2).mono ?_
      intro e w3 hG
      rcases hG.elim with ⟨x, m, hN, hf, hs, rfl⟩ | ⟨l, m3, v3, hN, hf, hs, rfl, hv⟩
      · have E3 := Lib.hid hN
        have F3 := Lib.hid (F2.out.trans hf)
        have S3 := Lib.hid hs
        clear hN hf hs hG
        go_wp2_with fail
        refine ⟨rfl, ?_⟩
        exact got_bad (by simp only [pLeaf, E1.out, thn_ok]; rw [if_neg HQ.out, if_pos hp, E3.out, thn_err]) F3.out S3.out rfl
      unfold vStr at hv
      subst hv
      have hll := pName_len hN HTL.out
      have hs1 : (str d.1).size = d.1.length := str_size _
      have hs2 : (str l).size = l.length := str_size _
      have E3 := Lib.hid hN
      have F3 := Lib.hid (F2.out.trans hf)
      have S3 := Lib.hid hs
      clear hN hf hs hG
      go_wp2_with fail
      go_ret
      have eS : str d.1 ++ (({ data := #[46] } : ByteArray) ++ str l) = str (d.1 ++ [46] ++ l) := by
        rw [← str_append, ← str_append]
        apply ByteArray.ext
        simp [str]
      rw [eS]
      exact got_ok (a := refEx (d.1 ++ [46] ++ l)) (m := m3) (by simp only [pLeaf, E1.out, thn_ok]; rw [if_neg HQ.out, if_pos hp, E3.out, thn_ok]) (F3.out.more _) (S3.out.alloc _) (leaf_tree w w3 ⟨2, ([], 0), ([], 0), ([], 0), ([], 0), d.1 ++ [46] ++ l⟩ F3.out.size)
    · have hp' : tokIs P.T m1 [46] = false := by simpa using hp
      go_wp2_with fail
      refine (take_no P V m1 [46] _ SI hp').mono ?_
      rintro e w2 ⟨rfl, hf2, hs2⟩
      have F2 := Lib.hid (FI.out.trans hf2)
      have S2 := Lib.hid hs2
      clear hf2 hs2
      go_wp2_with fail
      go_ret
      exact got_ok (a := refEx d.1) (m := m1) (by simp only [pLeaf, E1.out, thn_ok]; rw [if_neg HQ.out, if_neg hp]) (F2.out.more _) (S2.out.alloc _) (leaf_tree w w2 ⟨2, ([], 0), ([], 0), ([], 0), ([], 0), d.1⟩ F2.out.size)

end Go.Proofs.YtccjbpghpoblhaaDoor

namespace Go.Proofs.YtccjbpghpoblhaaDoor
open Go.RowKit

set_option maxRecDepth 100000 in
set_option maxHeartbeats 1000000 in
theorem primary_any (P : Pr) (V : Va) (pe : Nat → PR Ex) (n : Nat) (w : World) (h : Hid (St P V n w)) (he : Hid (ExprOk P V pe n)) :
    Calls Tryd.prog 79 #[.pointer (some ⟨P.b, 0, none⟩)] w (Got P V w (pPrim P.T pe n) (vTree w)) := by
  have hlt := h.out.lt
  have c2 := h.out.c2
  by_cases h40t : tokIs P.T n [40] = true
  · go_enter Tryd.func79, Tryd.ntmps79
    go_wp2_with fail
    refine (is_s h h40t).mono ?_
    rintro e w1 ⟨rfl, hf, hs⟩
    have F1 := Lib.hid hf
    have S1 := Lib.hid hs
    clear hf hs
    go_wp2_with fail
    refine (inBrackets_any P V pe n w1 S1 he).mono ?_
    intro e w2 hG
    rcases hG.elim with ⟨x, m, hN, hf, hs, rfl⟩ | ⟨t, m1, v, hN, hf, hs, rfl, hv⟩
    · have E := Lib.hid hN
      have F := Lib.hid (F1.out.trans hf)
      have S := Lib.hid hs
      clear hN hf hs hG
      go_wp2_with fail
      refine ⟨rfl, ?_⟩
      exact got_bad (by unfold pPrim; rw [if_pos h40t, E.out]) F.out S.out rfl
    obtain ⟨g, rfl⟩ := ptr_ok hv
    have E := Lib.hid hN
    have F := Lib.hid (F1.out.trans hf)
    have S := Lib.hid hs
    have T := Lib.hid (hv.older F1.out.size)
    clear hN hf hs hG hv
    go_wp2_with fail
    go_ret
    exact got_ok (by unfold pPrim; rw [if_pos h40t, E.out]) F.out S.out T.out
  have h40 : tokIs P.T n [40] = false := by simpa using h40t
  clear h40t
  by_cases h123t : tokIs P.T n [123] = true
  · go_enter Tryd.func79, Tryd.ntmps79
    go_wp2_with fail
    refine (is_s h h40).mono ?_
    rintro e w1 ⟨rfl, hf, hs⟩
    have F1 := Lib.hid hf
    have S1 := Lib.hid hs
    clear hf hs
    go_wp2_with fail
    refine (take_yes P V n [123] w1 S1 h123t).mono ?_
    rintro e w2 ⟨rfl, hf, hs⟩
    have F2 := Lib.hid (F1.out.trans hf)
    have S2 := Lib.hid hs
    clear hf hs
    go_wp2_with fail
    refine (cat_any P V pe n n (n + 1) w2 S2 (by omega) he).mono ?_
    intro e w3 hG
    rcases hG.elim with ⟨x, m, hN, hf, hs, rfl⟩ | ⟨t, m1, v, hN, hf, hs, rfl, hv⟩
    · have E := Lib.hid hN
      have F := Lib.hid (F2.out.trans hf)
      have S := Lib.hid hs
      clear hN hf hs hG
      go_wp2_with fail
      refine ⟨rfl, ?_⟩
      exact got_bad (by unfold pPrim; rw [if_neg (by rw [h40]; decide), if_pos h123t, E.out]) F.out S.out rfl
    obtain ⟨g, rfl⟩ := ptr_ok hv
    have E := Lib.hid hN
    have F := Lib.hid (F2.out.trans hf)
    have S := Lib.hid hs
    have T := Lib.hid (hv.older F2.out.size)
    clear hN hf hs hG hv
    go_wp2_with fail
    go_ret
    exact got_ok (by unfold pPrim; rw [if_neg (by rw [h40]; decide), if_pos h123t, E.out]) F.out S.out T.out
  have h123 : tokIs P.T n [123] = false := by simpa using h123t
  clear h123t
  by_cases hanyt : tokIs P.T n [97, 110, 121] = true
  · go_enter Tryd.func79, Tryd.ntmps79
    go_wp2_with fail
    refine (is_s h h40).mono ?_
    rintro e w1 ⟨rfl, hf, hs⟩
    have F1 := Lib.hid hf
    have S1 := Lib.hid hs
    clear hf hs
    go_wp2_with fail
    refine (take_no P V n [123] w1 S1 h123).mono ?_
    rintro e w2 ⟨rfl, hf, hs⟩
    have F2 := Lib.hid (F1.out.trans hf)
    have S2 := Lib.hid hs
    clear hf hs
    go_wp2_with fail
    refine (take_yes P V n [97, 110, 121] w2 S2 hanyt).mono ?_
    rintro e w3 ⟨rfl, hf, hs⟩
    have F3 := Lib.hid (F2.out.trans hf)
    have S3 := Lib.hid hs
    clear hf hs
    go_wp2_with fail
    refine (inBrackets_any P V pe (n + 1) w3 S3 (Lib.hid (he.out.le (Nat.le_succ n)))).mono ?_
    intro e w4 hG
    rcases hG.elim with ⟨x, m, hN, hf, hs, rfl⟩ | ⟨t, m1, v, hN, hf, hs, rfl, hv⟩
    · have E := Lib.hid hN
      have F := Lib.hid (F3.out.trans hf)
      have S := Lib.hid hs
      clear hN hf hs hG
      go_wp2_with fail
      refine ⟨rfl, ?_⟩
      exact got_bad (by unfold pPrim; rw [if_neg (by rw [h40]; decide), if_neg (by rw [h123]; decide), if_pos hanyt, E.out, thn_err]) F.out S.out rfl
    obtain ⟨g, rfl⟩ := ptr_ok hv
    have E := Lib.hid hN
    have F := Lib.hid (F3.out.trans hf)
    have S := Lib.hid hs
    have T := Lib.hid (hv.older F3.out.size)
    clear hN hf hs hG hv
    go_wp2_with fail
    refine (mk1 (at_ := n) (op := 4) S.out F.out T.out).mono ?_
    intro e w5 hG
    rcases hG.elim with ⟨x, m, hN, hf, hs, rfl⟩ | ⟨t2, m2, v, hN, hf, hs, rfl, hv⟩
    · have E2 := Lib.hid hN
      have F2 := Lib.hid hf
      have S2 := Lib.hid hs
      clear hN hf hs hG
      go_wp2_with fail
      refine ⟨rfl, ?_⟩
      exact got_bad (by unfold pPrim; rw [if_neg (by rw [h40]; decide), if_neg (by rw [h123]; decide), if_pos hanyt, E.out, thn_ok, E2.out]) F2.out S2.out rfl
    obtain ⟨g2, rfl⟩ := ptr_ok hv
    have E2 := Lib.hid hN
    have F2 := Lib.hid hf
    have S2 := Lib.hid hs
    have T2 := Lib.hid hv
    clear hN hf hs hG hv
    go_wp2_with fail
    go_ret
    exact got_ok (by unfold pPrim; rw [if_neg (by rw [h40]; decide), if_neg (by rw [h123]; decide), if_pos hanyt, E.out, thn_ok, E2.out]) F2.out S2.out T2.out
  have hany : tokIs P.T n [97, 110, 121] = false := by simpa using hanyt
  clear hanyt
  by_cases hallt : tokIs P.T n [97, 108, 108] = true
  · go_enter Tryd.func79, Tryd.ntmps79
    go_wp2_with fail
    refine (is_s h h40).mono ?_
    rintro e w1 ⟨rfl, hf, hs⟩
    have F1 := Lib.hid hf
    have S1 := Lib.hid hs
    clear hf hs
    go_wp2_with fail
    refine (take_no P V n [123] w1 S1 h123).mono ?_
    rintro e w2 ⟨rfl, hf, hs⟩
    have F2 := Lib.hid (F1.out.trans hf)
    have S2 := Lib.hid hs
    clear hf hs
    go_wp2_with fail
    refine (take_no P V n [97, 110, 121] w2 S2 hany).mono ?_
    rintro e w3 ⟨rfl, hf, hs⟩
    have F3 := Lib.hid (F2.out.trans hf)
    have S3 := Lib.hid hs
    clear hf hs
    go_wp2_with fail
    refine (take_yes P V n [97, 108, 108] w3 S3 hallt).mono ?_
    rintro e w4 ⟨rfl, hf, hs⟩
    have F4 := Lib.hid (F3.out.trans hf)
    have S4 := Lib.hid hs
    clear hf hs
    go_wp2_with fail
    refine (inBrackets_any P V pe (n + 1) w4 S4 (Lib.hid (he.out.le (Nat.le_succ n)))).mono ?_
    intro e w5 hG
    rcases hG.elim with ⟨x, m, hN, hf, hs, rfl⟩ | ⟨t, m1, v, hN, hf, hs, rfl, hv⟩
    · have E := Lib.hid hN
      have F := Lib.hid (F4.out.trans hf)
      have S := Lib.hid hs
      clear hN hf hs hG
      go_wp2_with fail
      refine ⟨rfl, ?_⟩
      exact got_bad (by unfold pPrim; rw [if_neg (by rw [h40]; decide), if_neg (by rw [h123]; decide), if_neg (by rw [hany]; decide), if_pos hallt, E.out, thn_err]) F.out S.out rfl
    obtain ⟨g, rfl⟩ := ptr_ok hv
    have E := Lib.hid hN
    have F := Lib.hid (F4.out.trans hf)
    have S := Lib.hid hs
    have T := Lib.hid (hv.older F4.out.size)
    clear hN hf hs hG hv
    go_wp2_with fail
    refine (mk1 (at_ := n) (op := 5) S.out F.out T.out).mono ?_
    intro e w6 hG
    rcases hG.elim with ⟨x, m, hN, hf, hs, rfl⟩ | ⟨t2, m2, v, hN, hf, hs, rfl, hv⟩
    · have E2 := Lib.hid hN
      have F2 := Lib.hid hf
      have S2 := Lib.hid hs
      clear hN hf hs hG
      go_wp2_with fail
      refine ⟨rfl, ?_⟩
      exact got_bad (by unfold pPrim; rw [if_neg (by rw [h40]; decide), if_neg (by rw [h123]; decide), if_neg (by rw [hany]; decide), if_pos hallt, E.out, thn_ok, E2.out]) F2.out S2.out rfl
    obtain ⟨g2, rfl⟩ := ptr_ok hv
    have E2 := Lib.hid hN
    have F2 := Lib.hid hf
    have S2 := Lib.hid hs
    have T2 := Lib.hid hv
    clear hN hf hs hG hv
    go_wp2_with fail
    go_ret
    exact got_ok (by unfold pPrim; rw [if_neg (by rw [h40]; decide), if_neg (by rw [h123]; decide), if_neg (by rw [hany]; decide), if_pos hallt, E.out, thn_ok, E2.out]) F2.out S2.out T2.out
  have hall : tokIs P.T n [97, 108, 108] = false := by simpa using hallt
  clear hallt
  by_cases hpastt : tokIs P.T n [112, 97, 115, 116] = true
  · go_enter Tryd.func79, Tryd.ntmps79
    go_wp2_with fail
    refine (is_s h h40).mono ?_
    rintro e w1 ⟨rfl, hf, hs⟩
    have F1 := Lib.hid hf
    have S1 := Lib.hid hs
    clear hf hs
    go_wp2_with fail
    refine (take_no P V n [123] w1 S1 h123).mono ?_
    rintro e w2 ⟨rfl, hf, hs⟩
    have F2 := Lib.hid (F1.out.trans hf)
    have S2 := Lib.hid hs
    clear hf hs
    go_wp2_with fail
    refine (take_no P V n [97, 110, 121] w2 S2 hany).mono ?_
    rintro e w3 ⟨rfl, hf, hs⟩
    have F3 := Lib.hid (F2.out.trans hf)
    have S3 := Lib.hid hs
    clear hf hs
    go_wp2_with fail
    refine (take_no P V n [97, 108, 108] w3 S3 hall).mono ?_
    rintro e w4 ⟨rfl, hf, hs⟩
    have F4 := Lib.hid (F3.out.trans hf)
    have S4 := Lib.hid hs
    clear hf hs
    go_wp2_with fail
    refine (take_yes P V n [112, 97, 115, 116] w4 S4 hpastt).mono ?_
    rintro e w5 ⟨rfl, hf, hs⟩
    have F5 := Lib.hid (F4.out.trans hf)
    have S5 := Lib.hid hs
    clear hf hs
    go_wp2_with fail
    refine (inBrackets_any P V pe (n + 1) w5 S5 (Lib.hid (he.out.le (Nat.le_succ n)))).mono ?_
    intro e w6 hG
    rcases hG.elim with ⟨x, m, hN, hf, hs, rfl⟩ | ⟨t, m1, v, hN, hf, hs, rfl, hv⟩
    · have E := Lib.hid hN
      have F := Lib.hid (F5.out.trans hf)
      have S := Lib.hid hs
      clear hN hf hs hG
      go_wp2_with fail
      refine ⟨rfl, ?_⟩
      exact got_bad (by unfold pPrim; rw [if_neg (by rw [h40]; decide), if_neg (by rw [h123]; decide), if_neg (by rw [hany]; decide), if_neg (by rw [hall]; decide), if_pos hpastt, E.out, thn_err]) F.out S.out rfl
    obtain ⟨g, rfl⟩ := ptr_ok hv
    have E := Lib.hid hN
    have F := Lib.hid (F5.out.trans hf)
    have S := Lib.hid hs
    have T := Lib.hid (hv.older F5.out.size)
    clear hN hf hs hG hv
    go_wp2_with fail
    refine (mk1 (at_ := n) (op := 20) S.out F.out T.out).mono ?_
    intro e w7 hG
    rcases hG.elim with ⟨x, m, hN, hf, hs, rfl⟩ | ⟨t2, m2, v, hN, hf, hs, rfl, hv⟩
    · have E2 := Lib.hid hN
      have F2 := Lib.hid hf
      have S2 := Lib.hid hs
      clear hN hf hs hG
      go_wp2_with fail
      refine ⟨rfl, ?_⟩
      exact got_bad (by unfold pPrim; rw [if_neg (by rw [h40]; decide), if_neg (by rw [h123]; decide), if_neg (by rw [hany]; decide), if_neg (by rw [hall]; decide), if_pos hpastt, E.out, thn_ok, E2.out]) F2.out S2.out rfl
    obtain ⟨g2, rfl⟩ := ptr_ok hv
    have E2 := Lib.hid hN
    have F2 := Lib.hid hf
    have S2 := Lib.hid hs
    have T2 := Lib.hid hv
    clear hN hf hs hG hv
    go_wp2_with fail
    go_ret
    exact got_ok (by unfold pPrim; rw [if_neg (by rw [h40]; decide), if_neg (by rw [h123]; decide), if_neg (by rw [hany]; decide), if_neg (by rw [hall]; decide), if_pos hpastt, E.out, thn_ok, E2.out]) F2.out S2.out T2.out
  have hpast : tokIs P.T n [112, 97, 115, 116] = false := by simpa using hpastt
  clear hpastt
  by_cases hatt : tokIs P.T n [97, 116] = true
  · go_enter Tryd.func79, Tryd.ntmps79
    go_wp2_with fail
    refine (is_s h h40).mono ?_
    rintro e w1 ⟨rfl, hf, hs⟩
    have F1 := Lib.hid hf
    have S1 := Lib.hid hs
    clear hf hs
    go_wp2_with fail
    refine (take_no P V n [123] w1 S1 h123).mono ?_
    rintro e w2 ⟨rfl, hf, hs⟩
    have F2 := Lib.hid (F1.out.trans hf)
    have S2 := Lib.hid hs
    clear hf hs
    go_wp2_with fail
    refine (take_no P V n [97, 110, 121] w2 S2 hany).mono ?_
    rintro e w3 ⟨rfl, hf, hs⟩
    have F3 := Lib.hid (F2.out.trans hf)
    have S3 := Lib.hid hs
    clear hf hs
    go_wp2_with fail
    refine (take_no P V n [97, 108, 108] w3 S3 hall).mono ?_
    rintro e w4 ⟨rfl, hf, hs⟩
    have F4 := Lib.hid (F3.out.trans hf)
    have S4 := Lib.hid hs
    clear hf hs
    go_wp2_with fail
    refine (take_no P V n [112, 97, 115, 116] w4 S4 hpast).mono ?_
    rintro e w5 ⟨rfl, hf, hs⟩
    have F5 := Lib.hid (F4.out.trans hf)
    have S5 := Lib.hid hs
    clear hf hs
    go_wp2_with fail
    refine (take_yes P V n [97, 116] w5 S5 hatt).mono ?_
    rintro e w6 ⟨rfl, hf, hs⟩
    have F6 := Lib.hid (F5.out.trans hf)
    have S6 := Lib.hid hs
    clear hf hs
    go_wp2_with fail
    refine (memoryWord_any P V pe n n (n + 1) w6 S6 (by omega) he).mono ?_
    intro e w7 hG
    rcases hG.elim with ⟨x, m, hN, hf, hs, rfl⟩ | ⟨t, m1, v, hN, hf, hs, rfl, hv⟩
    · have E := Lib.hid hN
      have F := Lib.hid (F6.out.trans hf)
      have S := Lib.hid hs
      clear hN hf hs hG
      go_wp2_with fail
      refine ⟨rfl, ?_⟩
      exact got_bad (by unfold pPrim; rw [if_neg (by rw [h40]; decide), if_neg (by rw [h123]; decide), if_neg (by rw [hany]; decide), if_neg (by rw [hall]; decide), if_neg (by rw [hpast]; decide), if_pos hatt, E.out]) F.out S.out rfl
    obtain ⟨g, rfl⟩ := ptr_ok hv
    have E := Lib.hid hN
    have F := Lib.hid (F6.out.trans hf)
    have S := Lib.hid hs
    have T := Lib.hid (hv.older F6.out.size)
    clear hN hf hs hG hv
    go_wp2_with fail
    go_ret
    exact got_ok (by unfold pPrim; rw [if_neg (by rw [h40]; decide), if_neg (by rw [h123]; decide), if_neg (by rw [hany]; decide), if_neg (by rw [hall]; decide), if_neg (by rw [hpast]; decide), if_pos hatt, E.out]) F.out S.out T.out
  have hat : tokIs P.T n [97, 116] = false := by simpa using hatt
  clear hatt
  go_enter Tryd.func79, Tryd.ntmps79
  go_wp2_with fail
  refine (is_s h h40).mono ?_
  rintro e w1 ⟨rfl, hf, hs⟩
  have F1 := Lib.hid hf
  have S1 := Lib.hid hs
  clear hf hs
  go_wp2_with fail
  refine (take_no P V n [123] w1 S1 h123).mono ?_
  rintro e w2 ⟨rfl, hf, hs⟩
  have F2 := Lib.hid (F1.out.trans hf)
  have S2 := Lib.hid hs
  clear hf hs
  go_wp2_with fail
  refine (take_no P V n [97, 110, 121] w2 S2 hany).mono ?_
  rintro e w3 ⟨rfl, hf, hs⟩
  have F3 := Lib.hid (F2.out.trans hf)
  have S3 := Lib.hid hs
  clear hf hs
  go_wp2_with fail
  refine (take_no P V n [97, 108, 108] w3 S3 hall).mono ?_
  rintro e w4 ⟨rfl, hf, hs⟩
  have F4 := Lib.hid (F3.out.trans hf)
  have S4 := Lib.hid hs
  clear hf hs
  go_wp2_with fail
  refine (take_no P V n [112, 97, 115, 116] w4 S4 hpast).mono ?_
  rintro e w5 ⟨rfl, hf, hs⟩
  have F5 := Lib.hid (F4.out.trans hf)
  have S5 := Lib.hid hs
  clear hf hs
  go_wp2_with fail
  refine (take_no P V n [97, 116] w5 S5 hat).mono ?_
  rintro e w6 ⟨rfl, hf, hs⟩
  have F6 := Lib.hid (F5.out.trans hf)
  have S6 := Lib.hid hs
  clear hf hs
  go_wp2_with fail
  refine (leaf_any P V n w6 S6).mono ?_
  intro e w7 hG
  rcases hG.elim with ⟨x, m, hN, hf, hs, rfl⟩ | ⟨t, m1, v, hN, hf, hs, rfl, hv⟩
  · have E := Lib.hid hN
    have F := Lib.hid (F6.out.trans hf)
    have S := Lib.hid hs
    clear hN hf hs hG
    go_wp2_with fail
    refine ⟨rfl, ?_⟩
    exact got_bad (by unfold pPrim; rw [if_neg (by rw [h40]; decide), if_neg (by rw [h123]; decide), if_neg (by rw [hany]; decide), if_neg (by rw [hall]; decide), if_neg (by rw [hpast]; decide), if_neg (by rw [hat]; decide), E.out]) F.out S.out rfl
  obtain ⟨g, rfl⟩ := ptr_ok hv
  have E := Lib.hid hN
  have F := Lib.hid (F6.out.trans hf)
  have S := Lib.hid hs
  have T := Lib.hid (hv.older F6.out.size)
  clear hN hf hs hG hv
  go_wp2_with fail
  go_ret
  exact got_ok (by unfold pPrim; rw [if_neg (by rw [h40]; decide), if_neg (by rw [h123]; decide), if_neg (by rw [hany]; decide), if_neg (by rw [hall]; decide), if_neg (by rw [hpast]; decide), if_neg (by rw [hat]; decide), E.out]) F.out S.out T.out

end Go.Proofs.YtccjbpghpoblhaaDoor

