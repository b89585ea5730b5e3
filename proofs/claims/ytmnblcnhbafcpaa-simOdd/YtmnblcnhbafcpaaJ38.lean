/-
  The document's States, WALKED.
-/
import Derived.Test.YtmnblcnhbafcpaaJ36
namespace Go.Proofs.Ytmnblcnhbafcpaa
open Go.RowKit
open NetM
open VecM

set_option maxRecDepth 100000 in
set_option maxHeartbeats 8000000 in
theorem RStates_any (n : Nt) (v tv : Value) (t : List (List Nat)) (w : World) (hs : Sz n) (hn : Hid (NtAt w n v)) (hR : NRight n) (ht : TrOk n t) (htl : t.length ≤ 64) (htv : Hid (RwsR w tv (t.map ofN))) :
    Calls Try.prog 20 #[v, tv] w fun e w' => ∃ v', e = .returned v' ∧ RwsR w' v' (stsL n t (t.length + 1)) ∧ Gr w w' := by
  have hsz := hs
  have HV := Lib.hid (fun (u : World) (hu : Gr w u) => hn.out.gr hu)
  obtain ⟨z1, z2, z3, z4, z5⟩ := hs
  obtain ⟨A1, A2, A3, A4, A5, c1, c2, c3, c4, c5, rfl, hc1, h1, h2, h3, h4, h5⟩ := hn.out
  clear h1 h2 h3 h4 h5
  obtain ⟨At, ct, rfl, hct, hrt⟩ := htv.out
  rw [List.length_map] at hct htv ⊢
  have HT := Lib.hid hrt
  clear hrt
  obtain ⟨W0, eW, BW, KEEP⟩ : ∃ W0, w.alloc (.cells (bxC n A1 A2 A3 A4 A5 c1 c2 c3 c4 c5) 27) = W0 ∧ Hid (Gr w W0) ∧ Hid (∀ u, Gr W0 u → BxAt u w.heap.size n A1 A2 A3 A4 A5 c1 c2 c3 c4 c5) :=
    ⟨_, rfl, Lib.hid (bel_alloc _ _), Lib.hid fun u hu => bx_gr (bx_new w n A1 A2 A3 A4 A5 c1 c2 c3 c4 c5) (by simp) hu⟩
  obtain ⟨e0, e1, e2, e3, e4⟩ := KEEP.out W0 (Gr.refl _)
  obtain ⟨i0, hi, hz0, hz1, hz2⟩ := info_parts info42
  have HI := Lib.hid (And.intro hi (And.intro hz0 (And.intro hz1 hz2)))
  clear hi hz0 hz1 hz2
  have RF := Lib.hid (RFirst_any n _ W0 hsz (Lib.hid (HV.out W0 BW.out)))
  rw [ofN_first hR] at RF
  go_enter Try.func20, Try.ntmps20
  go_wp2_with fail
  try rw [eW]
  clear eW
  refine RF.out.mono ?_
  rintro e w1 ⟨v1, rfl, hi1, hg1, -⟩
  obtain ⟨Av, cv, hv1, -⟩ := id hi1
  rw [ofN_len, firstS_len] at hv1
  subst hv1
  have G1 := Lib.hid hg1
  have hone : (Value.slice Av n.cells.length cv).oneCell' = true := rfl
  have R1 := Lib.hid (rws_one hi1 hone)
  clear hg1 hi1 RF e0 e1 e2 e3 e4
  go_wp2_with fail
  go_loopg [5, 6, 7] t.length (fun g s5 o6 i wr => ∃ (s o : Value) (j : Nat) (us : List Value), s = s5 ∧ o = o6 ∧ j + g = t.length ∧ i = .int .i64 j ∧ Hid (RwsU w1 o us (stsL n t (j + 1)) wr) ∧ Hid (us[j]? = some s))
  case atStart => exact ⟨_, _, 0, [.slice Av n.cells.length cv], rfl, rfl, by omega, rfl, R1, Lib.hid rfl⟩
  case round =>
    obtain ⟨s, o, j, us, rfl, rfl, hjg, rfl, HO, HU⟩ := hrel
    have HJ := Lib.hid hjg
    have hjl : j ≤ t.length := by omega
    clear hjg
    obtain ⟨e0, e1, e2, e3, e4⟩ := KEEP.out _ (Gr.trans G1.out HO.out.1)
    by_cases hlt : j < t.length
    · have hri : t[j]? = some t[j] := List.getElem?_eq_getElem hlt
      generalize t[j] = r at hri
      obtain ⟨hrl, hrk⟩ := ht r (List.mem_of_getElem? hri)
      obtain ⟨bl, ol, rv, rfl, hbl, f1, hrr⟩ := (HT.out.gr (Gr.trans BW.out (Gr.trans G1.out HO.out.1))) j (ofN r) (by rw [List.getElem?_map, hri]; rfl)
      have HRR := Lib.hid hrr
      have HRI := Lib.hid hri
      have hsl : (stAt n t j).length = n.cells.length := stAt_len n t j
      have HST := Lib.hid (show stsL n t (j + 1 + 1) = stsL n t (j + 1) ++ [ofN (nextS n (stAt n t j) r)] from by rw [stsL_succ n t (j + 1), stAt_succ hri])
      have HLN := Lib.hid (stsL_len n t (j + 1))
      have hsr := (HO.out.2.2.2 j s (ofN (stAt n t j)) HU.out (stsL_at (by omega))).1
      have HSR := Lib.hid hsr
      have hok := ok_at hR ht j hjl
      have AF := Lib.hid (fun (u : World) (hu : Gr wr u) => RAfter_any n (ntV A1 A2 A3 A4 A5 n.nodes.length n.ins.length n.cells.length n.props.length n.names.length c1 c2 c3 c4 c5) s rv (ofN (evAll n (stAt n t j) r)) u hsz (Lib.hid (HV.out u (Gr.trans BW.out (Gr.trans G1.out (Gr.trans HO.out.1 hu))))) (by rw [ofN_len]; unfold evAll; rw [evL_len _ _ _ _ (Nat.le_refl _)]; omega)
        (fun c hc => by
          obtain ⟨ck1, ck2, ck3⟩ := hR.2.2.1.2.1 c hc
          obtain ⟨k, y, hk, hy, -⟩ := places_mem (op := 22) (l := n.nodes) (p := c.node) (by rw [← hR.2.2.1.1]; exact List.mem_map.2 ⟨c, hc, rfl⟩)
          have hwn : widA n.nodes c.node = y.w := by rw [hk]; exact widA_some hy
          obtain ⟨hw1, hw2⟩ := wok_of hR.1 y (List.mem_of_getElem? hy)
          obtain ⟨k2, y2, hk2, hy2, hkl2⟩ := opd_pos (show widA n.nodes c.next ≠ 0 by omega)
          rw [ofN_len]
          unfold evAll
          rw [evL_len _ _ _ _ (Nat.le_refl _)]
          omega)
        (Lib.hid fun u2 hu2 => REval_any n _ s rv (stAt n t j) r u2 hsz (Lib.hid (HV.out u2 (Gr.trans BW.out (Gr.trans G1.out (Gr.trans HO.out.1 (Gr.trans hu hu2)))))) hR.1 hR.2.2.1.1 hR.2.1.2 hok hrk hsl hrl (Lib.hid (HSR.out.gr (Gr.trans hu hu2))) (Lib.hid (HRR.out.gr (Gr.trans hu hu2)))))
      simp only [ofN_next] at AF
      have j1 : (j : Int) < (t.length : Int) := by omega
      have j2 : (0 : Int) ≤ (j : Int) := by omega
      have SX := Lib.hid (fun (u : World) (hu : Gr wr u) => (show (fun u : World => u.cell? ⟨w.heap.size, 0, none⟩ = some (.slice A1 n.nodes.length c1) ∧ u.cell? ⟨w.heap.size, 1, none⟩ = some (.slice A2 n.ins.length c2) ∧ u.cell? ⟨w.heap.size, 2, none⟩ = some (.slice A3 n.cells.length c3) ∧ u.cell? ⟨w.heap.size, 3, none⟩ = some (.slice A4 n.props.length c4) ∧ u.cell? ⟨w.heap.size, 4, none⟩ = some (.slice A5 n.names.length c5) ∧ u.cell? ⟨bl, ol + j, none⟩ = some rv) u from by
        obtain ⟨e0, e1, e2, e3, e4⟩ := KEEP.out _ (Gr.trans G1.out (Gr.trans HO.out.1 hu))
        exact ⟨e0, e1, e2, e3, e4, cell_up hu hbl f1⟩))
      clear hri hrr hsr
      go_upto_region 6 with fail
      refine wp_region_held_drew (S := (fun u : World => u.cell? ⟨w.heap.size, 0, none⟩ = some (.slice A1 n.nodes.length c1) ∧ u.cell? ⟨w.heap.size, 1, none⟩ = some (.slice A2 n.ins.length c2) ∧ u.cell? ⟨w.heap.size, 2, none⟩ = some (.slice A3 n.cells.length c3) ∧ u.cell? ⟨w.heap.size, 3, none⟩ = some (.slice A4 n.props.length c4) ∧ u.cell? ⟨w.heap.size, 4, none⟩ = some (.slice A5 n.names.length c5) ∧ u.cell? ⟨bl, ol + j, none⟩ = some rv)) (by kernel_rfl) (SX.out _ (Gr.drew _)) (fun hHeld => ?_)
      refine wpAnyH_take (i := 0) (oi := { dst := some 18, op := Op.load 27 (Operand.tmp 2), type := 27, pos := "ref.go:34", after := #[], guard := none }) (v := ?_) rfl (by kernel_rfl) (by kernel_rfl) (by kernel_rfl) (fun _ _ _ h => h) (Or.inl ⟨by rfl, ?_⟩) hHeld ?_
      case refine_2 => (intro w hSw; (try dsimp only at hSw); go_simp; try (with_reducible rfl))
      try simp only [Act.put, List.setIfInBounds_toArray, List.set_cons_zero, List.set_cons_succ]
      refine wpAnyH_take (i := 1) (oi := { dst := some 19, op := Op.move (Operand.tmp 5), type := 42, pos := "ref.go:34", after := #[], guard := none }) (v := ?_) rfl (by kernel_rfl) (by kernel_rfl) (by kernel_rfl) (fun _ _ _ h => h) (Or.inl ⟨by rfl, ?_⟩) hHeld ?_
      case refine_2 => (intro w hSw; (try dsimp only at hSw); go_simp; try (with_reducible rfl))
      try simp only [Act.put, List.setIfInBounds_toArray, List.set_cons_zero, List.set_cons_succ]
      refine wpAnyH_take (i := 2) (oi := { dst := some 20, op := Op.move (Operand.tmp 1), type := 28, pos := "ref.go:34", after := #[], guard := none }) (v := ?_) rfl (by kernel_rfl) (by kernel_rfl) (by kernel_rfl) (fun _ _ _ h => h) (Or.inl ⟨by rfl, ?_⟩) hHeld ?_
      case refine_2 => (intro w hSw; (try dsimp only at hSw); go_simp; try (with_reducible rfl))
      try simp only [Act.put, List.setIfInBounds_toArray, List.set_cons_zero, List.set_cons_succ]
      refine wpAnyH_take (i := 3) (oi := { dst := some 21, op := Op.move (Operand.tmp 7), type := 3, pos := "ref.go:34", after := #[], guard := none }) (v := ?_) rfl (by kernel_rfl) (by kernel_rfl) (by kernel_rfl) (fun _ _ _ h => h) (Or.inl ⟨by rfl, ?_⟩) hHeld ?_
      case refine_2 => (intro w hSw; (try dsimp only at hSw); go_simp; try (with_reducible rfl))
      try simp only [Act.put, List.setIfInBounds_toArray, List.set_cons_zero, List.set_cons_succ]
      refine wpAnyH_take (i := 4) (oi := { dst := some 22, op := Op.indexAddr 28 (Operand.tmp 20) (Operand.tmp 21), type := 0, pos := "ref.go:34", after := #[{ on := 2, ground := Ground.data }, { on := 3, ground := Ground.data }], guard := none }) (v := ?_) rfl (by kernel_rfl) (by kernel_rfl) (by kernel_rfl) (fun _ _ _ h => h) (Or.inl ⟨by rfl, ?_⟩) hHeld ?_
      case refine_2 => (intro w hSw; (try dsimp only at hSw); go_simp; try (with_reducible rfl))
      try simp only [Act.put, List.setIfInBounds_toArray, List.set_cons_zero, List.set_cons_succ]
      refine wpAnyH_take (i := 5) (oi := { dst := some 23, op := Op.load 42 (Operand.tmp 22), type := 42, pos := "ref.go:34", after := #[{ on := 4, ground := Ground.data }], guard := none }) (v := ?_) rfl (by kernel_rfl) (by kernel_rfl) (by kernel_rfl) (fun _ _ _ h => h) (Or.inl ⟨by rfl, ?_⟩) hHeld ?_
      case refine_2 => (intro w hSw; (try dsimp only at hSw); go_simp; try (with_reducible rfl))
      try simp only [Act.put, List.setIfInBounds_toArray, List.set_cons_zero, List.set_cons_succ]
      refine wpAnyH_ready (rs := [6]) (by kernel_rfl) (by simp) ?_
      refine AllReadyH.cons (o := { dst := some 24, op := Op.call { callee := Callee.value (Operand.func 39), args := #[Operand.tmp 18, Operand.tmp 19, Operand.tmp 23], argTypes := #[27, 42, 42] }, type := 42, pos := "ref.go:34", after := #[{ on := 0, ground := Ground.data }, { on := 1, ground := Ground.data }, { on := 5, ground := Ground.data }], guard := none }) rfl (fun K hK => ?_) AllReadyH.nil
      go_simp
      refine (AF.out _ (Gr.drew _)).mono ?_
      rintro e w5 ⟨v5, rfl, hi5, hg5', hf5⟩
      have hg5 : Gr wr w5 := Gr.trans (Gr.drew _) hg5'
      refine hK.out _ _ (SX.out _ hg5) (fun hHeld => ?_)
      clear hK K hg5'
      try simp only [Act.put, List.setIfInBounds_toArray, List.set_cons_zero, List.set_cons_succ]
      refine wpAnyH_take (i := 7) (oi := { dst := some 5, op := Op.assign (Operand.tmp 24), type := 42, pos := "ref.go:34", after := #[{ on := 6, ground := Ground.data }, { on := 6, ground := Ground.chain }, { on := 0, ground := Ground.phase }, { on := 1, ground := Ground.phase }, { on := 2, ground := Ground.phase }, { on := 3, ground := Ground.phase }, { on := 4, ground := Ground.phase }, { on := 5, ground := Ground.phase }, { on := 6, ground := Ground.phase }], guard := none }) (v := ?_) rfl (by kernel_rfl) (by kernel_rfl) (by kernel_rfl) (fun _ _ _ h => h) (Or.inl ⟨by rfl, ?_⟩) hHeld ?_
      case refine_2 => (intro w hSw; (try dsimp only at hSw); go_simp; try (with_reducible rfl))
      try simp only [Act.put, List.setIfInBounds_toArray, List.set_cons_zero, List.set_cons_succ]
      refine wpAnyH_done (by kernel_rfl) ?_ _
      clear e0 e1 e2 e3 e4 f1
      have HF5 := Lib.hid hf5
      obtain ⟨Av5, cv5, hv5, -⟩ := id hi5
      rw [ofN_len, nextS_len] at hv5
      subst hv5
      have HI5 := Lib.hid hi5
      clear hi5 hf5
      have HA := Lib.hid ((HO.out.gr hg5).gr (bel_alloc w5 (.cells #[.slice Av5 n.cells.length cv5] 42)))
      have HS5 := Lib.hid hg5.size
      have HW5 := Lib.hid hg5
      clear hg5
      go_wp2_with (at_builtin; refine wpList_append_lies _ rfl _ _ 28 rfl w1.heap.size 42 i0 (.slice none 0 0) 1 24 Try.underlying28 HI.out.1 HI.out.2.1 HI.out.2.2.1 HI.out.2.2.2 rfl (by decide) _ _ us rfl HA.out.2.1 ⟨w5.heap.size, 0, none⟩ 1 1 [.slice Av5 n.cells.length cv5] rfl rfl (World.news_of_block (heap_new' w5 _)) (fun u hu => by obtain rfl := List.mem_singleton.1 hu; rfl) (by decide) (by rw [HLN.out]; unfold maxLen; omega) (by rw [HLN.out]; omega) HA.out.1.size _ rfl ?_; intro gz cz w7 hown hgrow hor hlt3; have HN := Lib.hid (rws_step HA.out (HI5.out.gr (bel_alloc w5 _)) rfl (fun _ b hb e => by have h1 := HF5.out b hb; have h2 := (HO.out.2.1.lt b e.symm).2; have h3 := (Gr.drew wr).size; omega) hgrow hor hown); clear hown hgrow hor hlt3)
      go_roundg (gk - 1)
      case measure => have := HJ.out; omega
      case rel =>
        have h9 := HN.out
        refine ⟨_, _, j + 1, us ++ [.slice Av5 n.cells.length cv5], rfl, rfl, by have := HJ.out; omega, by go_num, Lib.hid ?_, Lib.hid ?_⟩
        · rw [HST.out]
          exact h9
        · have h8 := HO.out.2.2.1
          rw [HLN.out] at h8
          rw [List.getElem?_append_right (by omega), h8, Nat.sub_self]
          rfl
    · obtain rfl : j = t.length := by omega
      have j1 : ¬ (t.length : Int) < (t.length : Int) := by omega
      go_wp2_with fail
      go_ret
      exact ⟨_, rfl, rws_own HO.out, Gr.trans BW.out (Gr.trans G1.out HO.out.1)⟩
end Go.Proofs.Ytmnblcnhbafcpaa
