/-
  The document's Hit, WALKED.
-/
import Derived.Test.YtmnblcnhbafcpaaJ42
namespace Go.Proofs.Ytmnblcnhbafcpaa
open Go.RowKit
open NetM
open VecM

theorem bls_up {w u : World} {A : Option Addr} {l : List Bool} (h : Bls w w.heap.size A l) (hu : Gr w u) : Bls u u.heap.size A l := fun i s hi => by
  obtain ⟨b, o, e, hb, hc⟩ := h i s hi
  exact ⟨b, o, e, Nat.lt_of_lt_of_le hb hu.size, cell_up hu hb hc⟩
theorem bitsAt_len {n : Nt} {t : List (List Nat)} {j : Nat} (h : j < t.length) : (bitsAt n t j).length = n.props.length := by
  rw [bitsAt_row (List.getElem?_eq_getElem h), prB_len]
set_option maxRecDepth 100000 in
set_option maxHeartbeats 8000000 in
theorem RHit_any (n : Nt) (v tv : Value) (pi : Int) (t : List (List Nat)) (w : World) (hs : Sz n) (hn : Hid (NtAt w n v)) (hR : NRight n) (ht : TrOk n t) (htl : t.length ≤ 64) (htv : Hid (RwsR w tv (t.map ofN))) :
    Calls Try.prog 17 #[v, .int .i64 pi, tv] w fun e w' => e = .returned (.tuple #[.int .i64 ((hitOf n t pi).1 : Nat), .bool (hitOf n t pi).2]) ∧ Gr w w' := by
  have hsz := hs
  have HV := Lib.hid (fun (u : World) (hu : Gr w u) => hn.out.gr hu)
  have RU := Lib.hid (fun (u : World) (hu : Gr w u) => RRun_any n v tv t u hsz (Lib.hid (hn.out.gr hu)) hR ht htl (Lib.hid (htv.out.gr hu)))
  obtain ⟨R, hRe⟩ : ∃ R, hitOf n t pi = R := ⟨_, rfl⟩
  rw [hRe]
  obtain ⟨z1, z2, z3, z4, z5⟩ := hs
  obtain ⟨A1, A2, A3, A4, A5, c1, c2, c3, c4, c5, rfl, hc1, h1, h2, h3, h4, h5⟩ := hn.out
  clear h1 h2 h3 h4 h5 htv
  obtain ⟨W0, eW, BW, KEEP⟩ : ∃ W0, w.alloc (.cells (bxC n A1 A2 A3 A4 A5 c1 c2 c3 c4 c5) 27) = W0 ∧ Hid (Gr w W0) ∧ Hid (∀ u, Gr W0 u → BxAt u w.heap.size n A1 A2 A3 A4 A5 c1 c2 c3 c4 c5) :=
    ⟨_, rfl, Lib.hid (bel_alloc _ _), Lib.hid fun u hu => bx_gr (bx_new w n A1 A2 A3 A4 A5 c1 c2 c3 c4 c5) (by simp) hu⟩
  obtain ⟨e0, e1, e2, e3, e4⟩ := KEEP.out W0 (Gr.refl _)
  by_cases hneg : pi < 0
  · obtain rfl : R = (0, false) := by rw [← hRe, hitOf, if_pos hneg]
    clear hRe
    go_enter Try.func17, Try.ntmps17
    go_upto_region 1 with fail
    try rw [eW]
    clear eW
    go_wp2_with fail
    go_ret2
    exact ⟨rfl, BW.out⟩
  · rw [hitOf, if_neg hneg] at hRe
    obtain ⟨pj, rfl⟩ : ∃ pj : Nat, pi = pj := ⟨pi.toNat, by omega⟩
    rw [show ((pj : Int).toNat) = pj from by omega] at hRe
    by_cases hin : pj < n.props.length
    · have hp : n.props[pj]? = some n.props[pj] := List.getElem?_eq_getElem hin
      generalize n.props[pj] = p at hp
      rw [hp] at hRe
      have HR := Lib.hid (show hitF n t p pj 0 t.length = R from hRe)
      have HP := Lib.hid hp
      have k1 : ¬ (n.props.length : Int) ≤ (pj : Int) := by omega
      clear hRe hp
      go_enter Try.func17, Try.ntmps17
      go_upto_region 1 with fail
      try rw [eW]
      clear eW
      go_wp2_with fail
      refine (RU.out _ BW.out).mono ?_
      rintro e w1 ⟨v1, rfl, hr1, hg1⟩
      have G1 := Lib.hid (Gr.trans BW.out hg1)
      obtain ⟨Ar, cr, rfl, hcr, hrr⟩ := hr1
      rw [runL_len] at hcr ⊢
      have HB1 := Lib.hid hrr
      have K1 := Lib.hid (fun (u : World) (hu : Gr w1 u) => KEEP.out u (Gr.trans hg1 hu))
      clear hg1 hrr RU e0 e1 e2 e3 e4
      go_wp2_with fail
      go_loopg [9] t.length (fun g i wr => ∃ j : Nat, j + g = t.length ∧ i = .int .i64 j ∧ Hid (hitF n t p pj j g = R) ∧ Hid (Gr w1 wr))
      case atStart => exact ⟨0, by omega, rfl, HR, Lib.hid (Gr.refl _)⟩
      case round =>
        obtain ⟨j, hjg, rfl, HF, HG⟩ := hrel
        have HJ := Lib.hid hjg
        have hjl : j ≤ t.length := by omega
        clear hjg
        obtain ⟨e0, e1, e2, e3, e4⟩ := K1.out _ HG.out
        have GWR := Lib.hid (Gr.trans G1.out HG.out)
        by_cases hlt : j < t.length
        · obtain ⟨g', hg'⟩ : ∃ g', gk = g' + 1 := ⟨gk - 1, by have := HJ.out; omega⟩
          have HGK := Lib.hid hg'
          have HFF := Lib.hid (show (if legL n.props (bitsAt n t j) = false then ((0 : Nat), false) else if hitB p ((bitsAt n t j)[pj]?.getD false) = true then (j, true) else hitF n t p pj (j + 1) (gk - 1)) = R from by
            have h9 := HF.out
            rw [hg', hitF] at h9
            rw [hg', Nat.add_sub_cancel]
            exact h9)
          clear HF hg'
          obtain ⟨bl, ol, rv, rfl, hbl, f1', hbr⟩ := HB1.out j (bitsAt n t j) (runL_at hlt)
          have f1'' := cell_up HG.out hbl f1'
          obtain ⟨Ab, cb, rfl, hcb, hbb⟩ := hbr
          have hbn := bitsAt_len (n := n) hlt
          rw [hbn] at f1'' f1' hcb
          have f1 := f1''
          have hbi : (bitsAt n t j)[pj]? = some (bitsAt n t j)[pj] := List.getElem?_eq_getElem (by omega)
          generalize (bitsAt n t j)[pj] = x at hbi
          rw [hbi, Option.getD_some] at HFF
          have LG := Lib.hid (fun (u : World) (hu : Gr wr u) => RLegal_any n (ntV A1 A2 A3 A4 A5 n.nodes.length n.ins.length n.cells.length n.props.length n.names.length c1 c2 c3 c4 c5) Ab cb (bitsAt n t j) u hsz (Lib.hid (HV.out u (Gr.trans GWR.out hu))) hbn (Lib.hid (bls_up hbb (Gr.trans HG.out hu))))
          have HT := Lib.hid (fun (u : World) (hu : Gr wr u) => RHits_any n (ntV A1 A2 A3 A4 A5 n.nodes.length n.ins.length n.cells.length n.props.length n.names.length c1 c2 c3 c4 c5) pj p x Ab cb (bitsAt n t j) u hsz (Lib.hid (HV.out u (Gr.trans GWR.out hu))) HP.out hbi (Lib.hid (bls_up hbb (Gr.trans HG.out hu))))
          have j1 : (j : Int) < (t.length : Int) := by omega
          have j2 : (0 : Int) ≤ (j : Int) := by omega
          have SX := Lib.hid (fun (u : World) (hu : Gr wr u) => (show (fun u : World => u.cell? ⟨w.heap.size, 0, none⟩ = some (.slice A1 n.nodes.length c1) ∧ u.cell? ⟨w.heap.size, 1, none⟩ = some (.slice A2 n.ins.length c2) ∧ u.cell? ⟨w.heap.size, 2, none⟩ = some (.slice A3 n.cells.length c3) ∧ u.cell? ⟨w.heap.size, 3, none⟩ = some (.slice A4 n.props.length c4) ∧ u.cell? ⟨w.heap.size, 4, none⟩ = some (.slice A5 n.names.length c5) ∧ u.cell? ⟨bl, ol + j, none⟩ = some (.slice Ab n.props.length cb)) u from by
            obtain ⟨e0, e1, e2, e3, e4⟩ := K1.out _ (Gr.trans HG.out hu)
            exact ⟨e0, e1, e2, e3, e4, cell_up hu (Nat.lt_of_lt_of_le hbl HG.out.size) f1⟩))
          clear f1' f1'' hbb hbi
          generalize bitsAt n t j = bs at LG HT HFF hbn
          generalize legL n.props bs = lg at LG HFF
          generalize hitB p x = hb at HT HFF
          go_upto_region 7 with fail
          refine wp_region_held_drew (S := (fun u : World => u.cell? ⟨w.heap.size, 0, none⟩ = some (.slice A1 n.nodes.length c1) ∧ u.cell? ⟨w.heap.size, 1, none⟩ = some (.slice A2 n.ins.length c2) ∧ u.cell? ⟨w.heap.size, 2, none⟩ = some (.slice A3 n.cells.length c3) ∧ u.cell? ⟨w.heap.size, 3, none⟩ = some (.slice A4 n.props.length c4) ∧ u.cell? ⟨w.heap.size, 4, none⟩ = some (.slice A5 n.names.length c5) ∧ u.cell? ⟨bl, ol + j, none⟩ = some (.slice Ab n.props.length cb))) (by kernel_rfl) (SX.out _ (Gr.drew _)) (fun hHeld => ?_)
          refine wpAnyH_take (i := 0) (oi := { dst := some 28, op := Op.load 27 (Operand.tmp 3), type := 27, pos := "ref.go:84", after := #[], guard := none }) (v := ?_) rfl (by kernel_rfl) (by kernel_rfl) (by kernel_rfl) (fun _ _ _ h => h) (Or.inl ⟨by rfl, ?_⟩) hHeld ?_
          case refine_2 => (intro w hSw; (try dsimp only at hSw); go_simp; try (with_reducible rfl))
          try simp only [Act.put, List.setIfInBounds_toArray, List.set_cons_zero, List.set_cons_succ]
          refine wpAnyH_take (i := 1) (oi := { dst := some 29, op := Op.move (Operand.tmp 8), type := 39, pos := "ref.go:84", after := #[], guard := none }) (v := ?_) rfl (by kernel_rfl) (by kernel_rfl) (by kernel_rfl) (fun _ _ _ h => h) (Or.inl ⟨by rfl, ?_⟩) hHeld ?_
          case refine_2 => (intro w hSw; (try dsimp only at hSw); go_simp; try (with_reducible rfl))
          try simp only [Act.put, List.setIfInBounds_toArray, List.set_cons_zero, List.set_cons_succ]
          refine wpAnyH_take (i := 2) (oi := { dst := some 30, op := Op.move (Operand.tmp 9), type := 3, pos := "ref.go:84", after := #[], guard := none }) (v := ?_) rfl (by kernel_rfl) (by kernel_rfl) (by kernel_rfl) (fun _ _ _ h => h) (Or.inl ⟨by rfl, ?_⟩) hHeld ?_
          case refine_2 => (intro w hSw; (try dsimp only at hSw); go_simp; try (with_reducible rfl))
          try simp only [Act.put, List.setIfInBounds_toArray, List.set_cons_zero, List.set_cons_succ]
          refine wpAnyH_take (i := 3) (oi := { dst := some 31, op := Op.indexAddr 39 (Operand.tmp 29) (Operand.tmp 30), type := 0, pos := "ref.go:84", after := #[{ on := 1, ground := Ground.data }, { on := 2, ground := Ground.data }], guard := none }) (v := ?_) rfl (by kernel_rfl) (by kernel_rfl) (by kernel_rfl) (fun _ _ _ h => h) (Or.inl ⟨by rfl, ?_⟩) hHeld ?_
          case refine_2 => (intro w hSw; (try dsimp only at hSw); go_simp; try (with_reducible rfl))
          try simp only [Act.put, List.setIfInBounds_toArray, List.set_cons_zero, List.set_cons_succ]
          refine wpAnyH_take (i := 4) (oi := { dst := some 32, op := Op.load 44 (Operand.tmp 31), type := 44, pos := "ref.go:84", after := #[{ on := 3, ground := Ground.data }], guard := none }) (v := ?_) rfl (by kernel_rfl) (by kernel_rfl) (by kernel_rfl) (fun _ _ _ h => h) (Or.inl ⟨by rfl, ?_⟩) hHeld ?_
          case refine_2 => (intro w hSw; (try dsimp only at hSw); go_simp; try (with_reducible rfl))
          try simp only [Act.put, List.setIfInBounds_toArray, List.set_cons_zero, List.set_cons_succ]
          refine wpAnyH_ready (rs := [5]) (by kernel_rfl) (by simp) ?_
          refine AllReadyH.cons (o := { dst := some 33, op := Op.call { callee := Callee.value (Operand.func 36), args := #[Operand.tmp 28, Operand.tmp 32], argTypes := #[27, 44] }, type := 4, pos := "ref.go:84", after := #[{ on := 0, ground := Ground.data }, { on := 4, ground := Ground.data }], guard := none }) rfl (fun K hK => ?_) AllReadyH.nil
          go_simp
          refine (LG.out _ (Gr.drew _)).mono ?_
          rintro e w5 ⟨rfl, hg5'⟩
          have HG5 := Lib.hid (show Gr wr w5 from Gr.trans (Gr.drew _) hg5')
          refine hK.out _ _ (SX.out _ HG5.out) (fun hHeld => ?_)
          clear hK K hg5'
          try simp only [Act.put, List.setIfInBounds_toArray, List.set_cons_zero, List.set_cons_succ]
          refine wpAnyH_take (i := 6) (oi := { dst := some 34, op := Op.unOp UnOp.not 4 (Operand.tmp 33), type := 4, pos := "ref.go:84", after := #[{ on := 5, ground := Ground.data }], guard := none }) (v := ?_) rfl (by kernel_rfl) (by kernel_rfl) (by kernel_rfl) (fun _ _ _ h => h) (Or.inl ⟨by rfl, ?_⟩) hHeld ?_
          case refine_2 => (intro w hSw; (try dsimp only at hSw); go_simp; try (with_reducible rfl))
          try simp only [Act.put, List.setIfInBounds_toArray, List.set_cons_zero, List.set_cons_succ]
          refine wpAnyH_done (by kernel_rfl) ?_ _
          cases lg with
          | false =>
            have HQ := Lib.hid (show ((0 : Nat), false) = R from by have h9 := HFF.out; rw [if_pos rfl] at h9; exact h9)
            clear e0 e1 e2 e3 e4 f1
            go_wp2_with fail
            go_ret2
            exact ⟨by rw [← HQ.out]; rfl, Gr.trans GWR.out HG5.out⟩
          | true =>
            have HFG := Lib.hid (show (if hb = true then (j, true) else hitF n t p pj (j + 1) (gk - 1)) = R from by have h9 := HFF.out; rw [if_neg (by decide)] at h9; exact h9)
            clear e0 e1 e2 e3 e4 f1
            go_upto_region 9 with fail
            refine wp_region_held_drew (S := (fun u : World => u.cell? ⟨w.heap.size, 0, none⟩ = some (.slice A1 n.nodes.length c1) ∧ u.cell? ⟨w.heap.size, 1, none⟩ = some (.slice A2 n.ins.length c2) ∧ u.cell? ⟨w.heap.size, 2, none⟩ = some (.slice A3 n.cells.length c3) ∧ u.cell? ⟨w.heap.size, 3, none⟩ = some (.slice A4 n.props.length c4) ∧ u.cell? ⟨w.heap.size, 4, none⟩ = some (.slice A5 n.names.length c5) ∧ u.cell? ⟨bl, ol + j, none⟩ = some (.slice Ab n.props.length cb))) (by kernel_rfl) (SX.out _ (Gr.trans HG5.out (Gr.drew _))) (fun hHeld => ?_)
            refine wpAnyH_take (i := 0) (oi := { dst := some 35, op := Op.load 27 (Operand.tmp 3), type := 27, pos := "ref.go:87", after := #[], guard := none }) (v := ?_) rfl (by kernel_rfl) (by kernel_rfl) (by kernel_rfl) (fun _ _ _ h => h) (Or.inl ⟨by rfl, ?_⟩) hHeld ?_
            case refine_2 => (intro w hSw; (try dsimp only at hSw); go_simp; try (with_reducible rfl))
            try simp only [Act.put, List.setIfInBounds_toArray, List.set_cons_zero, List.set_cons_succ]
            refine wpAnyH_take (i := 1) (oi := { dst := some 36, op := Op.move (Operand.tmp 1), type := 3, pos := "ref.go:87", after := #[], guard := none }) (v := ?_) rfl (by kernel_rfl) (by kernel_rfl) (by kernel_rfl) (fun _ _ _ h => h) (Or.inl ⟨by rfl, ?_⟩) hHeld ?_
            case refine_2 => (intro w hSw; (try dsimp only at hSw); go_simp; try (with_reducible rfl))
            try simp only [Act.put, List.setIfInBounds_toArray, List.set_cons_zero, List.set_cons_succ]
            refine wpAnyH_take (i := 2) (oi := { dst := some 37, op := Op.move (Operand.tmp 8), type := 39, pos := "ref.go:87", after := #[], guard := none }) (v := ?_) rfl (by kernel_rfl) (by kernel_rfl) (by kernel_rfl) (fun _ _ _ h => h) (Or.inl ⟨by rfl, ?_⟩) hHeld ?_
            case refine_2 => (intro w hSw; (try dsimp only at hSw); go_simp; try (with_reducible rfl))
            try simp only [Act.put, List.setIfInBounds_toArray, List.set_cons_zero, List.set_cons_succ]
            refine wpAnyH_take (i := 3) (oi := { dst := some 38, op := Op.move (Operand.tmp 9), type := 3, pos := "ref.go:87", after := #[], guard := none }) (v := ?_) rfl (by kernel_rfl) (by kernel_rfl) (by kernel_rfl) (fun _ _ _ h => h) (Or.inl ⟨by rfl, ?_⟩) hHeld ?_
            case refine_2 => (intro w hSw; (try dsimp only at hSw); go_simp; try (with_reducible rfl))
            try simp only [Act.put, List.setIfInBounds_toArray, List.set_cons_zero, List.set_cons_succ]
            refine wpAnyH_take (i := 4) (oi := { dst := some 39, op := Op.indexAddr 39 (Operand.tmp 37) (Operand.tmp 38), type := 0, pos := "ref.go:87", after := #[{ on := 2, ground := Ground.data }, { on := 3, ground := Ground.data }], guard := none }) (v := ?_) rfl (by kernel_rfl) (by kernel_rfl) (by kernel_rfl) (fun _ _ _ h => h) (Or.inl ⟨by rfl, ?_⟩) hHeld ?_
            case refine_2 => (intro w hSw; (try dsimp only at hSw); go_simp; try (with_reducible rfl))
            try simp only [Act.put, List.setIfInBounds_toArray, List.set_cons_zero, List.set_cons_succ]
            refine wpAnyH_take (i := 5) (oi := { dst := some 40, op := Op.load 44 (Operand.tmp 39), type := 44, pos := "ref.go:87", after := #[{ on := 4, ground := Ground.data }], guard := none }) (v := ?_) rfl (by kernel_rfl) (by kernel_rfl) (by kernel_rfl) (fun _ _ _ h => h) (Or.inl ⟨by rfl, ?_⟩) hHeld ?_
            case refine_2 => (intro w hSw; (try dsimp only at hSw); go_simp; try (with_reducible rfl))
            try simp only [Act.put, List.setIfInBounds_toArray, List.set_cons_zero, List.set_cons_succ]
            refine wpAnyH_ready (rs := [6]) (by kernel_rfl) (by simp) ?_
            refine AllReadyH.cons (o := { dst := some 41, op := Op.call { callee := Callee.value (Operand.func 37), args := #[Operand.tmp 35, Operand.tmp 36, Operand.tmp 40], argTypes := #[27, 3, 44] }, type := 4, pos := "ref.go:87", after := #[{ on := 0, ground := Ground.data }, { on := 1, ground := Ground.data }, { on := 5, ground := Ground.data }], guard := none }) rfl (fun K hK => ?_) AllReadyH.nil
            go_simp
            refine (HT.out _ (Gr.trans HG5.out (Gr.drew _))).mono ?_
            rintro e w6 ⟨rfl, hg6'⟩
            have HG6 := Lib.hid (show Gr wr w6 from Gr.trans HG5.out (Gr.trans (Gr.drew _) hg6'))
            refine hK.out _ _ (SX.out _ HG6.out) (fun hHeld => ?_)
            clear hK K hg6'
            try simp only [Act.put, List.setIfInBounds_toArray, List.set_cons_zero, List.set_cons_succ]
            refine wpAnyH_done (by kernel_rfl) ?_ _
            cases hb with
            | true =>
              have HQ := Lib.hid (show (j, true) = R from by have h9 := HFG.out; rw [if_pos rfl] at h9; exact h9)
              go_wp2_with fail
              go_ret2
              exact ⟨by rw [← HQ.out]; rfl, Gr.trans GWR.out HG6.out⟩
            | false =>
              have HQ := Lib.hid (show hitF n t p pj (j + 1) (gk - 1) = R from by have h9 := HFG.out; rw [if_neg (by decide)] at h9; exact h9)
              go_wp2_with fail
              go_roundg (gk - 1)
              case measure => have := HJ.out; omega
              case rel => exact ⟨j + 1, by have := HJ.out; omega, by go_num, HQ, Lib.hid (Gr.trans HG.out HG6.out)⟩
        · obtain rfl : j = t.length := by omega
          obtain rfl : gk = 0 := by have := HJ.out; omega
          have HQ := Lib.hid (show ((0 : Nat), false) = R from HF.out)
          have j1 : ¬ (t.length : Int) < (t.length : Int) := by omega
          go_wp2_with fail
          go_ret2
          exact ⟨by rw [← HQ.out]; rfl, GWR.out⟩
    · obtain rfl : R = (0, false) := by rw [← hRe, List.getElem?_eq_none (by omega)]
      have k1 : (n.props.length : Int) ≤ (pj : Int) := by omega
      clear hRe
      go_enter Try.func17, Try.ntmps17
      go_upto_region 1 with fail
      try rw [eW]
      clear eW
      go_wp2_with fail
      go_ret2
      exact ⟨rfl, BW.out⟩
end Go.Proofs.Ytmnblcnhbafcpaa
