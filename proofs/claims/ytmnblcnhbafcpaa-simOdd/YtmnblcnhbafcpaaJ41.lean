/-
  The document's Run, WALKED.
-/
import Derived.Test.YtmnblcnhbafcpaaJ40
namespace Go.Proofs.Ytmnblcnhbafcpaa
open Go.RowKit
open NetM
open VecM

/-- the bits of the first cycles -/
def runL (n : Nt) (t : List (List Nat)) (k : Nat) : List (List Bool) := (List.range k).map fun q => bitsAt n t q
theorem runL_len (n : Nt) (t : List (List Nat)) (k : Nat) : (runL n t k).length = k := by
  unfold runL
  rw [List.length_map, List.length_range]
theorem runL_succ (n : Nt) (t : List (List Nat)) (k : Nat) : runL n t (k + 1) = runL n t k ++ [bitsAt n t k] := by
  unfold runL
  rw [List.range_succ]
  simp
theorem runL_at {n : Nt} {t : List (List Nat)} {k j : Nat} (h : j < k) : (runL n t k)[j]? = some (bitsAt n t j) := by
  unfold runL
  rw [List.getElem?_map, List.getElem?_range h]
  rfl
theorem prB_len (n : Nt) (v : List Nat) : (prB n v).length = n.props.length := by
  unfold prB
  rw [List.length_map]
theorem bitsAt_row {n : Nt} {t : List (List Nat)} {j : Nat} {r : List Nat} (h : t[j]? = some r) : bitsAt n t j = prB n (evAll n (stAt n t j) r) := by
  unfold bitsAt valAt
  rw [h]
  rfl
theorem props_in {n : Nt} (hR : NRight n) : ∀ p ∈ n.props, 0 ≤ p.node ∧ p.node < (n.nodes.length : Int) := fun p hp => by
  obtain ⟨-, -, h3⟩ := hR.2.2.2.1.1 p hp
  obtain ⟨k, y, hk, hy, hkl⟩ := opd_pos (show widA n.nodes p.node ≠ 0 by omega)
  omega
set_option maxRecDepth 100000 in
set_option maxHeartbeats 8000000 in
theorem RRun_any (n : Nt) (v tv : Value) (t : List (List Nat)) (w : World) (hs : Sz n) (hn : Hid (NtAt w n v)) (hR : NRight n) (ht : TrOk n t) (htl : t.length ≤ 64) (htv : Hid (RwsR w tv (t.map ofN))) :
    Calls Try.prog 23 #[v, tv] w fun e w' => ∃ v', e = .returned v' ∧ BwsR w' v' (runL n t t.length) ∧ Gr w w' := by
  have hsz := hs
  have HV := Lib.hid (fun (u : World) (hu : Gr w u) => hn.out.gr hu)
  have RS := Lib.hid (fun (u : World) (hu : Gr w u) => RStates_any n v tv t u hsz (Lib.hid (hn.out.gr hu)) hR ht htl (Lib.hid (htv.out.gr hu)))
  obtain ⟨z1, z2, z3, z4, z5⟩ := hs
  obtain ⟨A1, A2, A3, A4, A5, c1, c2, c3, c4, c5, rfl, hc1, h1, h2, h3, h4, h5⟩ := hn.out
  clear h1 h2 h3 h4 h5
  obtain ⟨At, ct, rfl, hct, hrt⟩ := htv.out
  rw [List.length_map] at hct htv RS ⊢
  have HT := Lib.hid hrt
  clear hrt
  obtain ⟨W0, eW, BW, KEEP⟩ : ∃ W0, w.alloc (.cells (bxC n A1 A2 A3 A4 A5 c1 c2 c3 c4 c5) 27) = W0 ∧ Hid (Gr w W0) ∧ Hid (∀ u, Gr W0 u → BxAt u w.heap.size n A1 A2 A3 A4 A5 c1 c2 c3 c4 c5) :=
    ⟨_, rfl, Lib.hid (bel_alloc _ _), Lib.hid fun u hu => bx_gr (bx_new w n A1 A2 A3 A4 A5 c1 c2 c3 c4 c5) (by simp) hu⟩
  obtain ⟨e0, e1, e2, e3, e4⟩ := KEEP.out W0 (Gr.refl _)
  obtain ⟨i0, hi, hz0, hz1, hz2⟩ := info_parts info44
  have HI := Lib.hid (And.intro hi (And.intro hz0 (And.intro hz1 hz2)))
  clear hi hz0 hz1 hz2
  have PIN := Lib.hid (props_in hR)
  go_enter Try.func23, Try.ntmps23
  go_wp2_with fail
  try rw [eW]
  clear eW
  refine (RS.out _ BW.out).mono ?_
  rintro e w1 ⟨v1, rfl, hr1, hg1⟩
  have G1 := Lib.hid hg1
  obtain ⟨As, cs, rfl, hcs, hrs⟩ := hr1
  rw [stsL_len] at hcs ⊢
  have HS1 := Lib.hid hrs
  clear hg1 hrs RS e0 e1 e2 e3 e4
  go_wp2_with fail
  go_loopg [6, 7] t.length (fun g o6 i wr => ∃ (o : Value) (j : Nat) (us : List Value), o = o6 ∧ j + g = t.length ∧ i = .int .i64 j ∧ Hid (BwsU w1 o us (runL n t j) wr))
  case atStart => exact ⟨_, 0, [], rfl, by omega, rfl, Lib.hid (bws_nil w1)⟩
  case round =>
    obtain ⟨o, j, us, rfl, hjg, rfl, HO⟩ := hrel
    have HJ := Lib.hid hjg
    have hjl : j ≤ t.length := by omega
    clear hjg
    have GWR := Lib.hid (show Gr w wr from Gr.trans BW.out (Gr.trans G1.out HO.out.1))
    obtain ⟨e0, e1, e2, e3, e4⟩ := KEEP.out _ (Gr.trans G1.out HO.out.1)
    by_cases hlt : j < t.length
    · have hri : t[j]? = some t[j] := List.getElem?_eq_getElem hlt
      generalize t[j] = r at hri
      obtain ⟨hrl, hrk⟩ := ht r (List.mem_of_getElem? hri)
      obtain ⟨bl, ol, rv, rfl, hbl, f1, hrr⟩ := (HT.out.gr (Gr.trans BW.out G1.out)) j (ofN r) (by rw [List.getElem?_map, hri]; rfl)
      obtain ⟨bs, os, sv, rfl, hbs, f2, hsr⟩ := HS1.out j (ofN (stAt n t j)) (stsL_at (by omega))
      have HRR := Lib.hid hrr
      have HSR := Lib.hid hsr
      have HRI := Lib.hid hri
      have hsl : (stAt n t j).length = n.cells.length := stAt_len n t j
      have HLN := Lib.hid (runL_len n t j)
      have hok := ok_at hR ht j hjl
      have hel : (evAll n (stAt n t j) r).length = n.nodes.length := evL_len _ _ _ _ (Nat.le_refl _)
      have EV := Lib.hid (fun (u : World) (hu : Gr wr u) => REval_any n (ntV A1 A2 A3 A4 A5 n.nodes.length n.ins.length n.cells.length n.props.length n.names.length c1 c2 c3 c4 c5) sv rv (stAt n t j) r u hsz (Lib.hid (HV.out u (Gr.trans GWR.out hu))) hR.1 hR.2.2.1.1 hR.2.1.2 hok hrk hsl hrl (Lib.hid (HSR.out.gr (Gr.trans HO.out.1 hu))) (Lib.hid (HRR.out.gr (Gr.trans HO.out.1 hu))))
      have HBT := Lib.hid (bitsAt_row (n := n) hri)
      generalize evAll n (stAt n t j) r = ev at EV hel HBT
      have PR := Lib.hid (fun (u : World) (hu : Gr wr u) (Av : Option Addr) (cv : Nat) (h : Ints u u.heap.size Av (ofN ev)) => (show Calls Try.prog 41 #[ntV A1 A2 A3 A4 A5 n.nodes.length n.ins.length n.cells.length n.props.length n.names.length c1 c2 c3 c4 c5, .slice Av n.nodes.length cv] u (BitRet u (prB n ev)) from by
        have h9 := RProps_any n _ Av cv ev u hsz (Lib.hid (HV.out u (Gr.trans GWR.out hu))) (by omega) (by rw [hel]; exact PIN.out) (Lib.hid h)
        rw [hel] at h9
        exact h9))
      have j1 : (j : Int) < (t.length : Int) := by omega
      have j2 : (0 : Int) ≤ (j : Int) := by omega
      have j3 : (j : Int) < (t.length : Int) + 1 := by omega
      have j4 : (j : Int) < ((t.length + 1 : Nat) : Int) := by omega
      have SX := Lib.hid (fun (u : World) (hu : Gr w1 u) => (show (fun u : World => u.cell? ⟨w.heap.size, 0, none⟩ = some (.slice A1 n.nodes.length c1) ∧ u.cell? ⟨w.heap.size, 1, none⟩ = some (.slice A2 n.ins.length c2) ∧ u.cell? ⟨w.heap.size, 2, none⟩ = some (.slice A3 n.cells.length c3) ∧ u.cell? ⟨w.heap.size, 3, none⟩ = some (.slice A4 n.props.length c4) ∧ u.cell? ⟨w.heap.size, 4, none⟩ = some (.slice A5 n.names.length c5) ∧ u.cell? ⟨bl, ol + j, none⟩ = some rv ∧ u.cell? ⟨bs, os + j, none⟩ = some sv) u from by
        obtain ⟨e0, e1, e2, e3, e4⟩ := KEEP.out _ (Gr.trans G1.out hu)
        exact ⟨e0, e1, e2, e3, e4, cell_up hu hbl f1, cell_up hu hbs f2⟩))
      clear hri hrr hsr
      go_upto_region 6 with fail
      refine wp_region_held_drew (S := (fun u : World => u.cell? ⟨w.heap.size, 0, none⟩ = some (.slice A1 n.nodes.length c1) ∧ u.cell? ⟨w.heap.size, 1, none⟩ = some (.slice A2 n.ins.length c2) ∧ u.cell? ⟨w.heap.size, 2, none⟩ = some (.slice A3 n.cells.length c3) ∧ u.cell? ⟨w.heap.size, 3, none⟩ = some (.slice A4 n.props.length c4) ∧ u.cell? ⟨w.heap.size, 4, none⟩ = some (.slice A5 n.names.length c5) ∧ u.cell? ⟨bl, ol + j, none⟩ = some rv ∧ u.cell? ⟨bs, os + j, none⟩ = some sv)) (by kernel_rfl) (SX.out _ (Gr.trans HO.out.1 (Gr.drew _))) (fun hHeld => ?_)
      refine wpAnyH_take (i := 0) (oi := { dst := some 17, op := Op.move (Operand.tmp 6), type := 39, pos := "ref.go:54", after := #[], guard := none }) (v := ?_) rfl (by kernel_rfl) (by kernel_rfl) (by kernel_rfl) (fun _ _ _ h => h) (Or.inl ⟨by rfl, ?_⟩) hHeld ?_
      case refine_2 => (intro w hSw; (try dsimp only at hSw); go_simp; try (with_reducible rfl))
      try simp only [Act.put, List.setIfInBounds_toArray, List.set_cons_zero, List.set_cons_succ]
      refine wpAnyH_take (i := 1) (oi := { dst := some 18, op := Op.load 27 (Operand.tmp 2), type := 27, pos := "ref.go:54", after := #[], guard := none }) (v := ?_) rfl (by kernel_rfl) (by kernel_rfl) (by kernel_rfl) (fun _ _ _ h => h) (Or.inl ⟨by rfl, ?_⟩) hHeld ?_
      case refine_2 => (intro w hSw; (try dsimp only at hSw); go_simp; try (with_reducible rfl))
      try simp only [Act.put, List.setIfInBounds_toArray, List.set_cons_zero, List.set_cons_succ]
      refine wpAnyH_take (i := 2) (oi := { dst := some 19, op := Op.load 27 (Operand.tmp 2), type := 27, pos := "ref.go:54", after := #[], guard := none }) (v := ?_) rfl (by kernel_rfl) (by kernel_rfl) (by kernel_rfl) (fun _ _ _ h => h) (Or.inl ⟨by rfl, ?_⟩) hHeld ?_
      case refine_2 => (intro w hSw; (try dsimp only at hSw); go_simp; try (with_reducible rfl))
      try simp only [Act.put, List.setIfInBounds_toArray, List.set_cons_zero, List.set_cons_succ]
      refine wpAnyH_take (i := 3) (oi := { dst := some 20, op := Op.move (Operand.tmp 5), type := 28, pos := "ref.go:54", after := #[], guard := none }) (v := ?_) rfl (by kernel_rfl) (by kernel_rfl) (by kernel_rfl) (fun _ _ _ h => h) (Or.inl ⟨by rfl, ?_⟩) hHeld ?_
      case refine_2 => (intro w hSw; (try dsimp only at hSw); go_simp; try (with_reducible rfl))
      try simp only [Act.put, List.setIfInBounds_toArray, List.set_cons_zero, List.set_cons_succ]
      refine wpAnyH_take (i := 4) (oi := { dst := some 21, op := Op.move (Operand.tmp 7), type := 3, pos := "ref.go:54", after := #[], guard := none }) (v := ?_) rfl (by kernel_rfl) (by kernel_rfl) (by kernel_rfl) (fun _ _ _ h => h) (Or.inl ⟨by rfl, ?_⟩) hHeld ?_
      case refine_2 => (intro w hSw; (try dsimp only at hSw); go_simp; try (with_reducible rfl))
      try simp only [Act.put, List.setIfInBounds_toArray, List.set_cons_zero, List.set_cons_succ]
      refine wpAnyH_take (i := 5) (oi := { dst := some 22, op := Op.indexAddr 28 (Operand.tmp 20) (Operand.tmp 21), type := 0, pos := "ref.go:54", after := #[{ on := 3, ground := Ground.data }, { on := 4, ground := Ground.data }], guard := none }) (v := ?_) rfl (by kernel_rfl) (by kernel_rfl) (by kernel_rfl) (fun _ _ _ h => h) (Or.inl ⟨by rfl, ?_⟩) hHeld ?_
      case refine_2 => (intro w hSw; (try dsimp only at hSw); go_simp; try (with_reducible rfl))
      try simp only [Act.put, List.setIfInBounds_toArray, List.set_cons_zero, List.set_cons_succ]
      refine wpAnyH_take (i := 6) (oi := { dst := some 23, op := Op.load 42 (Operand.tmp 22), type := 42, pos := "ref.go:54", after := #[{ on := 5, ground := Ground.data }], guard := none }) (v := ?_) rfl (by kernel_rfl) (by kernel_rfl) (by kernel_rfl) (fun _ _ _ h => h) (Or.inl ⟨by rfl, ?_⟩) hHeld ?_
      case refine_2 => (intro w hSw; (try dsimp only at hSw); go_simp; try (with_reducible rfl))
      try simp only [Act.put, List.setIfInBounds_toArray, List.set_cons_zero, List.set_cons_succ]
      refine wpAnyH_take (i := 7) (oi := { dst := some 24, op := Op.move (Operand.tmp 1), type := 28, pos := "ref.go:54", after := #[], guard := none }) (v := ?_) rfl (by kernel_rfl) (by kernel_rfl) (by kernel_rfl) (fun _ _ _ h => h) (Or.inl ⟨by rfl, ?_⟩) hHeld ?_
      case refine_2 => (intro w hSw; (try dsimp only at hSw); go_simp; try (with_reducible rfl))
      try simp only [Act.put, List.setIfInBounds_toArray, List.set_cons_zero, List.set_cons_succ]
      refine wpAnyH_take (i := 8) (oi := { dst := some 25, op := Op.move (Operand.tmp 7), type := 3, pos := "ref.go:54", after := #[], guard := none }) (v := ?_) rfl (by kernel_rfl) (by kernel_rfl) (by kernel_rfl) (fun _ _ _ h => h) (Or.inl ⟨by rfl, ?_⟩) hHeld ?_
      case refine_2 => (intro w hSw; (try dsimp only at hSw); go_simp; try (with_reducible rfl))
      try simp only [Act.put, List.setIfInBounds_toArray, List.set_cons_zero, List.set_cons_succ]
      refine wpAnyH_take (i := 9) (oi := { dst := some 26, op := Op.indexAddr 28 (Operand.tmp 24) (Operand.tmp 25), type := 0, pos := "ref.go:54", after := #[{ on := 7, ground := Ground.data }, { on := 8, ground := Ground.data }], guard := none }) (v := ?_) rfl (by kernel_rfl) (by kernel_rfl) (by kernel_rfl) (fun _ _ _ h => h) (Or.inl ⟨by rfl, ?_⟩) hHeld ?_
      case refine_2 => (intro w hSw; (try dsimp only at hSw); go_simp; try (with_reducible rfl))
      try simp only [Act.put, List.setIfInBounds_toArray, List.set_cons_zero, List.set_cons_succ]
      refine wpAnyH_take (i := 10) (oi := { dst := some 27, op := Op.load 42 (Operand.tmp 26), type := 42, pos := "ref.go:54", after := #[{ on := 9, ground := Ground.data }], guard := none }) (v := ?_) rfl (by kernel_rfl) (by kernel_rfl) (by kernel_rfl) (fun _ _ _ h => h) (Or.inl ⟨by rfl, ?_⟩) hHeld ?_
      case refine_2 => (intro w hSw; (try dsimp only at hSw); go_simp; try (with_reducible rfl))
      try simp only [Act.put, List.setIfInBounds_toArray, List.set_cons_zero, List.set_cons_succ]
      refine wpAnyH_ready (rs := [11]) (by kernel_rfl) (by simp) ?_
      refine AllReadyH.cons (o := { dst := some 28, op := Op.call { callee := Callee.value (Operand.func 42), args := #[Operand.tmp 19, Operand.tmp 23, Operand.tmp 27], argTypes := #[27, 42, 42] }, type := 42, pos := "ref.go:54", after := #[{ on := 2, ground := Ground.data }, { on := 6, ground := Ground.data }, { on := 10, ground := Ground.data }], guard := none }) rfl (fun K hK => ?_) AllReadyH.nil
      go_simp
      refine (EV.out _ (Gr.drew _)).mono ?_
      rintro e w5 ⟨v5, rfl, hi5, hg5', hf5⟩
      have hg5 : Gr wr w5 := Gr.trans (Gr.drew _) hg5'
      obtain ⟨A5v, c5v, hv5, -, hiv5⟩ := id hi5
      rw [ofN_len, hel] at hv5
      subst hv5
      refine hK.out _ _ (SX.out _ (Gr.trans HO.out.1 hg5)) (fun hHeld => ?_)
      clear hK K hg5'
      try simp only [Act.put, List.setIfInBounds_toArray, List.set_cons_zero, List.set_cons_succ]
      refine wpAnyH_ready (rs := [12]) (by kernel_rfl) (by simp) ?_
      refine AllReadyH.cons (o := { dst := some 29, op := Op.call { callee := Callee.value (Operand.func 41), args := #[Operand.tmp 18, Operand.tmp 28], argTypes := #[27, 42] }, type := 44, pos := "ref.go:54", after := #[{ on := 1, ground := Ground.data }, { on := 11, ground := Ground.data }, { on := 11, ground := Ground.chain }], guard := none }) rfl (fun K hK => ?_) AllReadyH.nil
      go_simp
      refine (PR.out _ hg5 A5v c5v hiv5).mono ?_
      rintro e w6 ⟨v6, rfl, hi6, hg6', hf6⟩
      have hg6 : Gr wr w6 := Gr.trans hg5 hg6'
      obtain ⟨Ab, cb, hv6, -⟩ := id hi6
      rw [prB_len] at hv6
      subst hv6
      refine hK.out _ _ (SX.out _ (Gr.trans HO.out.1 hg6)) (fun hHeld => ?_)
      clear hK K
      try simp only [Act.put, List.setIfInBounds_toArray, List.set_cons_zero, List.set_cons_succ]
      refine wpAnyH_ready (rs := [13]) (by kernel_rfl) (by simp) ?_
      refine AllReadyH.cons (o := { dst := some 30, op := Op.buildSlice 39 1 #[(0, Operand.tmp 29)], type := 39, pos := "ref.go:54", after := #[{ on := 12, ground := Ground.data }], guard := none }) rfl (fun K hK => ?_) AllReadyH.nil
      go_simp
      refine hK.out _ _ (SX.out _ (Gr.trans HO.out.1 (Gr.trans hg6 (bel_alloc w6 (.cells #[.slice Ab n.props.length cb] 44))))) (fun hHeld => ?_)
      clear hK K
      try simp only [Act.put, List.setIfInBounds_toArray, List.set_cons_zero, List.set_cons_succ]
      refine wpAnyH_ready (rs := [14]) (by kernel_rfl) (by simp) ?_
      refine AllReadyH.cons (o := { dst := some 31, op := Op.call { callee := Callee.builtin Builtin.append, args := #[Operand.tmp 17, Operand.tmp 30], argTypes := #[39, 39] }, type := 39, pos := "ref.go:54", after := #[{ on := 0, ground := Ground.data }, { on := 13, ground := Ground.data }, { on := 12, ground := Ground.chain }], guard := none }) rfl (fun K hK => ?_) AllReadyH.nil
      have HI6 := Lib.hid hi6
      have HF6 := Lib.hid hf6
      have H65 := Lib.hid hg5.size
      have HA := Lib.hid ((HO.out.gr hg6).gr (bel_alloc w6 (.cells #[.slice Ab n.props.length cb] 44)))
      refine step_append_lies _ rfl _ _ 39 rfl w1.heap.size 44 i0 (.slice none 0 0) 1 24 Try.underlying39 HI.out.1 HI.out.2.1 HI.out.2.2.1 HI.out.2.2.2 rfl (by decide) o _ us rfl HA.out.2.1 ⟨w6.heap.size, 0, none⟩ 1 1 [.slice Ab n.props.length cb] rfl rfl (World.news_of_block (heap_new' w6 _)) (fun u hu => by obtain rfl := List.mem_singleton.1 hu; rfl) (by decide) (by rw [HLN.out]; unfold maxLen; omega) (by rw [HLN.out]; omega) HA.out.1.size _ rfl ?_
      intro gz cz w7 hown hgrow hor hlt3
      have HN := Lib.hid (show BwsU w1 (.slice (some ⟨gz, 0, none⟩) ((runL n t j).length + 1) cz) (us ++ [.slice Ab n.props.length cb]) (runL n t j ++ [bitsAt n t j]) w7 from by rw [HBT.out]; exact bws_step HA.out (HI6.out.gr (bel_alloc w6 _)) rfl (fun _ b hb e => by have h1 := HF6.out b hb; have h2 := (HO.out.2.1.lt b e.symm).2; have h3 := H65.out; omega) hgrow hor hown)
      refine hK.out _ _ (SX.out _ HN.out.1) (fun hHeld => ?_)
      clear hK K hown hgrow hor hlt3
      try simp only [Act.put, List.setIfInBounds_toArray, List.set_cons_zero, List.set_cons_succ]
      refine wpAnyH_take (i := 15) (oi := { dst := some 6, op := Op.assign (Operand.tmp 31), type := 39, pos := "ref.go:54", after := #[{ on := 14, ground := Ground.data }, { on := 14, ground := Ground.chain }, { on := 0, ground := Ground.phase }, { on := 1, ground := Ground.phase }, { on := 2, ground := Ground.phase }, { on := 3, ground := Ground.phase }, { on := 4, ground := Ground.phase }, { on := 5, ground := Ground.phase }, { on := 6, ground := Ground.phase }, { on := 7, ground := Ground.phase }, { on := 8, ground := Ground.phase }, { on := 9, ground := Ground.phase }, { on := 10, ground := Ground.phase }, { on := 11, ground := Ground.phase }, { on := 12, ground := Ground.phase }, { on := 13, ground := Ground.phase }, { on := 14, ground := Ground.phase }], guard := none }) (v := ?_) rfl (by kernel_rfl) (by kernel_rfl) (by kernel_rfl) (fun _ _ _ h => h) (Or.inl ⟨by rfl, ?_⟩) hHeld ?_
      case refine_2 => (intro w hSw; (try dsimp only at hSw); go_simp; try (with_reducible rfl))
      try simp only [Act.put, List.setIfInBounds_toArray, List.set_cons_zero, List.set_cons_succ]
      refine wpAnyH_done (by kernel_rfl) ?_ _
      clear e0 e1 e2 e3 e4 f1 f2
      go_wp2_with fail
      go_roundg (gk - 1)
      case measure => have := HJ.out; omega
      case rel =>
        refine ⟨_, j + 1, us ++ [.slice Ab n.props.length cb], rfl, by have := HJ.out; omega, by go_num, Lib.hid ?_⟩
        have h9 := HN.out
        rw [runL_succ]
        exact h9
    · obtain rfl : j = t.length := by omega
      have j1 : ¬ (t.length : Int) < (t.length : Int) := by omega
      have HE := Lib.hid (bws_own HO.out)
      have GE := Lib.hid (Gr.trans BW.out (Gr.trans G1.out HO.out.1))
      go_wp2_with fail
      go_ret
      exact ⟨_, rfl, HE.out, GE.out⟩
end Go.Proofs.Ytmnblcnhbafcpaa
