/-
  SameModule, WALKED where both are one.
-/
import Derived.Test.YtccjbpghpoblhaaDoorK31
namespace Go.Proofs.YtccjbpghpoblhaaDoor
open Go.RowKit

set_option maxRecDepth 100000 in
set_option maxHeartbeats 40000000 in
theorem SameModule_yes (m : Mo) (cs cs' : List Value) (F F' : Nat → Prop) (w : World) (h : Hid (MoAt w F m cs)) (h' : Hid (MoAt w F' m cs')) :
    Calls Tryd.prog 17 #[.agg cs.toArray, .agg cs'.toArray] w fun e w' => e = .returned (.bool true) ∧ Gr w w' := by
  obtain ⟨pv, qv, iv, rfl, m1, m2, m3⟩ := h.out
  obtain ⟨pv', qv', iv', rfl, m1', m2', m3'⟩ := h'.out
  obtain ⟨css, m3, hcl, hcs⟩ := m3
  obtain ⟨css', m3', hcl', hcs'⟩ := m3'
  obtain ⟨pA, pC, rfl⟩ := row_form m1
  obtain ⟨pA', pC', rfl⟩ := row_form m1'
  obtain ⟨qA, qC, rfl⟩ := row_form m2
  obtain ⟨qA', qC', rfl⟩ := row_form m2'
  obtain ⟨iA, iC, rfl⟩ := row_form m3
  obtain ⟨iA', iC', rfl⟩ := row_form m3'
  have x1 := row_max m1
  have x2 := row_max m2
  have x3 := row_max m3
  unfold maxLen at x1 x2 x3
  have HP := Lib.hid (And.intro m1 m1')
  have HQ := Lib.hid (And.intro m2 m2')
  have HI := Lib.hid (And.intro (And.intro m3 (And.intro hcl hcs)) (And.intro m3' (And.intro hcl' hcs')))
  clear m1 m1' m2 m2' m3 m3' hcl hcl' hcs hcs' h h'
  go_enter Tryd.func17, Tryd.ntmps17
  go_upto_region 1 with fail
  obtain ⟨W, eW, GW, CA, CB⟩ : ∃ W, (w.alloc (.cells #[.string (str m.name), .slice pA m.params.length pC, .slice qA m.ports.length qC, .slice iA m.items.length iC] 48)).alloc (.cells #[.string (str m.name), .slice pA' m.params.length pC', .slice qA' m.ports.length qC', .slice iA' m.items.length iC'] 48) = W ∧ Hid (Gr w W) ∧ Hid (W.heap[w.heap.size]? = some (.cells #[.string (str m.name), .slice pA m.params.length pC, .slice qA m.ports.length qC, .slice iA m.items.length iC] 48 (0, 0))) ∧ Hid (W.heap[w.heap.size + 1]? = some (.cells #[.string (str m.name), .slice pA' m.params.length pC', .slice qA' m.ports.length qC', .slice iA' m.items.length iC'] 48 (0, 0))) := by
    refine ⟨_, rfl, Lib.hid ((Gr.alloc _ _).trans (Gr.alloc _ _)), Lib.hid ((Below.heap_alloc _ _ _ (by simp)).trans (new_at w _)), Lib.hid ?_⟩
    have := new_at (w.alloc (.cells #[.string (str m.name), .slice pA m.params.length pC, .slice qA m.ports.length qC, .slice iA m.items.length iC] 48)) (.cells #[.string (str m.name), .slice pA' m.params.length pC', .slice qA' m.ports.length qC', .slice iA' m.items.length iC'] 48)
    simpa using this
  rw [eW]
  clear eW
  have AT := Lib.hid (show ∀ (u : World), Gr W u → (u.cell? ⟨w.heap.size, 0, none⟩ = some (.string (str m.name)) ∧ u.cell? ⟨w.heap.size, 1, none⟩ = some (.slice pA m.params.length pC) ∧ u.cell? ⟨w.heap.size, 2, none⟩ = some (.slice qA m.ports.length qC) ∧ u.cell? ⟨w.heap.size, 3, none⟩ = some (.slice iA m.items.length iC) ∧ u.cell? ⟨w.heap.size + 1, 0, none⟩ = some (.string (str m.name)) ∧ u.cell? ⟨w.heap.size + 1, 1, none⟩ = some (.slice pA' m.params.length pC') ∧ u.cell? ⟨w.heap.size + 1, 2, none⟩ = some (.slice qA' m.ports.length qC') ∧ u.cell? ⟨w.heap.size + 1, 3, none⟩ = some (.slice iA' m.items.length iC')) from fun u hu => by
    have a := hu.keep CA.out
    have b := hu.keep CB.out
    refine ⟨?_, ?_, ?_, ?_, ?_, ?_, ?_, ?_⟩ <;> first | (rw [cell_at a]; rfl) | (rw [cell_at b]; rfl))
  obtain ⟨k0, k1, k2, k3, q0, q1, q2, q3⟩ := AT.out W (Gr.refl _)
  go_wp2_with fail
  clear k0 k1 k2 k3 q0 q1 q2 q3
  go_loopg [5] m.params.length (fun g x wr => ∃ j : Nat, j + g = m.params.length ∧ x = .int .i64 (j : Nat) ∧ Hid (Gr W wr))
  case atStart => exact ⟨0, by omega, rfl, Lib.hid (Gr.refl _)⟩
  case round =>
    obtain ⟨j, hj, rfl, GR⟩ := hrel
    have HJ := Lib.hid hj
    clear hj
    obtain ⟨k0, k1, k2, k3, q0, q1, q2, q3⟩ := AT.out wr GR.out
    by_cases hlt : j < m.params.length
    · have hd1 : ((j : Int) < (m.params.length : Int)) := by omega
      have hd0 : (0 : Int) ≤ (j : Int) := by omega
      obtain ⟨d, hd⟩ : ∃ d, m.params[j]? = some d := ⟨_, List.getElem?_eq_getElem hlt⟩
      have P1 := HP.out.1.1
      have P2 := HP.out.2.1
      rw [List.map_eq_flatMap] at P1 P2
      obtain ⟨g, cap, hv, _, hgl, c0⟩ := row_cell (f := fun l => [Value.string (str l)]) (size := 1) (fun _ => rfl) P1 (j := 0) hd (by omega)
      obtain ⟨g', cap', hv', _, hgl', c0'⟩ := row_cell (f := fun l => [Value.string (str l)]) (size := 1) (fun _ => rfl) P2 (j := 0) hd (by omega)
      have GG := GW.out.trans GR.out
      rw [Nat.mul_one, Nat.add_zero] at c0 c0'
      have y0 : wr.cell? ⟨g, j, none⟩ = some (.string (str d)) := (World.cell?_of_block (a := ⟨g, j, none⟩) (GG.block g hgl (by simp))).trans c0
      have y0' : wr.cell? ⟨g', j, none⟩ = some (.string (str d)) := (World.cell?_of_block (a := ⟨g', j, none⟩) (GG.block g' hgl' (by simp))).trans c0'
      injection hv with hv _ hw
      injection hv' with hv' _ hw'
      subst hv hv' hw hw'
      clear c0 c0' GG P1 P2 k2 k3 q2 q3
      go_wp2_with fail
      go_quiet (fail)
      have G4 := Lib.hid (GR.out.trans (Gr.drewN wr nq))
      go_wp2_with fail
      go_roundg (gk - 1)
      case measure => have := HJ.out; omega
      case rel => exact ⟨j + 1, by have := HJ.out; omega, by go_num, G4⟩
    · have hd1 : ¬ ((j : Int) < (m.params.length : Int)) := by omega
      go_wp2_with fail
      clear k0 k1 k2 k3 q0 q1 q2 q3 HJ
      go_loopg [6] m.ports.length (fun g x wr => ∃ j : Nat, j + g = m.ports.length ∧ x = .int .i64 (j : Nat) ∧ Hid (Gr W wr))
      case atStart => exact ⟨0, by omega, rfl, GR⟩
      case round =>
        obtain ⟨j2, hj, rfl, GR2⟩ := hrel
        have HJ := Lib.hid hj
        clear hj
        obtain ⟨k0, k1, k2, k3, q0, q1, q2, q3⟩ := AT.out _ GR2.out
        by_cases hlt2 : j2 < m.ports.length
        · have hd1 : ((j2 : Int) < (m.ports.length : Int)) := by omega
          have hd0 : (0 : Int) ≤ (j2 : Int) := by omega
          obtain ⟨x, hx⟩ : ∃ x, m.ports[j2]? = some x := ⟨_, List.getElem?_eq_getElem hlt2⟩
          have hs4 : ∀ a, (portCells a).length = 4 := fun a => rfl
          have C := fun k (hk : k < 4) => row_cell hs4 HQ.out.1.1 (j := k) hx hk
          have C' := fun k (hk : k < 4) => row_cell hs4 HQ.out.2.1 (j := k) hx hk
          obtain ⟨g, cap, hv, _, hgl, _⟩ := C 0 (by omega)
          obtain ⟨g', cap', hv', _, hgl', _⟩ := C' 0 (by omega)
          have GG := GW.out.trans GR2.out
          have D : ∀ k, k < 4 → World.cell? _ ⟨g, j2 * 4 + k, none⟩ = (portCells x)[k]? := fun k hk => by
            obtain ⟨g1, cap1, hv1, _, _, c1⟩ := C k hk
            have : g = g1 := by rw [hv] at hv1; simp at hv1; exact hv1.1
            subst this
            exact (World.cell?_of_block (a := ⟨g, j2 * 4 + k, none⟩) (GG.block g hgl (by simp))).trans c1
          have D' : ∀ k, k < 4 → World.cell? _ ⟨g', j2 * 4 + k, none⟩ = (portCells x)[k]? := fun k hk => by
            obtain ⟨g1, cap1, hv1, _, _, c1⟩ := C' k hk
            have : g' = g1 := by rw [hv'] at hv1; simp at hv1; exact hv1.1
            subst this
            exact (World.cell?_of_block (a := ⟨g', j2 * 4 + k, none⟩) (GG.block g' hgl' (by simp))).trans c1
          have y0 := D 0 (by omega)
          have y1 := D 1 (by omega)
          have y2 := D 2 (by omega)
          have y3 := D 3 (by omega)
          have z0 := D' 0 (by omega)
          have z1 := D' 1 (by omega)
          have z2 := D' 2 (by omega)
          have z3 := D' 3 (by omega)
          simp only [portCells, List.getElem?_cons_zero, List.getElem?_cons_succ, Nat.add_zero] at y0 y1 y2 y3 z0 z1 z2 z3
          injection hv with hv _ hw
          injection hv' with hv' _ hw'
          subst hv hv' hw hw'
          clear C C' D D' hs4 GG k0 k1 k3 q0 q1 q3
          go_wp2_with fail
          go_quiet (fail)
          have G4 := Lib.hid (GR2.out.trans (Gr.drewN _ nq))
          go_wp2_with fail
          go_roundg (gk - 1)
          case measure => have := HJ.out; omega
          case rel => exact ⟨j2 + 1, by have := HJ.out; omega, by go_num, G4⟩
        · have hd1 : ¬ ((j2 : Int) < (m.ports.length : Int)) := by omega
          go_wp2_with fail
          clear k0 k1 k2 k3 q0 q1 q2 q3 HJ
          go_loopg [7] m.items.length (fun g x wr => ∃ j : Nat, j + g = m.items.length ∧ x = .int .i64 (j : Nat) ∧ Hid (Gr W wr))
          case atStart => exact ⟨0, by omega, rfl, GR2⟩
          case round =>
            obtain ⟨j3, hj, rfl, GR3⟩ := hrel
            have HJ := Lib.hid hj
            clear hj
            obtain ⟨k0, k1, k2, k3, q0, q1, q2, q3⟩ := AT.out _ GR3.out
            clear k0 k1 k2 q0 q1 q2
            by_cases hlt3 : j3 < m.items.length
            · have hd1 : ((j3 : Int) < (m.items.length : Int)) := by omega
              have hd0 : (0 : Int) ≤ (j3 : Int) := by omega
              obtain ⟨b, hb⟩ : ∃ b, m.items[j3]? = some b := ⟨_, List.getElem?_eq_getElem hlt3⟩
              obtain ⟨c, hc, hx⟩ := HI.out.1.2.2 j3 b hb
              obtain ⟨c', hc', hx'⟩ := HI.out.2.2.2 j3 b hb
              have l42 : ∀ c ∈ css, c.length = 42 := css_len HI.out.1.2.1 HI.out.1.2.2 (fun _ _ h => it_len h)
              have l42' : ∀ c ∈ css', c.length = 42 := css_len HI.out.2.2.1 HI.out.2.2.2 (fun _ _ h => it_len h)
              obtain ⟨g, cap, hv, _, hgl, hr⟩ := row_range HI.out.1.1 HI.out.1.2.1 l42 hc
              obtain ⟨g', cap', hv', _, hgl', hr'⟩ := row_range HI.out.2.1 HI.out.2.2.1 l42' hc'
              injection hv with hv1 _ hv3
              injection hv' with hv1' _ hv3'
              subst hv1 hv3 hv1' hv3'
              have GG := GW.out.trans GR3.out
              have SAME := Lib.hid (fun (u : World) (hu : Gr wr u) => SameItem_yes b _ _ F F' u (Lib.hid (hx.keep (fun _ h => h) (fun _ _ _ ho => (GG.trans hu).keep ho))) (Lib.hid (hx'.keep (fun _ h => h) (fun _ _ _ ho => (GG.trans hu).keep ho))))
              have KEEP := Lib.hid (show ∀ u, Gr wr u → (u.cell? ⟨w.heap.size, 3, none⟩ = some (.slice (some ⟨g, 0, none⟩) m.items.length iC) ∧ u.cell? ⟨w.heap.size + 1, 3, none⟩ = some (.slice (some ⟨g', 0, none⟩) m.items.length iC') ∧ u.rangeAt g (j3 * 42) c ∧ u.rangeAt g' (j3 * 42) c') from fun u hu => by
                obtain ⟨_, _, _, k3, _, _, _, q3⟩ := AT.out u (GR3.out.trans hu)
                exact ⟨k3, q3, range_gr hr hgl (GG.trans hu), range_gr hr' hgl' (GG.trans hu)⟩)
              have HS := Lib.hid (show (Tryd.prog.info? 59).map (·.size) = some c.length by rw [size59, it_len hx])
              have HS' := Lib.hid (show (Tryd.prog.info? 59).map (·.size) = some c'.length by rw [size59, it_len hx'])
              clear hx hx' hr hr' hc hc' GG hb l42 l42'
              go_wp2_with fail
              refine wp_region_held_drew (S := fun u => u.cell? ⟨w.heap.size, 3, none⟩ = some (.slice (some ⟨g, 0, none⟩) m.items.length iC) ∧ u.cell? ⟨w.heap.size + 1, 3, none⟩ = some (.slice (some ⟨g', 0, none⟩) m.items.length iC') ∧ u.rangeAt g (j3 * 42) c ∧ u.rangeAt g' (j3 * 42) c') (by kernel_rfl) ?_ (fun hHeld => ?_)
              · exact KEEP.out _ (Gr.drew _)
              refine wpAnyH_take (i := 0) (v := .pointer (some ⟨w.heap.size, 3, none⟩)) rfl (by kernel_rfl) (by kernel_rfl) (by kernel_rfl) (fun _ _ _ h => h) (Or.inl ⟨by rfl, by intro w hSw; (try dsimp only at hSw); go_simp; try rfl⟩) hHeld ?_
              try simp only [Act.put, List.setIfInBounds_toArray]
              refine wpAnyH_take (i := 1) (v := .slice (some ⟨g, 0, none⟩) m.items.length iC) rfl (by kernel_rfl) (by kernel_rfl) (by kernel_rfl) (fun _ _ _ h => h) (Or.inl ⟨by rfl, by intro w hSw; (try dsimp only at hSw); go_simp; try rfl⟩) hHeld ?_
              try simp only [Act.put]
              refine wpAnyH_take (i := 2) (v := .int .i64 (j3 : Nat)) rfl (by kernel_rfl) (by kernel_rfl) (by kernel_rfl) (fun _ _ _ h => h) (Or.inl ⟨by rfl, by intro w hSw; (try dsimp only at hSw); go_simp; try rfl⟩) hHeld ?_
              try simp only [Act.put]
              refine wpAnyH_take (i := 3) (v := .pointer (some ⟨g, j3 * 42, none⟩)) rfl (by kernel_rfl) (by kernel_rfl) (by kernel_rfl) (fun _ _ _ h => h) (Or.inl ⟨by rfl, by intro w hSw; (try dsimp only at hSw); go_simp; try rfl⟩) hHeld ?_
              try simp only [Act.put]
              refine wpAnyH_take (i := 4) (v := .agg c.toArray) rfl (by kernel_rfl) (by kernel_rfl) (by kernel_rfl) (fun _ _ _ h => h) (yieldsIf_load_mid (by rfl) 59 _ rfl g (j3 * 42) rfl c _ (fun _ hu => hu.2.2.1) Tryd.underlying59 rfl HS.out) hHeld ?_
              try simp only [Act.put]
              refine wpAnyH_take (i := 5) (v := .pointer (some ⟨w.heap.size + 1, 3, none⟩)) rfl (by kernel_rfl) (by kernel_rfl) (by kernel_rfl) (fun _ _ _ h => h) (Or.inl ⟨by rfl, by intro w hSw; (try dsimp only at hSw); go_simp; try rfl⟩) hHeld ?_
              try simp only [Act.put]
              refine wpAnyH_take (i := 6) (v := .slice (some ⟨g', 0, none⟩) m.items.length iC') rfl (by kernel_rfl) (by kernel_rfl) (by kernel_rfl) (fun _ _ _ h => h) (Or.inl ⟨by rfl, by intro w hSw; (try dsimp only at hSw); go_simp; try rfl⟩) hHeld ?_
              try simp only [Act.put]
              refine wpAnyH_take (i := 7) (v := .int .i64 (j3 : Nat)) rfl (by kernel_rfl) (by kernel_rfl) (by kernel_rfl) (fun _ _ _ h => h) (Or.inl ⟨by rfl, by intro w hSw; (try dsimp only at hSw); go_simp; try rfl⟩) hHeld ?_
              try simp only [Act.put]
              refine wpAnyH_take (i := 8) (v := .pointer (some ⟨g', j3 * 42, none⟩)) rfl (by kernel_rfl) (by kernel_rfl) (by kernel_rfl) (fun _ _ _ h => h) (Or.inl ⟨by rfl, by intro w hSw; (try dsimp only at hSw); go_simp; try rfl⟩) hHeld ?_
              try simp only [Act.put]
              refine wpAnyH_take (i := 9) (v := .agg c'.toArray) rfl (by kernel_rfl) (by kernel_rfl) (by kernel_rfl) (fun _ _ _ h => h) ?yy hHeld ?_
              case yy =>
                refine yieldsIf_load_mid (by rfl) 59 _ rfl g' (j3 * 42) ?ee c' _ ?rr Tryd.underlying59 rfl HS'.out
                case ee => go_simp
                case rr => exact fun _ hu => hu.2.2.2
              try simp only [Act.put]
              refine wpAnyH_ready (rs := [10]) (by kernel_rfl) (by simp) ?_
              refine AllReadyH.cons rfl (fun K hK => ?_) AllReadyH.nil
              go_simp
              refine (SAME.out _ (Gr.drew _)).mono ?_
              rintro e u ⟨rfl, hu0⟩
              have HU := Lib.hid ((Gr.drew wr).trans hu0)
              go_simp
              refine hK.out _ _ (KEEP.out _ HU.out) (fun hHeld => ?_)
              clear hK K
              try simp only [Act.put, List.setIfInBounds_toArray, List.set_cons_zero, List.set_cons_succ]
              refine wpAnyH_take (i := 11) (v := .bool false) rfl (by kernel_rfl) (by kernel_rfl) (by kernel_rfl) (fun _ _ _ h => h) (Or.inl ⟨by rfl, by intro w hSw; (try dsimp only at hSw); go_simp; try rfl⟩) hHeld ?_
              try simp only [Act.put, List.setIfInBounds_toArray]
              refine wpAnyH_done (by kernel_rfl) ?_ _
              go_wp2_with fail
              go_roundg (gk - 1)
              case measure => have := HJ.out; omega
              case rel => exact ⟨j3 + 1, by have := HJ.out; omega, by go_num, Lib.hid (GR3.out.trans HU.out)⟩
            · have hd1 : ¬ ((j3 : Int) < (m.items.length : Int)) := by omega
              go_wp2_with fail
              go_ret
              exact ⟨rfl, GW.out.trans GR3.out⟩

end Go.Proofs.YtccjbpghpoblhaaDoor

