/-
  SameFaults, WALKED where both are one.
-/
import Derived.Test.YtccjbpghpoblhaaDoorK30
/-
  SameItem, WALKED where both are one.
-/
namespace Go.Proofs.YtccjbpghpoblhaaDoor
open Go.RowKit

theorem row_max {w : World} {F : Nat → Prop} {e : TypeId} {size n : Nat} {v : Value} {xs : List Value} (h : RowAt w F e size v n xs) : n ≤ maxLen := by
  rcases h.1.2 with ⟨_, h1⟩ | ⟨g, cap, cur, hv, hb, hh, h1, h2, _⟩
  · omega
  · omega

/-- the first nine cells of an item -/
abbrev It9 (w : World) (g : Nat) (i : It) (av bv : Value) : Prop :=
  w.cell? ⟨g, 0, none⟩ = some (.int .i64 (i.kind : Nat)) ∧ w.cell? ⟨g, 1, none⟩ = some (.string (str i.name)) ∧ w.cell? ⟨g, 2, none⟩ = some (.string (str i.wid.1)) ∧ w.cell? ⟨g, 3, none⟩ = some (.int .i64 (i.wid.2 : Nat)) ∧ w.cell? ⟨g, 4, none⟩ = some (.string (str i.val.1)) ∧ w.cell? ⟨g, 5, none⟩ = some (.int .i64 (i.val.2 : Nat)) ∧ w.cell? ⟨g, 6, none⟩ = some (.string (str i.mod)) ∧ w.cell? ⟨g, 7, none⟩ = some av ∧ w.cell? ⟨g, 8, none⟩ = some bv
theorem it9 {w : World} {g : Nat} {i : It} {av bv : Value} {ce ca ci cs : List Value} (e : cs = itCells i av bv ce ca ci) (h : w.heap[g]? = some (.cells cs.toArray 59 (0, 0))) : It9 w g i av bv := by
  subst e
  refine ⟨?_, ?_, ?_, ?_, ?_, ?_, ?_, ?_, ?_⟩ <;> (rw [cell_at h]; rfl)
/-- and its three expressions -/
theorem it_range {w : World} {g : Nat} {i : It} {av bv : Value} {ce ca ci cs : List Value} (e : cs = itCells i av bv ce ca ci) (h : w.heap[g]? = some (.cells cs.toArray 59 (0, 0))) (l1 : ce.length = 11) (l2 : ca.length = 11) (l3 : ci.length = 11) : w.rangeAt g 9 ce ∧ w.rangeAt g 20 ca ∧ w.rangeAt g 31 ci := by
  have hc : ∀ o, w.cell? ⟨g, o, none⟩ = cs[o]? := fun o => by rw [cell_at h]; simp
  have e1 : cs = ([.int .i64 (i.kind : Nat), .string (str i.name), .string (str i.wid.1), .int .i64 (i.wid.2 : Nat), .string (str i.val.1), .int .i64 (i.val.2 : Nat), .string (str i.mod), av, bv] : List Value) ++ (ce ++ (ca ++ ci)) := e
  refine ⟨fun j u hu => ?_, fun j u hu => ?_, fun j u hu => ?_⟩
  · have hj : j < ce.length := (List.getElem?_eq_some_iff.1 hu).1
    rw [hc, e1, List.getElem?_append_right (by simp), List.getElem?_append_left (by simp; omega)]
    simpa using hu
  · have hj : j < ca.length := (List.getElem?_eq_some_iff.1 hu).1
    rw [hc, e1, List.getElem?_append_right (by simp; omega), List.getElem?_append_right (by simp [l1]; omega), List.getElem?_append_left (by simp [l1]; omega)]
    rw [← hu]; congr 1; simp [l1]; omega
  · have hj : j < ci.length := (List.getElem?_eq_some_iff.1 hu).1
    rw [hc, e1, List.getElem?_append_right (by simp; omega), List.getElem?_append_right (by simp [l1]; omega), List.getElem?_append_right (by simp [l1, l2]; omega)]
    rw [← hu]; congr 1; simp [l1, l2]; omega

/-- the twelve cells of a bind -/
abbrev Bd12 (w : World) (g o : Nat) (l : List UInt8) (hd : Hd) (v : Value) : Prop :=
  w.cell? ⟨g, o, none⟩ = some (.string (str l)) ∧ w.cell? ⟨g, o + 1, none⟩ = some (.int .i64 (hd.op : Nat)) ∧ w.cell? ⟨g, o + 2, none⟩ = some (.string (str hd.val.1)) ∧ w.cell? ⟨g, o + 3, none⟩ = some (.int .i64 (hd.val.2 : Nat)) ∧ w.cell? ⟨g, o + 4, none⟩ = some (.string (str hd.wid.1)) ∧ w.cell? ⟨g, o + 5, none⟩ = some (.int .i64 (hd.wid.2 : Nat)) ∧ w.cell? ⟨g, o + 6, none⟩ = some (.string (str hd.hi.1)) ∧ w.cell? ⟨g, o + 7, none⟩ = some (.int .i64 (hd.hi.2 : Nat)) ∧ w.cell? ⟨g, o + 8, none⟩ = some (.string (str hd.lo.1)) ∧ w.cell? ⟨g, o + 9, none⟩ = some (.int .i64 (hd.lo.2 : Nat)) ∧ w.cell? ⟨g, o + 10, none⟩ = some (.string (str hd.name)) ∧ w.cell? ⟨g, o + 11, none⟩ = some v
theorem bd12 {w : World} {g o : Nat} {l : List UInt8} {hd : Hd} {v : Value} (h : w.rangeAt g o (.string (str l) :: hdCells hd v)) : Bd12 w g o l hd v :=
  ⟨h 0 _ rfl, h 1 _ rfl, h 2 _ rfl, h 3 _ rfl, h 4 _ rfl, h 5 _ rfl, h 6 _ rfl, h 7 _ rfl, h 8 _ rfl, h 9 _ rfl, h 10 _ rfl, h 11 _ rfl⟩

set_option maxRecDepth 100000 in
set_option maxHeartbeats 4000000 in
theorem SameItem_yes (i : It) (cs cs' : List Value) (F F' : Nat → Prop) (w : World) (h : Hid (ItAt w F i cs)) (h' : Hid (ItAt w F' i cs')) :
    Calls Tryd.prog 18 #[.agg cs.toArray, .agg cs'.toArray] w fun e w' => e = .returned (.bool true) ∧ Gr w w' := by
  have hl := it_len h.out
  have hl' := it_len h'.out
  obtain ⟨av, bv, ce, ca, ci, hcs, m1, m2, m5, m6, m7⟩ := h.out
  obtain ⟨av', bv', ce', ca', ci', hcs', m1', m2', m5', m6', m7'⟩ := h'.out
  obtain ⟨bss, m2, hbl, hbs⟩ := m2
  obtain ⟨bss', m2', hbl', hbs'⟩ := m2'
  obtain ⟨aA, aC, rfl⟩ := row_form m1
  obtain ⟨aA', aC', rfl⟩ := row_form m1'
  obtain ⟨bA, bC, rfl⟩ := row_form m2
  obtain ⟨bA', bC', rfl⟩ := row_form m2'
  have HCS := Lib.hid (And.intro hcs hcs')
  have HL := Lib.hid (And.intro hl hl')
  have HA := Lib.hid (And.intro m1 m1')
  have HB := Lib.hid (And.intro (And.intro m2 (And.intro hbl hbs)) (And.intro m2' (And.intro hbl' hbs')))
  have HX := Lib.hid (And.intro (And.intro m5 (And.intro m6 m7)) (And.intro m5' (And.intro m6' m7')))
  clear hcs hcs' hl hl' m1 m1' m2 m2' hbl hbl' hbs hbs' m5 m5' m6 m6' m7 m7' h h'
  have hmx := row_max HA.out.1
  have hmx2 := row_max HB.out.1.1
  unfold maxLen at hmx hmx2
  go_enter Tryd.func18, Tryd.ntmps18
  go_upto_region 1 with fail
  obtain ⟨W, eW, GW, CA, CB⟩ : ∃ W, (w.alloc (.cells cs.toArray 59)).alloc (.cells cs'.toArray 59) = W ∧ Hid (Gr w W) ∧ Hid (W.heap[w.heap.size]? = some (.cells cs.toArray 59 (0, 0))) ∧ Hid (W.heap[w.heap.size + 1]? = some (.cells cs'.toArray 59 (0, 0))) := by
    refine ⟨_, rfl, Lib.hid ((Gr.alloc _ _).trans (Gr.alloc _ _)), Lib.hid ((Below.heap_alloc _ _ _ (by simp)).trans (new_at w _)), Lib.hid ?_⟩
    have := new_at (w.alloc (.cells cs.toArray 59)) (.cells cs'.toArray 59)
    simpa using this
  rw [eW]
  clear eW
  have AT := Lib.hid (fun (u : World) (hu : Gr W u) => And.intro (it9 HCS.out.1 (hu.keep CA.out)) (it9 HCS.out.2 (hu.keep CB.out)))
  obtain ⟨⟨k0, k1, k2, k3, k4, k5, k6, k7, k8⟩, ⟨q0, q1, q2, q3, q4, q5, q6, q7, q8⟩⟩ := AT.out W (Gr.refl _)
  go_wp2_with fail
  go_loopg [5] i.args.length (fun g x wr => ∃ j : Nat, j + g = i.args.length ∧ x = .int .i64 (j : Nat) ∧ Hid (Gr W wr))
  case atStart => exact ⟨0, by omega, rfl, Lib.hid (Gr.refl _)⟩
  case round =>
    obtain ⟨j, hj, rfl, GR⟩ := hrel
    have HJ := Lib.hid hj
    clear hj k0 k1 k2 k3 k4 k5 k6 k7 k8 q0 q1 q2 q3 q4 q5 q6 q7 q8
    obtain ⟨⟨_, _, _, _, _, _, _, k7, k8⟩, ⟨_, _, _, _, _, _, _, q7, q8⟩⟩ := AT.out wr GR.out
    by_cases hlt : j < i.args.length
    · have hd1 : ((j : Int) < (i.args.length : Int)) := by omega
      have hd0 : (0 : Int) ≤ (j : Int) := by omega
      obtain ⟨d, hd⟩ : ∃ d, i.args[j]? = some d := ⟨_, List.getElem?_eq_getElem hlt⟩
      have hs2 : ∀ a, (dmCells a).length = 2 := fun a => rfl
      obtain ⟨g, cap, hv, _, hgl, c0⟩ := row_cell hs2 HA.out.1.1 (j := 0) hd (by omega)
      obtain ⟨g1, cap1, hv1, _, hgl1, c1⟩ := row_cell hs2 HA.out.1.1 (j := 1) hd (by omega)
      obtain ⟨g', cap', hv', _, hgl', c0'⟩ := row_cell hs2 HA.out.2.1 (j := 0) hd (by omega)
      obtain ⟨g1', cap1', hv1', _, hgl1', c1'⟩ := row_cell hs2 HA.out.2.1 (j := 1) hd (by omega)
      injection hv with hv _ hw
      injection hv1 with hv1 _ hw1
      injection hv' with hv' _ hw'
      injection hv1' with hv1' _ hw1'
      subst hv hv' hw hw' hw1 hw1'
      have e1 : g = g1 := by simpa using hv1
      have e1' : g' = g1' := by simpa using hv1'
      subst e1 e1'
      have GG := GW.out.trans GR.out
      have y0 := (World.cell?_of_block (a := ⟨g, j * 2, none⟩) (GG.block g hgl (by simp))).trans c0
      have y1 := (World.cell?_of_block (a := ⟨g, j * 2 + 1, none⟩) (GG.block g hgl (by simp))).trans c1
      have y0' := (World.cell?_of_block (a := ⟨g', j * 2, none⟩) (GG.block g' hgl' (by simp))).trans c0'
      have y1' := (World.cell?_of_block (a := ⟨g', j * 2 + 1, none⟩) (GG.block g' hgl' (by simp))).trans c1'
      simp only [dmCells, List.getElem?_cons_zero, List.getElem?_cons_succ] at y0 y1 y0' y1'
      clear c0 c1 c0' c1' GG hv1 hv1' hs2
      go_wp2_with fail
      go_quiet (fail)
      have G4 := Lib.hid (GR.out.trans (Gr.drewN wr nq))
      go_wp2_with fail
      go_roundg (gk - 1)
      case measure => have := HJ.out; omega
      case rel => exact ⟨j + 1, by have := HJ.out; omega, by go_num, G4⟩
    · have hd1 : ¬ ((j : Int) < (i.args.length : Int)) := by omega
      go_wp2_with fail
      clear k7 k8 q7 q8
      go_loopg [6] i.binds.length (fun g x wr => ∃ j : Nat, j + g = i.binds.length ∧ x = .int .i64 (j : Nat) ∧ Hid (Gr W wr))
      case atStart => exact ⟨0, by omega, rfl, GR⟩
      case round =>
        clear HJ
        obtain ⟨j2, hj, rfl, GR2⟩ := hrel
        have HJ := Lib.hid hj
        clear hj
        obtain ⟨⟨_, _, _, _, _, _, _, k7, k8⟩, ⟨_, _, _, _, _, _, _, q7, q8⟩⟩ := AT.out _ GR2.out
        by_cases hlt2 : j2 < i.binds.length
        · have hd1 : ((j2 : Int) < (i.binds.length : Int)) := by omega
          have hd0 : (0 : Int) ≤ (j2 : Int) := by omega
          obtain ⟨b, hb⟩ : ∃ b, i.binds[j2]? = some b := ⟨_, List.getElem?_eq_getElem hlt2⟩
          obtain ⟨c, hc, hx⟩ := HB.out.1.2.2 j2 b hb
          obtain ⟨c', hc', hx'⟩ := HB.out.2.2.2 j2 b hb
          have l12 : ∀ c ∈ bss, c.length = 12 := css_len (Q := fun (b : List UInt8 × Ex) (c : List Value) => c.length = 12) HB.out.1.2.1 (fun j k hk => by obtain ⟨c, h1, h2⟩ := HB.out.1.2.2 j k hk; exact ⟨_, h1, by simp [h2.len]⟩) (fun _ _ h => h)
          have l12' : ∀ c ∈ bss', c.length = 12 := css_len (Q := fun (b : List UInt8 × Ex) (c : List Value) => c.length = 12) HB.out.2.2.1 (fun j k hk => by obtain ⟨c, h1, h2⟩ := HB.out.2.2.2 j k hk; exact ⟨_, h1, by simp [h2.len]⟩) (fun _ _ h => h)
          obtain ⟨g, cap, hv, _, hgl, hr⟩ := row_range HB.out.1.1 HB.out.1.2.1 l12 hc
          obtain ⟨g', cap', hv', _, hgl', hr'⟩ := row_range HB.out.2.1 HB.out.2.2.1 l12' hc'
          obtain ⟨hk1, A1, m1, p1, rfl⟩ := hx.cells
          obtain ⟨hk2, A2, m2, p2, rfl⟩ := hx'.cells
          injection hv with hv1 _ hv3
          injection hv' with hv1' _ hv3'
          subst hv1 hv3 hv1' hv3'
          have GG := GW.out.trans GR2.out
          have SAME := Lib.hid (fun (u : World) (hu : Gr wr u) => SameExpr_yes b.2 _ _ F F' u (Lib.hid (hx.gr (GG.trans hu))) (Lib.hid (hx'.gr (GG.trans hu))))
          have KEEP := Lib.hid (show ∀ u, Gr wr u → (u.cell? ⟨w.heap.size, 8, none⟩ = some (.slice (some ⟨g, 0, none⟩) i.binds.length bC) ∧ u.cell? ⟨w.heap.size + 1, 8, none⟩ = some (.slice (some ⟨g', 0, none⟩) i.binds.length bC') ∧ Bd12 u g (j2 * 12) b.1 hk1 (.slice A1 m1 p1) ∧ Bd12 u g' (j2 * 12) b.1 hk2 (.slice A2 m2 p2)) from fun u hu => by
            obtain ⟨⟨_, _, _, _, _, _, _, _, k8⟩, ⟨_, _, _, _, _, _, _, _, q8⟩⟩ := AT.out u (GR2.out.trans hu)
            exact ⟨k8, q8, bd12 (range_gr hr hgl (GG.trans hu)), bd12 (range_gr hr' hgl' (GG.trans hu))⟩)
          clear hx hx' hr hr' hc hc' GG hb l12 l12'
          go_wp2_with fail
          go_region_held3 (fun u => u.cell? ⟨w.heap.size, 8, none⟩ = some (.slice (some ⟨g, 0, none⟩) i.binds.length bC) ∧ u.cell? ⟨w.heap.size + 1, 8, none⟩ = some (.slice (some ⟨g', 0, none⟩) i.binds.length bC') ∧ Bd12 u g (j2 * 12) b.1 hk1 (.slice A1 m1 p1) ∧ Bd12 u g' (j2 * 12) b.1 hk2 (.slice A2 m2 p2))
            (first | exact KEEP.out _ (Gr.drew _) | exact KEEP.out _ (by assumption))
            (first | (go_at_call 34; refine (SAME.out _ (Gr.drew _)).mono ?_; rintro e u ⟨rfl, hu0⟩; have hu : Gr wr u := (Gr.drew _).trans hu0; have HU := Lib.hid hu))
          go_wp2_with fail
          go_roundg (gk - 1)
          case measure => have := HJ.out; omega
          case rel => exact ⟨j2 + 1, by have := HJ.out; omega, by go_num, Lib.hid (GR2.out.trans HU.out)⟩
        · have hd1 : ¬ ((j2 : Int) < (i.binds.length : Int)) := by omega
          clear k7 q7
          go_upto_region 13 with fail
          clear k8 q8
          have len := HX.out
          have XR := Lib.hid (fun (u : World) (hu : Gr W u) => And.intro (it_range HCS.out.1 (hu.keep CA.out) HX.out.1.1.len HX.out.1.2.1.len HX.out.1.2.2.len) (it_range HCS.out.2 (hu.keep CB.out) HX.out.2.1.len HX.out.2.2.1.len HX.out.2.2.2.len))
          obtain ⟨ha1, aA1, am1, ap1, rfl⟩ := len.1.1.cells
          obtain ⟨ha2, aA2, am2, ap2, rfl⟩ := len.1.2.1.cells
          obtain ⟨ha3, aA3, am3, ap3, rfl⟩ := len.1.2.2.cells
          obtain ⟨hb1, bA1, bm1, bp1, rfl⟩ := len.2.1.cells
          obtain ⟨hb2, bA2, bm2, bp2, rfl⟩ := len.2.2.1.cells
          obtain ⟨hb3, bA3, bm3, bp3, rfl⟩ := len.2.2.2.cells
          clear len
          obtain ⟨e0, e1, e2, e3, e4, e5, e6, e7, e8, e9, e10⟩ := ex11 (XR.out _ GR2.out).1.1
          obtain ⟨f0, f1, f2, f3, f4, f5, f6, f7, f8, f9, f10⟩ := ex11 (XR.out _ GR2.out).2.1
          simp only [Nat.reduceAdd] at e0 e1 e2 e3 e4 e5 e6 e7 e8 e9 e10 f0 f1 f2 f3 f4 f5 f6 f7 f8 f9 f10
          go_wp2_with fail
          refine (SameExpr_yes i.e _ _ F F' _ (Lib.hid (HX.out.1.1.gr (GW.out.trans GR2.out))) (Lib.hid (HX.out.2.1.gr (GW.out.trans GR2.out)))).mono ?_
          rintro e u1 ⟨rfl, hu1⟩
          have G1 := Lib.hid (GR2.out.trans hu1)
          clear hu1 e0 e1 e2 e3 e4 e5 e6 e7 e8 e9 e10 f0 f1 f2 f3 f4 f5 f6 f7 f8 f9 f10
          obtain ⟨e0, e1, e2, e3, e4, e5, e6, e7, e8, e9, e10⟩ := ex11 (XR.out _ G1.out).1.2.1
          obtain ⟨f0, f1, f2, f3, f4, f5, f6, f7, f8, f9, f10⟩ := ex11 (XR.out _ G1.out).2.2.1
          simp only [Nat.reduceAdd] at e0 e1 e2 e3 e4 e5 e6 e7 e8 e9 e10 f0 f1 f2 f3 f4 f5 f6 f7 f8 f9 f10
          go_wp2_with fail
          refine (SameExpr_yes i.at_ _ _ F F' _ (Lib.hid (HX.out.1.2.1.gr (GW.out.trans G1.out))) (Lib.hid (HX.out.2.2.1.gr (GW.out.trans G1.out)))).mono ?_
          rintro e u2 ⟨rfl, hu2⟩
          have G2 := Lib.hid (G1.out.trans hu2)
          clear hu2 e0 e1 e2 e3 e4 e5 e6 e7 e8 e9 e10 f0 f1 f2 f3 f4 f5 f6 f7 f8 f9 f10
          obtain ⟨e0, e1, e2, e3, e4, e5, e6, e7, e8, e9, e10⟩ := ex11 (XR.out _ G2.out).1.2.2
          obtain ⟨f0, f1, f2, f3, f4, f5, f6, f7, f8, f9, f10⟩ := ex11 (XR.out _ G2.out).2.2.2
          simp only [Nat.reduceAdd] at e0 e1 e2 e3 e4 e5 e6 e7 e8 e9 e10 f0 f1 f2 f3 f4 f5 f6 f7 f8 f9 f10
          go_wp2_with fail
          refine (SameExpr_yes i.if_ _ _ F F' _ (Lib.hid (HX.out.1.2.2.gr (GW.out.trans G2.out))) (Lib.hid (HX.out.2.2.2.gr (GW.out.trans G2.out)))).mono ?_
          rintro e u3 ⟨rfl, hu3⟩
          have G3 := Lib.hid (G2.out.trans hu3)
          clear hu3 e0 e1 e2 e3 e4 e5 e6 e7 e8 e9 e10 f0 f1 f2 f3 f4 f5 f6 f7 f8 f9 f10
          go_wp2_with fail
          go_ret
          exact ⟨rfl, GW.out.trans G3.out⟩

end Go.Proofs.YtccjbpghpoblhaaDoor

namespace Go.Proofs.YtccjbpghpoblhaaDoor
open Go.RowKit

set_option maxRecDepth 100000 in
set_option maxHeartbeats 4000000 in
theorem SameFaults_yes (xs : List (Nat × Nat)) (v v' : Value) (F F' : Nat → Prop) (w : World) (h : Hid (FlAt w F xs v)) (h' : Hid (FlAt w F' xs v')) :
    Calls Tryd.prog 16 #[v, v'] w fun e w' => e = .returned (.bool true) ∧ Gr w w' := by
  obtain ⟨A, cp, rfl⟩ := row_form h.out
  obtain ⟨A', cp', rfl⟩ := row_form h'.out
  have hmx := row_max h.out
  unfold maxLen at hmx
  go_enter Tryd.func16, Tryd.ntmps16
  go_wp2_with fail
  go_loopg [5] xs.length (fun g x wr => ∃ j : Nat, j + g = xs.length ∧ x = .int .i64 (j : Nat) ∧ Hid (Gr w wr))
  case atStart => exact ⟨0, by omega, rfl, Lib.hid (Gr.refl _)⟩
  case round =>
    obtain ⟨j, hj, rfl, GR⟩ := hrel
    have HJ := Lib.hid hj
    clear hj
    by_cases hlt : j < xs.length
    · have hd1 : ((j : Int) < (xs.length : Int)) := by omega
      have hd0 : (0 : Int) ≤ (j : Int) := by omega
      obtain ⟨x, hx⟩ : ∃ x, xs[j]? = some x := ⟨_, List.getElem?_eq_getElem hlt⟩
      have hs4 : ∀ a, (flCells a).length = 4 := fun a => rfl
      have C := fun k (hk : k < 4) => row_cell hs4 h.out.1 (j := k) hx hk
      have C' := fun k (hk : k < 4) => row_cell hs4 h'.out.1 (j := k) hx hk
      obtain ⟨g, cap, hv, _, hgl, _⟩ := C 0 (by omega)
      obtain ⟨g', cap', hv', _, hgl', _⟩ := C' 0 (by omega)
      have D : ∀ k, k < 4 → wr.cell? ⟨g, j * 4 + k, none⟩ = (flCells x)[k]? := fun k hk => by
        obtain ⟨g1, cap1, hv1, _, _, c1⟩ := C k hk
        have : g = g1 := by rw [hv] at hv1; simp at hv1; exact hv1.1
        subst this
        exact (World.cell?_of_block (a := ⟨g, j * 4 + k, none⟩) (GR.out.block g hgl (by simp))).trans c1
      have D' : ∀ k, k < 4 → wr.cell? ⟨g', j * 4 + k, none⟩ = (flCells x)[k]? := fun k hk => by
        obtain ⟨g1, cap1, hv1, _, _, c1⟩ := C' k hk
        have : g' = g1 := by rw [hv'] at hv1; simp at hv1; exact hv1.1
        subst this
        exact (World.cell?_of_block (a := ⟨g', j * 4 + k, none⟩) (GR.out.block g' hgl' (by simp))).trans c1
      have y0 : wr.cell? ⟨g, j * 4, none⟩ = some (.int .i64 (x.1 : Nat)) := D 0 (by omega)
      have y1 : wr.cell? ⟨g, j * 4 + 1, none⟩ = some (.int .i64 (x.2 : Nat)) := D 1 (by omega)
      have y2 : wr.cell? ⟨g, j * 4 + 2, none⟩ = some (.int .i64 0) := D 2 (by omega)
      have y3 : wr.cell? ⟨g, j * 4 + 3, none⟩ = some (.int .i64 0) := D 3 (by omega)
      have z0 : wr.cell? ⟨g', j * 4, none⟩ = some (.int .i64 (x.1 : Nat)) := D' 0 (by omega)
      have z1 : wr.cell? ⟨g', j * 4 + 1, none⟩ = some (.int .i64 (x.2 : Nat)) := D' 1 (by omega)
      have z2 : wr.cell? ⟨g', j * 4 + 2, none⟩ = some (.int .i64 0) := D' 2 (by omega)
      have z3 : wr.cell? ⟨g', j * 4 + 3, none⟩ = some (.int .i64 0) := D' 3 (by omega)
      injection hv with hv _ hw
      injection hv' with hv' _ hw'
      subst hv hv' hw hw'
      clear C C' D D' hs4
      go_wp2_with fail
      go_quiet (fail)
      have G4 := Lib.hid (GR.out.trans (Gr.drewN wr nq))
      go_wp2_with fail
      go_roundg (gk - 1)
      case measure => have := HJ.out; omega
      case rel => exact ⟨j + 1, by have := HJ.out; omega, by go_num, G4⟩
    · have hd1 : ¬ ((j : Int) < (xs.length : Int)) := by omega
      go_wp2_with fail
      go_ret
      exact ⟨rfl, GR.out⟩

end Go.Proofs.YtccjbpghpoblhaaDoor

