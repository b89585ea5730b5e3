/-
  proofmarklaw02.begins, WALKED; rows of items, put together anew.
-/
import Derived.Test.YtccjbpghpoblhaaDoorK31
import Derived.Test.YtccjbpghpoblhaaDoorC05synSpares
import Derived.Test.YtccjbpghpoblhaaDoorK34
import Derived.Test.YtccjbpghpoblhaaDoorC04synSpares
/-
  SameItem, WALKED of any two: what it tells of unlike ones is no yes.
-/
namespace Go.Proofs.YtccjbpghpoblhaaDoor
open Go.RowKit

theorem it_ext (i j : It) (h1 : i.kind = j.kind) (h2 : i.name = j.name) (h3 : i.wid = j.wid) (h4 : i.val = j.val) (h5 : i.mod = j.mod) (h6 : i.args = j.args) (h7 : i.binds = j.binds) (h8 : i.e = j.e) (h9 : i.at_ = j.at_) (h10 : i.if_ = j.if_) : i = j := by
  cases i; cases j; simp_all

set_option maxRecDepth 100000 in
set_option maxHeartbeats 8000000 in
theorem SameItem_any (i i' : It) (cs cs' : List Value) (F F' : Nat → Prop) (w : World) (h : Hid (ItAt w F i cs)) (h' : Hid (ItAt w F' i' cs')) :
    Calls Tryd.prog 18 #[.agg cs.toArray, .agg cs'.toArray] w (Tells (i = i') w) := by
  have hl := it_len h.out
  have hl' := it_len h'.out
  have IX := Lib.hid (it_ext i i')
  obtain ⟨av, bv, ce, ca, ci, hcs, m1, m2, m5, m6, m7⟩ := h.out
  obtain ⟨av', bv', ce', ca', ci', hcs', m1', m2', m5', m6', m7'⟩ := h'.out
  obtain ⟨bss, m2, hbl, hbs⟩ := m2
  obtain ⟨bss', m2', hbl', hbs'⟩ := m2'
  obtain ⟨aA, aC, rfl⟩ := row_form m1
  obtain ⟨aA', aC', rfl⟩ := row_form m1'
  obtain ⟨bA, bC, rfl⟩ := row_form m2
  obtain ⟨bA', bC', rfl⟩ := row_form m2'
  have HCS := Lib.hid (And.intro hcs hcs')
  have HL := Lib.hid (And.intro hl hl')
  have HA := Lib.hid (And.intro m1 m1')
  have HB := Lib.hid (And.intro (And.intro m2 (And.intro hbl hbs)) (And.intro m2' (And.intro hbl' hbs')))
  have HX := Lib.hid (And.intro (And.intro m5 (And.intro m6 m7)) (And.intro m5' (And.intro m6' m7')))
  clear hcs hcs' hl hl' m1 m1' m2 m2' hbl hbl' hbs hbs' m5 m5' m6 m6' m7 m7' h h'
  have hmx := row_max HA.out.1
  have hmx2 := row_max HB.out.1.1
  unfold maxLen at hmx hmx2
  go_enter Tryd.func18, Tryd.ntmps18
  go_upto_region 1 with fail
  obtain ⟨W, eW, GW, CA, CB⟩ : ∃ W, (w.alloc (.cells cs.toArray 59)).alloc (.cells cs'.toArray 59) = W ∧ Hid (Gr w W) ∧ Hid (W.heap[w.heap.size]? = some (.cells cs.toArray 59 (0, 0))) ∧ Hid (W.heap[w.heap.size + 1]? = some (.cells cs'.toArray 59 (0, 0))) := by
    refine ⟨_, rfl, Lib.hid ((Gr.alloc _ _).trans (Gr.alloc _ _)), Lib.hid ((Below.heap_alloc _ _ _ (by simp)).trans (new_at w _)), Lib.hid ?_⟩
    have := new_at (w.alloc (.cells cs.toArray 59)) (.cells cs'.toArray 59)
    simpa using this
  rw [eW]
  clear eW
  have AT := Lib.hid (fun (u : World) (hu : Gr W u) => And.intro (it9 HCS.out.1 (hu.keep CA.out)) (it9 HCS.out.2 (hu.keep CB.out)))
  obtain ⟨⟨k0, k1, k2, k3, k4, k5, k6, k7, k8⟩, ⟨q0, q1, q2, q3, q4, q5, q6, q7, q8⟩⟩ := AT.out W (Gr.refl _)
  by_cases ckind : i.kind = i'.kind
  case neg =>
    have q : ((i.kind : Int) != (i'.kind : Int)) = true := by simp; omega
    have HC := Lib.hid ckind
    clear ckind
    go_wp2
    go_ret
    exact ⟨false, rfl, fun h => (by cases h), GW.out⟩
  rw [← ckind] at q0
  have Ekind := Lib.hid ckind
  clear ckind
  by_cases cname : i.name = i'.name
  case neg =>
    have q : ((str i.name).toList == (str i'.name).toList) = false := by rw [str_toList, str_toList]; simpa using cname
    have HC := Lib.hid cname
    clear cname
    go_wp2
    go_ret
    exact ⟨false, rfl, fun h => (by cases h), GW.out⟩
  rw [← cname] at q1
  have Ename := Lib.hid cname
  clear cname
  by_cases cwid : i.wid = i'.wid
  case neg =>
    have q := neq52_ne cwid
    have HC := Lib.hid cwid
    clear cwid
    go_wp2
    go_ret
    exact ⟨false, rfl, fun h => (by cases h), GW.out⟩
  rw [← cwid] at q2
  rw [← cwid] at q3
  have Ewid := Lib.hid cwid
  clear cwid
  by_cases cval : i.val = i'.val
  case neg =>
    have q := neq52_ne cval
    have HC := Lib.hid cval
    clear cval
    go_wp2
    go_ret
    exact ⟨false, rfl, fun h => (by cases h), GW.out⟩
  rw [← cval] at q4
  rw [← cval] at q5
  have Eval := Lib.hid cval
  clear cval
  by_cases cmod : i.mod = i'.mod
  case neg =>
    have q : ((str i.mod).toList == (str i'.mod).toList) = false := by rw [str_toList, str_toList]; simpa using cmod
    have HC := Lib.hid cmod
    clear cmod
    go_wp2
    go_ret
    exact ⟨false, rfl, fun h => (by cases h), GW.out⟩
  rw [← cmod] at q6
  have Emod := Lib.hid cmod
  clear cmod
  by_cases cla : i.args.length = i'.args.length
  case neg =>
    have q : ((i.args.length : Int) != (i'.args.length : Int)) = true := by simp; omega
    have HC := Lib.hid cla
    clear cla
    go_wp2
    go_ret
    exact ⟨false, rfl, fun h => (by cases h), GW.out⟩
  rw [← cla] at q7
  have Ela := Lib.hid cla
  clear cla
  by_cases clb : i.binds.length = i'.binds.length
  case neg =>
    have q : ((i.binds.length : Int) != (i'.binds.length : Int)) = true := by simp; omega
    have HC := Lib.hid clb
    clear clb
    go_wp2
    go_ret
    exact ⟨false, rfl, fun h => (by cases h), GW.out⟩
  rw [← clb] at q8
  have Elb := Lib.hid clb
  clear clb
  go_wp2_with fail
  go_loopg [5] i.args.length (fun g x wr => ∃ j : Nat, j + g = i.args.length ∧ x = .int .i64 (j : Nat) ∧ Hid (Gr W wr) ∧ Hid (i.args.take j = i'.args.take j))
  case atStart => exact ⟨0, by omega, rfl, Lib.hid (Gr.refl _), Lib.hid rfl⟩
  case round =>
    obtain ⟨j, hj, rfl, GR, PA⟩ := hrel
    have HJ := Lib.hid hj
    clear hj k0 k1 k2 k3 k4 k5 k6 k7 k8 q0 q1 q2 q3 q4 q5 q6 q7 q8
    obtain ⟨⟨_, _, _, _, _, _, _, k7, k8⟩, ⟨_, _, _, _, _, _, _, q7, q8⟩⟩ := AT.out wr GR.out
    rw [← Ela.out] at q7
    rw [← Elb.out] at q8
    by_cases hlt : j < i.args.length
    · have hd1 : ((j : Int) < (i.args.length : Int)) := by omega
      have hd0 : (0 : Int) ≤ (j : Int) := by omega
      obtain ⟨d, hd⟩ : ∃ d, i.args[j]? = some d := ⟨_, List.getElem?_eq_getElem hlt⟩
      obtain ⟨d', hd'⟩ : ∃ d, i'.args[j]? = some d := ⟨_, List.getElem?_eq_getElem (by rw [← Ela.out]; exact hlt)⟩
      have HD := Lib.hid (And.intro hd hd')
      have HA2 := HA.out.2.1
      have hs2 : ∀ a, (dmCells a).length = 2 := fun a => rfl
      obtain ⟨g, cap, hv, _, hgl, c0⟩ := row_cell hs2 HA.out.1.1 (j := 0) hd (by omega)
      obtain ⟨g1, cap1, hv1, _, hgl1, c1⟩ := row_cell hs2 HA.out.1.1 (j := 1) hd (by omega)
      obtain ⟨g', cap', hv', _, hgl', c0'⟩ := row_cell hs2 HA2 (j := 0) hd' (by omega)
      obtain ⟨g1', cap1', hv1', _, hgl1', c1'⟩ := row_cell hs2 HA2 (j := 1) hd' (by omega)
      injection hv with hv _ hw
      injection hv1 with hv1 _ hw1
      injection hv' with hv' _ hw'
      injection hv1' with hv1' _ hw1'
      subst hv hv' hw hw' hw1 hw1'
      have e1 : g = g1 := by simpa using hv1
      have e1' : g' = g1' := by simpa using hv1'
      subst e1 e1'
      have GG := GW.out.trans GR.out
      have y0 := (World.cell?_of_block (a := ⟨g, j * 2, none⟩) (GG.block g hgl (by simp))).trans c0
      have y1 := (World.cell?_of_block (a := ⟨g, j * 2 + 1, none⟩) (GG.block g hgl (by simp))).trans c1
      have y0' := (World.cell?_of_block (a := ⟨g', j * 2, none⟩) (GG.block g' hgl' (by simp))).trans c0'
      have y1' := (World.cell?_of_block (a := ⟨g', j * 2 + 1, none⟩) (GG.block g' hgl' (by simp))).trans c1'
      simp only [dmCells, List.getElem?_cons_zero, List.getElem?_cons_succ] at y0 y1 y0' y1'
      clear c0 c1 c0' c1' GG hv1 hv1' hs2 HA2 hd hd'
      by_cases cd : d = d'
      · subst cd
        have q := neq52_eq d
        go_wp2_with fail
        go_quiet (fail)
        have G4 := Lib.hid (GR.out.trans (Gr.drewN wr nq))
        go_wp2_with fail
        go_roundg (gk - 1)
        case measure => have := HJ.out; omega
        case rel => exact ⟨j + 1, by have := HJ.out; omega, by go_num, G4, Lib.hid (by rw [List.take_add_one, List.take_add_one, PA.out, HD.out.1, HD.out.2])⟩
      · have q := neq52_ne cd
        have HC := Lib.hid cd
        clear cd
        go_wp2_with fail
        go_quiet (fail)
        have G4 := Lib.hid (GR.out.trans (Gr.drewN wr nq))
        go_wp2_with fail
        go_ret
        exact ⟨false, rfl, fun h => (by cases h), GW.out.trans G4.out⟩
    · have hd1 : ¬ ((j : Int) < (i.args.length : Int)) := by omega
      have EA : Hid (i.args = i'.args) := Lib.hid (by
        have h1 := PA.out
        rw [List.take_of_length_le (by omega), List.take_of_length_le (by rw [← Ela.out]; omega)] at h1
        exact h1)
      go_wp2_with fail
      clear k7 k8 q7 q8
      go_loopg [6] i.binds.length (fun g x wr => ∃ j : Nat, j + g = i.binds.length ∧ x = .int .i64 (j : Nat) ∧ Hid (Gr W wr) ∧ Hid (i.binds.take j = i'.binds.take j))
      case atStart => exact ⟨0, by omega, rfl, GR, Lib.hid rfl⟩
      case round =>
        clear HJ
        obtain ⟨j2, hj, rfl, GR2, PB⟩ := hrel
        have HJ := Lib.hid hj
        clear hj
        obtain ⟨⟨_, _, _, _, _, _, _, k7, k8⟩, ⟨_, _, _, _, _, _, _, q7, q8⟩⟩ := AT.out _ GR2.out
        rw [← Ela.out] at q7
        rw [← Elb.out] at q8
        by_cases hlt2 : j2 < i.binds.length
        · have hd1 : ((j2 : Int) < (i.binds.length : Int)) := by omega
          have hd0 : (0 : Int) ≤ (j2 : Int) := by omega
          obtain ⟨b, hb⟩ : ∃ b, i.binds[j2]? = some b := ⟨_, List.getElem?_eq_getElem hlt2⟩
          obtain ⟨b', hb'⟩ : ∃ b, i'.binds[j2]? = some b := ⟨_, List.getElem?_eq_getElem (by rw [← Elb.out]; exact hlt2)⟩
          have HD := Lib.hid (And.intro hb hb')
          obtain ⟨c, hc, hx⟩ := HB.out.1.2.2 j2 b hb
          obtain ⟨c', hc', hx'⟩ := HB.out.2.2.2 j2 b' hb'
          have l12 : ∀ c ∈ bss, c.length = 12 := css_len (Q := fun (b : List UInt8 × Ex) (c : List Value) => c.length = 12) HB.out.1.2.1 (fun j k hk => by obtain ⟨c, h1, h2⟩ := HB.out.1.2.2 j k hk; exact ⟨_, h1, by simp [h2.len]⟩) (fun _ _ h => h)
          have l12' : ∀ c ∈ bss', c.length = 12 := css_len (Q := fun (b : List UInt8 × Ex) (c : List Value) => c.length = 12) HB.out.2.2.1 (fun j k hk => by obtain ⟨c, h1, h2⟩ := HB.out.2.2.2 j k hk; exact ⟨_, h1, by simp [h2.len]⟩) (fun _ _ h => h)
          obtain ⟨g, cap, hv, _, hgl, hr⟩ := row_range HB.out.1.1 HB.out.1.2.1 l12 hc
          obtain ⟨g', cap', hv', _, hgl', hr'⟩ := row_range HB.out.2.1 HB.out.2.2.1 l12' hc'
          obtain ⟨hk1, A1, m1, p1, rfl⟩ := hx.cells
          obtain ⟨hk2, A2, m2, p2, rfl⟩ := hx'.cells
          injection hv with hv1 _ hv3
          injection hv' with hv1' _ hv3'
          subst hv1 hv3 hv1' hv3'
          have GG := GW.out.trans GR2.out
          have SAME := Lib.hid (fun (u : World) (hu : Gr wr u) => SameExpr_any b.2 b'.2 _ _ F F' u (Lib.hid (hx.gr (GG.trans hu))) (Lib.hid (hx'.gr (GG.trans hu))))
          have KEEP := Lib.hid (show ∀ u, Gr wr u → (u.cell? ⟨w.heap.size, 8, none⟩ = some (.slice (some ⟨g, 0, none⟩) i.binds.length bC) ∧ u.cell? ⟨w.heap.size + 1, 8, none⟩ = some (.slice (some ⟨g', 0, none⟩) i.binds.length bC') ∧ Bd12 u g (j2 * 12) b.1 hk1 (.slice A1 m1 p1) ∧ Bd12 u g' (j2 * 12) b'.1 hk2 (.slice A2 m2 p2)) from fun u hu => by
            obtain ⟨⟨_, _, _, _, _, _, _, _, k8⟩, ⟨_, _, _, _, _, _, _, _, q8⟩⟩ := AT.out u (GR2.out.trans hu)
            rw [← Elb.out] at q8
            exact ⟨k8, q8, bd12 (range_gr hr hgl (GG.trans hu)), bd12 (range_gr hr' hgl' (GG.trans hu))⟩)
          clear hx hx' hr hr' hc hc' GG hb hb' l12 l12'
          by_cases cp : b.1 = b'.1
          · have q : ((str b.1).toList == (str b'.1).toList) = true := by rw [cp]; simp
            have HC := Lib.hid cp
            clear cp
            go_wp2_with fail
            go_region_held3 (fun u => u.cell? ⟨w.heap.size, 8, none⟩ = some (.slice (some ⟨g, 0, none⟩) i.binds.length bC) ∧ u.cell? ⟨w.heap.size + 1, 8, none⟩ = some (.slice (some ⟨g', 0, none⟩) i.binds.length bC') ∧ Bd12 u g (j2 * 12) b.1 hk1 (.slice A1 m1 p1) ∧ Bd12 u g' (j2 * 12) b'.1 hk2 (.slice A2 m2 p2))
              (first | exact KEEP.out _ (Gr.drew _) | exact KEEP.out _ (by assumption))
              (first | (go_at_call 34; refine (SAME.out _ (Gr.drew _)).mono ?_; rintro e u ⟨r, rfl, hreq, hu0⟩; have hu : Gr wr u := (Gr.drew _).trans hu0; have HU := Lib.hid hu; have HR := Lib.hid hreq; clear hreq))
            rcases r with _ | _
            · go_wp2_with fail
              go_ret
              exact ⟨false, rfl, fun h => (by cases h), (GW.out.trans GR2.out).trans HU.out⟩
            · go_wp2_with fail
              go_roundg (gk - 1)
              case measure => have := HJ.out; omega
              case rel => exact ⟨j2 + 1, by have := HJ.out; omega, by go_num, Lib.hid (GR2.out.trans HU.out), Lib.hid (by rw [List.take_add_one, List.take_add_one, PB.out, HD.out.1, HD.out.2, show b = b' from Prod.ext HC.out (HR.out (by simp))])⟩
          · have q : ((str b.1).toList == (str b'.1).toList) = false := by rw [str_toList, str_toList]; simpa using cp
            have HC := Lib.hid cp
            clear cp
            obtain ⟨z1, z2, ⟨z3, _⟩, ⟨z4, _⟩⟩ := KEEP.out _ (Gr.refl _)
            go_wp2_with fail
            go_quiet (fail)
            have G4 := Lib.hid (GR2.out.trans (Gr.drewN _ nq))
            go_wp2_with fail
            go_ret
            exact ⟨false, rfl, fun h => (by cases h), GW.out.trans G4.out⟩
        · have hd1 : ¬ ((j2 : Int) < (i.binds.length : Int)) := by omega
          have EB : Hid (i.binds = i'.binds) := Lib.hid (by
            have h1 := PB.out
            rw [List.take_of_length_le (by omega), List.take_of_length_le (by rw [← Elb.out]; omega)] at h1
            exact h1)
          clear k7 q7
          go_upto_region 13 with fail
          clear k8 q8
          have len := HX.out
          have XR := Lib.hid (fun (u : World) (hu : Gr W u) => And.intro (it_range HCS.out.1 (hu.keep CA.out) HX.out.1.1.len HX.out.1.2.1.len HX.out.1.2.2.len) (it_range HCS.out.2 (hu.keep CB.out) HX.out.2.1.len HX.out.2.2.1.len HX.out.2.2.2.len))
          obtain ⟨ha1, aA1, am1, ap1, rfl⟩ := len.1.1.cells
          obtain ⟨ha2, aA2, am2, ap2, rfl⟩ := len.1.2.1.cells
          obtain ⟨ha3, aA3, am3, ap3, rfl⟩ := len.1.2.2.cells
          obtain ⟨hb1, bA1, bm1, bp1, rfl⟩ := len.2.1.cells
          obtain ⟨hb2, bA2, bm2, bp2, rfl⟩ := len.2.2.1.cells
          obtain ⟨hb3, bA3, bm3, bp3, rfl⟩ := len.2.2.2.cells
          clear len
          obtain ⟨e0, e1, e2, e3, e4, e5, e6, e7, e8, e9, e10⟩ := ex11 (XR.out _ GR2.out).1.1
          obtain ⟨f0, f1, f2, f3, f4, f5, f6, f7, f8, f9, f10⟩ := ex11 (XR.out _ GR2.out).2.1
          simp only [Nat.reduceAdd] at e0 e1 e2 e3 e4 e5 e6 e7 e8 e9 e10 f0 f1 f2 f3 f4 f5 f6 f7 f8 f9 f10
          go_wp2_with fail
          refine (SameExpr_any i.e i'.e _ _ F F' _ (Lib.hid (HX.out.1.1.gr (GW.out.trans GR2.out))) (Lib.hid (HX.out.2.1.gr (GW.out.trans GR2.out)))).mono ?_
          rintro e u1 ⟨r1, rfl, h1, hu1⟩
          have G1 := Lib.hid (GR2.out.trans hu1)
          have H1 := Lib.hid h1
          clear h1
          rcases r1 with _ | _
          · clear hu1 e0 e1 e2 e3 e4 e5 e6 e7 e8 e9 e10 f0 f1 f2 f3 f4 f5 f6 f7 f8 f9 f10
            go_wp2_with fail
            go_ret
            exact ⟨false, rfl, fun h => (by cases h), GW.out.trans G1.out⟩
          clear hu1 e0 e1 e2 e3 e4 e5 e6 e7 e8 e9 e10 f0 f1 f2 f3 f4 f5 f6 f7 f8 f9 f10
          obtain ⟨e0, e1, e2, e3, e4, e5, e6, e7, e8, e9, e10⟩ := ex11 (XR.out _ G1.out).1.2.1
          obtain ⟨f0, f1, f2, f3, f4, f5, f6, f7, f8, f9, f10⟩ := ex11 (XR.out _ G1.out).2.2.1
          simp only [Nat.reduceAdd] at e0 e1 e2 e3 e4 e5 e6 e7 e8 e9 e10 f0 f1 f2 f3 f4 f5 f6 f7 f8 f9 f10
          go_wp2_with fail
          refine (SameExpr_any i.at_ i'.at_ _ _ F F' _ (Lib.hid (HX.out.1.2.1.gr (GW.out.trans G1.out))) (Lib.hid (HX.out.2.2.1.gr (GW.out.trans G1.out)))).mono ?_
          rintro e u2 ⟨r2, rfl, h2, hu2⟩
          have G2 := Lib.hid (G1.out.trans hu2)
          have H2 := Lib.hid h2
          clear h2
          rcases r2 with _ | _
          · clear hu2 e0 e1 e2 e3 e4 e5 e6 e7 e8 e9 e10 f0 f1 f2 f3 f4 f5 f6 f7 f8 f9 f10
            go_wp2_with fail
            go_ret
            exact ⟨false, rfl, fun h => (by cases h), GW.out.trans G2.out⟩
          clear hu2 e0 e1 e2 e3 e4 e5 e6 e7 e8 e9 e10 f0 f1 f2 f3 f4 f5 f6 f7 f8 f9 f10
          obtain ⟨e0, e1, e2, e3, e4, e5, e6, e7, e8, e9, e10⟩ := ex11 (XR.out _ G2.out).1.2.2
          obtain ⟨f0, f1, f2, f3, f4, f5, f6, f7, f8, f9, f10⟩ := ex11 (XR.out _ G2.out).2.2.2
          simp only [Nat.reduceAdd] at e0 e1 e2 e3 e4 e5 e6 e7 e8 e9 e10 f0 f1 f2 f3 f4 f5 f6 f7 f8 f9 f10
          go_wp2_with fail
          refine (SameExpr_any i.if_ i'.if_ _ _ F F' _ (Lib.hid (HX.out.1.2.2.gr (GW.out.trans G2.out))) (Lib.hid (HX.out.2.2.2.gr (GW.out.trans G2.out)))).mono ?_
          rintro e u3 ⟨r3, rfl, h3, hu3⟩
          have G3 := Lib.hid (G2.out.trans hu3)
          have H3 := Lib.hid h3
          clear h3
          clear hu3 e0 e1 e2 e3 e4 e5 e6 e7 e8 e9 e10 f0 f1 f2 f3 f4 f5 f6 f7 f8 f9 f10
          go_wp2_with fail
          go_ret
          exact ⟨r3, rfl, fun h => IX.out Ekind.out Ename.out Ewid.out Eval.out Emod.out EA.out EB.out (H1.out (by simp)) (H2.out (by simp)) (H3.out h), GW.out.trans G3.out⟩

end Go.Proofs.YtccjbpghpoblhaaDoor

namespace Go.Proofs.YtccjbpghpoblhaaDoor
open Go.RowKit

def begArr : Array Value := (begW.map fun t => Value.string (str t)).toArray
set_option maxRecDepth 100000 in
set_option maxHeartbeats 2000000 in
theorem begins_any (l : List UInt8) (w : World) : Calls Tryd.prog 15 #[.string (str l)] w fun e w' => e = .returned (.bool (begW.contains l)) ∧ Gr w w' := by
  go_enter Tryd.func15, Tryd.ntmps15
  go_wp2_with fail
  obtain ⟨W, eW, GW, CW⟩ : ∃ W, w.alloc (.cells begArr 9) = W ∧ Hid (Gr w W) ∧ Hid (W.heap[w.heap.size]? = some (.cells begArr 9 (0, 0))) := ⟨_, rfl, Lib.hid (Gr.alloc _ _), Lib.hid (new_at w _)⟩
  go_loopg [4] 9 (fun g x wr => ∃ k : Nat, k + g = 9 ∧ x = .int .i64 (k : Nat) ∧ Hid (Gr W wr) ∧ Hid (l ∉ begW.take k))
  case atStart => exact ⟨0, by omega, rfl, Lib.hid (by rw [← eW]; exact Gr.refl _), Lib.hid (by simp)⟩
  case round =>
    obtain ⟨k, hk, rfl, GR, HP⟩ := hrel
    have HK := Lib.hid hk
    clear hk eW
    by_cases hlt : k < 9
    · have hd1 : ((k : Int) < 9) := by omega
      have hd0 : (0 : Int) ≤ (k : Int) := by omega
      obtain ⟨t, ht⟩ : ∃ t, begW[k]? = some t := ⟨_, List.getElem?_eq_getElem (by show k < 9; exact hlt)⟩
      have c0 : wr.cell? ⟨w.heap.size, k, none⟩ = some (.string (str t)) := by
        rw [cell_at (GR.out.keep CW.out)]
        show (begW.map fun t => Value.string (str t)).toArray[k]? = _
        rw [List.getElem?_toArray, List.getElem?_map, ht]
        rfl
      have HT := Lib.hid ht
      clear ht
      by_cases he : t = l
      · have q : ((str t).toList == (str l).toList) = true := by rw [he]; simp
        have HE := Lib.hid he
        clear he
        go_wp2_with fail
        go_ret
        refine ⟨congrArg (fun b => Ending.returned (Value.bool b)) ?_, GW.out.trans GR.out⟩
        symm
        rw [List.contains_iff_mem, ← HE.out]
        exact List.mem_of_getElem? HT.out
      · have q : ((str t).toList == (str l).toList) = false := by rw [str_toList, str_toList]; simpa using he
        have HE := Lib.hid he
        clear he
        go_wp2_with fail
        go_roundg (gk - 1)
        case measure => have := HK.out; omega
        case rel => exact ⟨k + 1, by have := HK.out; omega, by go_num, GR, Lib.hid (by
          rw [List.take_add_one, HT.out]
          intro hm
          rcases List.mem_append.1 hm with hm | hm
          · exact HP.out hm
          · exact HE.out (by simp at hm; exact hm.symm))⟩
    · have hd1 : ¬ ((k : Int) < 9) := by omega
      go_wp2_with fail
      go_ret
      refine ⟨congrArg (fun b => Ending.returned (Value.bool b)) ?_, GW.out.trans GR.out⟩
      symm
      have h1 := HP.out
      rw [List.take_of_length_le (by show 9 ≤ k; omega)] at h1
      rw [Bool.eq_false_iff]
      intro h2
      exact h1 (by simpa using h2)
end Go.Proofs.YtccjbpghpoblhaaDoor

