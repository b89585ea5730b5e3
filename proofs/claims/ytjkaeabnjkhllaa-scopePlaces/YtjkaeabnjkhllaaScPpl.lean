/-
  proofmarklaw05.ScopePlaces, WALKED, head's contract being a premise.
-/
import Derived.Test.YtjkaeabnjkhllaaScFis
import Derived.Test.YtjkaeabnjkhllaaScHed
import Derived.Test.YtjkaeabnjkhllaaScOrd
namespace Go.Proofs.Ytjkaeabnjkhllaa
open Go.RowKit
theorem wrap_nat5 {a : Nat} (h : a < 9223372036854775808) : IntKind.i64.wrap (a : Int) = (a : Int) := by
  rw [IntKind.wrap_i64]
  omega
set_option maxRecDepth 100000 in
set_option maxHeartbeats 4000000 in
theorem places_law (ms : List Mo) (mA : Option Addr) (mC : Nat) (w : World) (hs : Hid (∀ m ∈ ms, MoStr m)) (hms : Hid (ModsAt w ms (.slice mA ms.length mC))) (hml : Hid (∃ z : Int, w.cell? ⟨0, 0, none⟩ = some (.int .i64 z))) (hhead : Hid (∀ u, Gr w u → Calls Try.prog 11 #[] u (UpRet u))) :
    Calls Try.prog 5 #[.agg #[.slice mA ms.length mC]] w (UpRet w) := by
  have hlen : ms.length ≤ 9223372036854775807 := by
    obtain ⟨css, h1, h2, _⟩ := hms.out
    have := h1.1
    rw [h2] at this
    exact this
  go_enter Try.func5, Try.ntmps5
  have B := Lib.hid (new_at w (.cells #[.slice mA ms.length mC] 24))
  go_upto_region 3 with (first
    | (go_at_call 11; refine (hhead.out _ (Gr.alloc _ _)).mono ?_; rintro e w1 ⟨rfl, hg1⟩; have G1 := Lib.hid ((Gr.alloc w (.cells #[.slice mA ms.length mC] 24)).trans hg1); have B1 := Lib.hid (hg1.keep B.out); clear hg1; have c0 : w1.cell? ⟨w.heap.size, 0, none⟩ = some (.slice mA ms.length mC) := (by rw [cell_at B1.out]; rfl); have FI := Lib.hid (Fits_any ms mA mC w1 hs (Lib.hid (hms.out.gr G1.out))))
    | (go_at_call 12; refine FI.out.mono ?_; rintro e w2 ⟨b, rfl, hb, hg2⟩; have G2 := Lib.hid (G1.out.trans hg2); have B2 := Lib.hid (hg2.keep B1.out); have HB := Lib.hid hb; clear hg2 hb; have c1 : w2.cell? ⟨w.heap.size, 0, none⟩ = some (.slice mA ms.length mC) := (by rw [cell_at B2.out]; rfl)))
  clear FI c0
  cases b
  · go_wp2_with fail
    go_ret
    exact ⟨rfl, G2.out⟩
  have HOK := Lib.hid (dsok_of_fit (HB.out rfl))
  have CK := Lib.hid (Check_any ms mA mC w2 HOK (Lib.hid (hms.out.gr G2.out)) (Lib.hid (by obtain ⟨z, hz⟩ := hml.out; exact ⟨z, gr_cell G2.out (World.block_lt_of_cell? _ _ hz) hz⟩)))
  go_upto_region 6 with (go_at_call 14; refine CK.out.mono ?_; rintro e w3 ⟨lA, lc, fs, rfl, hr, hf, hg3⟩; have G3 := Lib.hid (G2.out.trans hg3); have B3 := Lib.hid (hg3.keep B2.out); have HF := Lib.hid hf; have HR := Lib.hid hr; clear hg3 hr hf; have c2 : w3.cell? ⟨w.heap.size, 0, none⟩ = some (.slice mA ms.length mC) := (by rw [cell_at B3.out]; rfl))
  have HMS := Lib.hid (hms.out.gr G3.out)
  have HFL : fs.length ≤ 60000 := by
    rcases HF.out with ⟨_, rfl⟩ | ⟨_, h⟩
    · simp
    · have h1 := mout_len h HOK.out.items
      have h2 := HOK.out.len
      omega
  rcases Nat.eq_zero_or_pos ms.length with h0 | hpos
  · have q0 : ((ms.length : Int) == 0) = true := by rw [beq_iff_eq]; omega
    have q1 : ((fs.length : Int) == 1) = true := by
      rcases HF.out with ⟨_, rfl⟩ | ⟨h, _⟩
      · rfl
      · omega
    go_wp2_with fail
    go_ret
    exact ⟨rfl, G3.out⟩
  have q0 : ((ms.length : Int) == 0) = false := by rw [beq_eq_false_iff_ne]; omega
  have HO := Lib.hid (show (∀ f ∈ fs, FtIn ms f) ∧ fs.Pairwise FtLt from by
    rcases HF.out with ⟨h, _⟩ | ⟨_, h⟩
    · omega
    · exact ⟨fun f hf => ((mout_ord h).1 f hf).1, (mout_ord h).2⟩)
  clear HF HB HOK CK G1 G2 B1 B2 B
  have hfl' : fs.length ≤ 9223372036854775807 := by omega
  go_wp2_with fail
  go_loopg [6] fs.length (fun g y wr => ∃ k : Nat, k + g = fs.length ∧ y = .int .i64 (k : Nat) ∧ Hid (Gr w3 wr))
  case atStart => exact ⟨0, by omega, rfl, Lib.hid (Gr.refl _)⟩
  case round =>
    obtain ⟨k, hkg, rfl, HG⟩ := hrel
    obtain ⟨wo, rfl⟩ : ∃ x, x = wr := ⟨_, rfl⟩
    have HK := Lib.hid hkg
    have hkl : k ≤ fs.length := by omega
    clear hkg
    by_cases hlt : k < fs.length
    · obtain ⟨⟨fe, fm, fi⟩, hf⟩ : ∃ f, fs[k]? = some f := ⟨_, List.getElem?_eq_getElem hlt⟩
      have hd1 : (k : Int) < (fs.length : Int) := by omega
      have hd0 : (0 : Int) ≤ (k : Int) := by omega
      obtain ⟨hz, md, hmd, hi1, hi2⟩ := HO.out.1 _ (List.mem_of_getElem? hf)
      simp only at hz hmd hi1 hi2
      have hml2 := (List.getElem?_eq_some_iff.1 hmd).1
      obtain ⟨g, o, pA, pC, qA, qC, iA, iC, rfl, _, hg, hr, _⟩ := mod_cells HMS.out hmd
      have m3 := (range_gr hr hg HG.out) 3 _ rfl
      have hRR : RowC w3 4 (.slice lA (fs.map ftCells).length lc) (fs.map ftCells) := by rw [List.length_map]; exact HR.out
      obtain ⟨g2, o2, rfl, hg2, hr2⟩ := hRR.at (show (fs.map ftCells)[k]? = some (ftCells (fe, fm, fi)) by rw [List.getElem?_map, hf]; rfl)
      have hrk := range_gr hr2 hg2 HG.out
      have c0 := hrk 0 (.int .i64 fe) rfl
      have c1 := hrk 1 (.int .i64 0) rfl
      have cc2 := hrk 2 (.int .i64 fm) rfl
      have c3 := hrk 3 (.int .i64 fi) rfl
      rw [Nat.add_zero] at c0
      have t0 : ((fe : Int) == 0) = false := by rw [beq_eq_false_iff_ne]; omega
      have t1 : ¬ ((fm : Int) < 0) := by omega
      have t2 : ¬ ((ms.length : Int) ≤ (fm : Int)) := by omega
      have t2' : (fm : Int) < (ms.length : Int) := by omega
      have t2'' : (0 : Int) ≤ (fm : Int) := by omega
      have t3 : ¬ (fi < -1) := by omega
      have t4 : ¬ ((md.items.length : Int) ≤ fi) := by omega
      have a0 : wo.cell? ⟨w.heap.size, 0, none⟩ = some (.slice (some ⟨g, o, none⟩) ms.length mC) := by rw [cell_at (HG.out.keep B3.out)]; rfl
      rcases k with _ | k'
      · clear hr hg hr2 hg2 hrk hRR hmd hf c2
        simp only [Nat.zero_mul, Nat.add_zero] at c0 c1 cc2 c3
        go_upto_region 12 with fail
        obtain ⟨V, eV, GV, BV⟩ : ∃ V, wo.alloc (.cells #[.int .i64 fe, .int .i64 0, .int .i64 fm, .int .i64 fi] 40) = V ∧ Hid (Gr wo V) ∧ Hid (V.heap[wo.heap.size]? = some (.cells #[.int .i64 fe, .int .i64 0, .int .i64 fm, .int .i64 fi] 40 (0, 0))) := ⟨_, rfl, Lib.hid (Gr.alloc _ _), Lib.hid (new_at _ _)⟩
        rw [eV]
        clear eV c0 c1 cc2 c3
        have y0 : V.cell? ⟨wo.heap.size, 0, none⟩ = some (.int .i64 fe) := by rw [cell_at BV.out]; rfl
        have y1 : V.cell? ⟨wo.heap.size, 1, none⟩ = some (.int .i64 0) := by rw [cell_at BV.out]; rfl
        have y2 : V.cell? ⟨wo.heap.size, 2, none⟩ = some (.int .i64 fm) := by rw [cell_at BV.out]; rfl
        have y3 : V.cell? ⟨wo.heap.size, 3, none⟩ = some (.int .i64 fi) := by rw [cell_at BV.out]; rfl
        replace a0 := gr_cell GV.out (World.block_lt_of_cell? _ _ a0) a0
        replace m3 := gr_cell GV.out (World.block_lt_of_cell? _ _ m3) m3
        go_quiet (fail)
        go_wp2_with fail
        go_quiet (fail)
        go_wp2_with fail
        go_roundg (gk - 1)
        case measure => have := HK.out; omega
        case rel => exact ⟨1, by have := HK.out; omega, by go_num, Lib.hid (HG.out.trans (GV.out.trans (Gr.drewN _ _)))⟩
      · obtain ⟨⟨pe, pm, pi⟩, hp⟩ : ∃ f, fs[k']? = some f := ⟨_, List.getElem?_eq_getElem (by omega)⟩
        obtain ⟨g4, o4, e4, hg4, hr4⟩ := hRR.at (show (fs.map ftCells)[k']? = some (ftCells (pe, pm, pi)) by rw [List.getElem?_map, hp]; rfl)
        simp only [Option.some.injEq, Addr.mk.injEq, and_true] at e4
        obtain ⟨rfl, rfl⟩ := e4
        have hrp := range_gr hr4 hg4 HG.out
        have p2 := hrp 2 (.int .i64 pm) rfl
        have p3 := hrp 3 (.int .i64 pi) rfl
        have hlt2 : FtLt (pe, pm, pi) (fe, fm, fi) := by
          have h := List.pairwise_iff_getElem.1 HO.out.2 k' (k' + 1) (by omega) hlt (by omega)
          rwa [(List.getElem?_eq_some_iff.1 hp).2, (List.getElem?_eq_some_iff.1 hf).2] at h
        simp only [FtLt] at hlt2
        have s1 : (k' : Int) < (fs.length : Int) := by omega
        have s0 : (0 : Int) ≤ (k' : Int) := by omega
        have t5 : ¬ ((fm : Int) < (pm : Int)) := by omega
        clear hr hg hr2 hg2 hrk hRR hmd hf hr4 hg4 hrp hp c2
        rcases hlt2 with hlt2 | ⟨hpm, hlt2⟩
        · have t6 : ((pm : Int) == (fm : Int)) = false := by rw [beq_eq_false_iff_ne]; omega
          have HT6 := Lib.hid t6
          clear hlt2 t6
          go_upto_region 12 with fail
          obtain ⟨V, eV, GV, BV⟩ : ∃ V, wo.alloc (.cells #[.int .i64 fe, .int .i64 0, .int .i64 fm, .int .i64 fi] 40) = V ∧ Hid (Gr wo V) ∧ Hid (V.heap[wo.heap.size]? = some (.cells #[.int .i64 fe, .int .i64 0, .int .i64 fm, .int .i64 fi] 40 (0, 0))) := ⟨_, rfl, Lib.hid (Gr.alloc _ _), Lib.hid (new_at _ _)⟩
          rw [eV]
          clear eV c0 c1 cc2 c3
          have y0 : V.cell? ⟨wo.heap.size, 0, none⟩ = some (.int .i64 fe) := by rw [cell_at BV.out]; rfl
          have y1 : V.cell? ⟨wo.heap.size, 1, none⟩ = some (.int .i64 0) := by rw [cell_at BV.out]; rfl
          have y2 : V.cell? ⟨wo.heap.size, 2, none⟩ = some (.int .i64 fm) := by rw [cell_at BV.out]; rfl
          have y3 : V.cell? ⟨wo.heap.size, 3, none⟩ = some (.int .i64 fi) := by rw [cell_at BV.out]; rfl
          replace a0 := gr_cell GV.out (World.block_lt_of_cell? _ _ a0) a0
          replace m3 := gr_cell GV.out (World.block_lt_of_cell? _ _ m3) m3
          replace p2 := gr_cell GV.out (World.block_lt_of_cell? _ _ p2) p2
          replace p3 := gr_cell GV.out (World.block_lt_of_cell? _ _ p3) p3
          go_quiet (fail)
          go_wp2_with fail
          have s4 : (k' : Int) + 1 - 1 = (k' : Int) := by omega
          have t6 := HT6.out
          have u5 : decide ((fm : Int) < (pm : Int)) = false := decide_eq_false (by omega)
          have u5' : decide (fm < pm) = false := decide_eq_false (by omega)
          have hwk : IntKind.i64.wrap (k' : Int) = (k' : Int) := wrap_nat5 (by omega)
          have SX := Lib.hid (fun (u : World) (hu : Gr V u) => (show (fun u : World => u.cell? ⟨g2, o2 + k' * 4 + 2, none⟩ = some (.int .i64 (pm : Nat)) ∧ u.cell? ⟨wo.heap.size, 2, none⟩ = some (.int .i64 (fm : Nat))) u from ⟨gr_cell hu (World.block_lt_of_cell? _ _ p2) p2, gr_cell hu (World.block_lt_of_cell? _ _ y2) y2⟩))
          refine wp_region_held_drew (S := (fun u : World => u.cell? ⟨g2, o2 + k' * 4 + 2, none⟩ = some (.int .i64 (pm : Nat)) ∧ u.cell? ⟨wo.heap.size, 2, none⟩ = some (.int .i64 (fm : Nat)))) (by kernel_rfl) (SX.out _ ((Gr.drewN _ _).trans (Gr.drew _))) (fun hHeld => ?_)
          refine wpAnyH_take (i := 0) (oi := { dst := some 75, op := Op.move (Operand.tmp 6), type := 3, pos := "law.go:150", after := #[], guard := none }) (v := ?_) rfl (by kernel_rfl) (by kernel_rfl) (by kernel_rfl) (fun _ _ _ h => h) (Or.inl ⟨by rfl, ?_⟩) hHeld ?_
          case refine_2 => (intro w hSw; (try dsimp only at hSw); go_simp; try (with_reducible rfl))
          try simp only [Act.put, List.setIfInBounds_toArray, List.set_cons_zero, List.set_cons_succ]
          refine wpAnyH_take (i := 1) (oi := { dst := some 76, op := Op.binOp BinOp.gtr 3 (Operand.tmp 75) (Operand.const (Value.int IntKind.i64 0)) 3, type := 4, pos := "law.go:150", after := #[{ on := 0, ground := Ground.data }], guard := none }) (v := ?_) rfl (by kernel_rfl) (by kernel_rfl) (by kernel_rfl) (fun _ _ _ h => h) (Or.inl ⟨by rfl, ?_⟩) hHeld ?_
          case refine_2 => (intro w hSw; (try dsimp only at hSw); go_simp; try (with_reducible rfl))
          try simp only [Act.put, List.setIfInBounds_toArray, List.set_cons_zero, List.set_cons_succ]
          refine wpAnyH_take (i := 2) (oi := { dst := some 77, op := Op.move (Operand.tmp 76), type := 4, pos := "law.go:150", after := #[{ on := 1, ground := Ground.data }], guard := none }) (v := ?_) rfl (by kernel_rfl) (by kernel_rfl) (by kernel_rfl) (fun _ _ _ h => h) (Or.inl ⟨by rfl, ?_⟩) hHeld ?_
          case refine_2 => (intro w hSw; (try dsimp only at hSw); go_simp; try (with_reducible rfl))
          try simp only [Act.put, List.setIfInBounds_toArray, List.set_cons_zero, List.set_cons_succ]
          refine wpAnyH_take (i := 3) (oi := { dst := some 78, op := Op.move (Operand.tmp 5), type := 28, pos := "law.go:150", after := #[{ on := 2, ground := Ground.guard }], guard := some (2, true) }) (v := ?_) rfl (by kernel_rfl) (by kernel_rfl) (by kernel_rfl) (fun _ _ _ h => h) (Or.inl ⟨by rfl, ?_⟩) hHeld ?_
          case refine_2 => (intro w hSw; (try dsimp only at hSw); go_simp; try (with_reducible rfl))
          try simp only [Act.put, List.setIfInBounds_toArray, List.set_cons_zero, List.set_cons_succ]
          refine wpAnyH_take (i := 4) (oi := { dst := some 79, op := Op.move (Operand.tmp 6), type := 3, pos := "law.go:150", after := #[{ on := 2, ground := Ground.guard }], guard := some (2, true) }) (v := ?_) rfl (by kernel_rfl) (by kernel_rfl) (by kernel_rfl) (fun _ _ _ h => h) (Or.inl ⟨by rfl, ?_⟩) hHeld ?_
          case refine_2 => (intro w hSw; (try dsimp only at hSw); go_simp; try (with_reducible rfl))
          try simp only [Act.put, List.setIfInBounds_toArray, List.set_cons_zero, List.set_cons_succ]
          refine wpAnyH_take (i := 5) (oi := { dst := some 80, op := Op.binOp BinOp.sub 3 (Operand.tmp 79) (Operand.const (Value.int IntKind.i64 1)) 3, type := 3, pos := "law.go:150", after := #[{ on := 4, ground := Ground.data }, { on := 2, ground := Ground.guard }], guard := some (2, true) }) (v := ?_) rfl (by kernel_rfl) (by kernel_rfl) (by kernel_rfl) (fun _ _ _ h => h) (Or.inl ⟨by rfl, ?_⟩) hHeld ?_
          case refine_2 => (intro w hSw; (try dsimp only at hSw); go_simp; try (with_reducible rfl))
          try simp only [Act.put, List.setIfInBounds_toArray, List.set_cons_zero, List.set_cons_succ]
          refine wpAnyH_take (i := 6) (oi := { dst := some 81, op := Op.indexAddr 28 (Operand.tmp 78) (Operand.tmp 80), type := 0, pos := "law.go:150", after := #[{ on := 3, ground := Ground.data }, { on := 5, ground := Ground.data }, { on := 2, ground := Ground.guard }], guard := some (2, true) }) (v := ?_) rfl (by kernel_rfl) (by kernel_rfl) (by kernel_rfl) (fun _ _ _ h => h) (Or.inl ⟨by rfl, ?_⟩) hHeld ?_
          case refine_2 => (intro w hSw; (try dsimp only at hSw); go_simp; try (with_reducible rfl))
          try simp only [Act.put, List.setIfInBounds_toArray, List.set_cons_zero, List.set_cons_succ]
          refine wpAnyH_take (i := 7) (oi := { dst := some 82, op := Op.fieldAddr 40 (Operand.tmp 81) 2, type := 0, pos := "law.go:150", after := #[{ on := 6, ground := Ground.data }, { on := 2, ground := Ground.guard }], guard := some (2, true) }) (v := ?_) rfl (by kernel_rfl) (by kernel_rfl) (by kernel_rfl) (fun _ _ _ h => h) (Or.inl ⟨by rfl, ?_⟩) hHeld ?_
          case refine_2 => (intro w hSw; (try dsimp only at hSw); go_simp; try (with_reducible rfl))
          try simp only [Act.put, List.setIfInBounds_toArray, List.set_cons_zero, List.set_cons_succ]
          refine wpAnyH_take (i := 8) (oi := { dst := some 83, op := Op.load 3 (Operand.tmp 82), type := 3, pos := "law.go:150", after := #[{ on := 7, ground := Ground.data }, { on := 2, ground := Ground.guard }], guard := some (2, true) }) (v := ?_) rfl (by kernel_rfl) (by kernel_rfl) (by kernel_rfl) (fun _ _ _ h => h) (Or.inl ⟨by rfl, ?_⟩) hHeld ?_
          case refine_2 => (intro w hSw; (try dsimp only at hSw); go_simp; try (with_reducible rfl))
          try simp only [Act.put, List.setIfInBounds_toArray, List.set_cons_zero, List.set_cons_succ]
          refine wpAnyH_take (i := 9) (oi := { dst := some 84, op := Op.fieldAddr 40 (Operand.tmp 7) 2, type := 0, pos := "law.go:150", after := #[{ on := 2, ground := Ground.guard }], guard := some (2, true) }) (v := ?_) rfl (by kernel_rfl) (by kernel_rfl) (by kernel_rfl) (fun _ _ _ h => h) (Or.inl ⟨by rfl, ?_⟩) hHeld ?_
          case refine_2 => (intro w hSw; (try dsimp only at hSw); go_simp; try (with_reducible rfl))
          try simp only [Act.put, List.setIfInBounds_toArray, List.set_cons_zero, List.set_cons_succ]
          refine wpAnyH_take (i := 10) (oi := { dst := some 85, op := Op.load 3 (Operand.tmp 84), type := 3, pos := "law.go:150", after := #[{ on := 9, ground := Ground.data }, { on := 2, ground := Ground.guard }], guard := some (2, true) }) (v := ?_) rfl (by kernel_rfl) (by kernel_rfl) (by kernel_rfl) (fun _ _ _ h => h) (Or.inl ⟨by rfl, ?_⟩) hHeld ?_
          case refine_2 => (intro w hSw; (try dsimp only at hSw); go_simp; try (with_reducible rfl))
          try simp only [Act.put, List.setIfInBounds_toArray, List.set_cons_zero, List.set_cons_succ]
          refine wpAnyH_take (i := 11) (oi := { dst := some 86, op := Op.binOp BinOp.gtr 3 (Operand.tmp 83) (Operand.tmp 85) 3, type := 4, pos := "law.go:150", after := #[{ on := 8, ground := Ground.data }, { on := 10, ground := Ground.data }, { on := 2, ground := Ground.guard }], guard := some (2, true) }) (v := ?_) rfl (by kernel_rfl) (by kernel_rfl) (by kernel_rfl) (fun _ _ _ h => h) (Or.inl ⟨by rfl, ?_⟩) hHeld ?_
          case refine_2 => (intro w hSw; (try dsimp only at hSw); go_simp; try (with_reducible rfl))
          try simp only [Act.put, List.setIfInBounds_toArray, List.set_cons_zero, List.set_cons_succ]
          refine wpAnyH_take (i := 12) (oi := { dst := some 87, op := Op.move (Operand.tmp 86), type := 4, pos := "law.go:150", after := #[{ on := 11, ground := Ground.data }, { on := 2, ground := Ground.chain }, { on := 2, ground := Ground.guard }], guard := some (2, true) }) (v := ?_) rfl (by kernel_rfl) (by kernel_rfl) (by kernel_rfl) (fun _ _ _ h => h) (Or.inl ⟨by rfl, ?_⟩) hHeld ?_
          case refine_2 => (intro w hSw; (try dsimp only at hSw); go_simp; try (with_reducible rfl))
          try simp only [Act.put, List.setIfInBounds_toArray, List.set_cons_zero, List.set_cons_succ]
          refine wpAnyH_take (i := 13) (oi := { dst := some 88, op := Op.move (Operand.tmp 5), type := 28, pos := "law.go:150", after := #[{ on := 12, ground := Ground.guard }], guard := some (12, false) }) (v := ?_) rfl (by kernel_rfl) (by kernel_rfl) (by kernel_rfl) (fun _ _ _ h => h) (Or.inl ⟨by rfl, ?_⟩) hHeld ?_
          case refine_2 => (intro w hSw; (try dsimp only at hSw); go_simp; try (with_reducible rfl))
          try simp only [Act.put, List.setIfInBounds_toArray, List.set_cons_zero, List.set_cons_succ]
          refine wpAnyH_take (i := 14) (oi := { dst := some 89, op := Op.move (Operand.tmp 6), type := 3, pos := "law.go:150", after := #[{ on := 12, ground := Ground.guard }], guard := some (12, false) }) (v := ?_) rfl (by kernel_rfl) (by kernel_rfl) (by kernel_rfl) (fun _ _ _ h => h) (Or.inl ⟨by rfl, ?_⟩) hHeld ?_
          case refine_2 => (intro w hSw; (try dsimp only at hSw); go_simp; try (with_reducible rfl))
          try simp only [Act.put, List.setIfInBounds_toArray, List.set_cons_zero, List.set_cons_succ]
          refine wpAnyH_take (i := 15) (oi := { dst := some 90, op := Op.binOp BinOp.sub 3 (Operand.tmp 89) (Operand.const (Value.int IntKind.i64 1)) 3, type := 3, pos := "law.go:150", after := #[{ on := 14, ground := Ground.data }, { on := 12, ground := Ground.guard }], guard := some (12, false) }) (v := ?_) rfl (by kernel_rfl) (by kernel_rfl) (by kernel_rfl) (fun _ _ _ h => h) (Or.inl ⟨by rfl, ?_⟩) hHeld ?_
          case refine_2 => (intro w hSw; (try dsimp only at hSw); go_simp; try (with_reducible rfl))
          try simp only [Act.put, List.setIfInBounds_toArray, List.set_cons_zero, List.set_cons_succ]
          refine wpAnyH_take (i := 16) (oi := { dst := some 91, op := Op.indexAddr 28 (Operand.tmp 88) (Operand.tmp 90), type := 0, pos := "law.go:150", after := #[{ on := 13, ground := Ground.data }, { on := 15, ground := Ground.data }, { on := 12, ground := Ground.guard }], guard := some (12, false) }) (v := ?_) rfl (by kernel_rfl) (by kernel_rfl) (by kernel_rfl) (fun _ _ _ h => h) (Or.inl ⟨by rfl, ?_⟩) hHeld ?_
          case refine_2 => (intro w hSw; (try dsimp only at hSw); go_simp; try (with_reducible rfl))
          try simp only [Act.put, List.setIfInBounds_toArray, List.set_cons_zero, List.set_cons_succ]
          refine wpAnyH_take (i := 17) (oi := { dst := some 92, op := Op.fieldAddr 40 (Operand.tmp 91) 2, type := 0, pos := "law.go:150", after := #[{ on := 16, ground := Ground.data }, { on := 12, ground := Ground.guard }], guard := some (12, false) }) (v := ?_) rfl (by kernel_rfl) (by kernel_rfl) (by kernel_rfl) (fun _ _ _ h => h) (Or.inl ⟨by rfl, ?_⟩) hHeld ?_
          case refine_2 => (intro w hSw; (try dsimp only at hSw); go_simp; try (with_reducible rfl))
          try simp only [Act.put, List.setIfInBounds_toArray, List.set_cons_zero, List.set_cons_succ]
          refine wpAnyH_take (i := 18) (oi := { dst := some 93, op := Op.load 3 (Operand.tmp 92), type := 3, pos := "law.go:150", after := #[{ on := 17, ground := Ground.data }, { on := 12, ground := Ground.guard }], guard := some (12, false) }) (v := ?_) rfl (by kernel_rfl) (by kernel_rfl) (by kernel_rfl) (fun _ _ _ h => h) (Or.inl ⟨by rfl, ?_⟩) hHeld ?_
          case refine_2 => (intro w hSw; (try dsimp only at hSw); go_simp; try (with_reducible rfl))
          try simp only [Act.put, List.setIfInBounds_toArray, List.set_cons_zero, List.set_cons_succ]
          refine wpAnyH_take (i := 19) (oi := { dst := some 94, op := Op.fieldAddr 40 (Operand.tmp 7) 2, type := 0, pos := "law.go:150", after := #[{ on := 12, ground := Ground.guard }], guard := some (12, false) }) (v := ?_) rfl (by kernel_rfl) (by kernel_rfl) (by kernel_rfl) (fun _ _ _ h => h) (Or.inl ⟨by rfl, ?_⟩) hHeld ?_
          case refine_2 => (intro w hSw; (try dsimp only at hSw); go_simp; try (with_reducible rfl))
          try simp only [Act.put, List.setIfInBounds_toArray, List.set_cons_zero, List.set_cons_succ]
          refine wpAnyH_take (i := 20) (oi := { dst := some 95, op := Op.load 3 (Operand.tmp 94), type := 3, pos := "law.go:150", after := #[{ on := 19, ground := Ground.data }, { on := 12, ground := Ground.guard }], guard := some (12, false) }) (v := ?_) rfl (by kernel_rfl) (by kernel_rfl) (by kernel_rfl) (fun _ _ _ h => h) (Or.inl ⟨by rfl, ?_⟩) hHeld ?_
          case refine_2 => (intro w hSw; (try dsimp only at hSw); go_simp; try (with_reducible rfl))
          try simp only [Act.put, List.setIfInBounds_toArray, List.set_cons_zero, List.set_cons_succ]
          refine wpAnyH_take (i := 21) (oi := { dst := some 96, op := Op.binOp BinOp.eql 3 (Operand.tmp 93) (Operand.tmp 95) 3, type := 4, pos := "law.go:150", after := #[{ on := 18, ground := Ground.data }, { on := 20, ground := Ground.data }, { on := 12, ground := Ground.guard }], guard := some (12, false) }) (v := ?_) rfl (by kernel_rfl) (by kernel_rfl) (by kernel_rfl) (fun _ _ _ h => h) (Or.inl ⟨by rfl, ?_⟩) hHeld ?_
          case refine_2 => (intro w hSw; (try dsimp only at hSw); go_simp; try (with_reducible rfl))
          try simp only [Act.put, List.setIfInBounds_toArray, List.set_cons_zero, List.set_cons_succ]
          refine wpAnyH_take (i := 22) (oi := { dst := some 97, op := Op.move (Operand.tmp 96), type := 4, pos := "law.go:150", after := #[{ on := 21, ground := Ground.data }, { on := 12, ground := Ground.chain }, { on := 12, ground := Ground.guard }], guard := some (12, false) }) (v := ?_) rfl (by kernel_rfl) (by kernel_rfl) (by kernel_rfl) (fun _ _ _ h => h) (Or.inl ⟨by rfl, ?_⟩) hHeld ?_
          case refine_2 => (intro w hSw; (try dsimp only at hSw); go_simp; try (with_reducible rfl))
          try simp only [Act.put, List.setIfInBounds_toArray, List.set_cons_zero, List.set_cons_succ]
          refine wpAnyH_take (i := 23) (oi := { dst := some 98, op := Op.move (Operand.tmp 5), type := 28, pos := "law.go:150", after := #[{ on := 22, ground := Ground.guard }], guard := some (22, true) }) (v := undef) rfl (by kernel_rfl) (by kernel_rfl) (by kernel_rfl) (fun _ _ _ h => h) (Or.inr ⟨by rfl, rfl⟩) hHeld ?_
          try simp only [Act.put, List.setIfInBounds_toArray, List.set_cons_zero, List.set_cons_succ]
          refine wpAnyH_take (i := 24) (oi := { dst := some 99, op := Op.move (Operand.tmp 6), type := 3, pos := "law.go:150", after := #[{ on := 22, ground := Ground.guard }], guard := some (22, true) }) (v := undef) rfl (by kernel_rfl) (by kernel_rfl) (by kernel_rfl) (fun _ _ _ h => h) (Or.inr ⟨by rfl, rfl⟩) hHeld ?_
          try simp only [Act.put, List.setIfInBounds_toArray, List.set_cons_zero, List.set_cons_succ]
          refine wpAnyH_take (i := 25) (oi := { dst := some 100, op := Op.binOp BinOp.sub 3 (Operand.tmp 99) (Operand.const (Value.int IntKind.i64 1)) 3, type := 3, pos := "law.go:150", after := #[{ on := 24, ground := Ground.data }, { on := 22, ground := Ground.guard }], guard := some (22, true) }) (v := undef) rfl (by kernel_rfl) (by kernel_rfl) (by kernel_rfl) (fun _ _ _ h => h) (Or.inr ⟨by rfl, rfl⟩) hHeld ?_
          try simp only [Act.put, List.setIfInBounds_toArray, List.set_cons_zero, List.set_cons_succ]
          refine wpAnyH_take (i := 26) (oi := { dst := some 101, op := Op.indexAddr 28 (Operand.tmp 98) (Operand.tmp 100), type := 0, pos := "law.go:150", after := #[{ on := 23, ground := Ground.data }, { on := 25, ground := Ground.data }, { on := 22, ground := Ground.guard }], guard := some (22, true) }) (v := undef) rfl (by kernel_rfl) (by kernel_rfl) (by kernel_rfl) (fun _ _ _ h => h) (Or.inr ⟨by rfl, rfl⟩) hHeld ?_
          try simp only [Act.put, List.setIfInBounds_toArray, List.set_cons_zero, List.set_cons_succ]
          refine wpAnyH_take (i := 27) (oi := { dst := some 102, op := Op.fieldAddr 40 (Operand.tmp 101) 3, type := 0, pos := "law.go:150", after := #[{ on := 26, ground := Ground.data }, { on := 22, ground := Ground.guard }], guard := some (22, true) }) (v := undef) rfl (by kernel_rfl) (by kernel_rfl) (by kernel_rfl) (fun _ _ _ h => h) (Or.inr ⟨by rfl, rfl⟩) hHeld ?_
          try simp only [Act.put, List.setIfInBounds_toArray, List.set_cons_zero, List.set_cons_succ]
          refine wpAnyH_take (i := 28) (oi := { dst := some 103, op := Op.load 3 (Operand.tmp 102), type := 3, pos := "law.go:150", after := #[{ on := 27, ground := Ground.data }, { on := 22, ground := Ground.guard }], guard := some (22, true) }) (v := undef) rfl (by kernel_rfl) (by kernel_rfl) (by kernel_rfl) (fun _ _ _ h => h) (Or.inr ⟨by rfl, rfl⟩) hHeld ?_
          try simp only [Act.put, List.setIfInBounds_toArray, List.set_cons_zero, List.set_cons_succ]
          refine wpAnyH_take (i := 29) (oi := { dst := some 104, op := Op.fieldAddr 40 (Operand.tmp 7) 3, type := 0, pos := "law.go:150", after := #[{ on := 22, ground := Ground.guard }], guard := some (22, true) }) (v := undef) rfl (by kernel_rfl) (by kernel_rfl) (by kernel_rfl) (fun _ _ _ h => h) (Or.inr ⟨by rfl, rfl⟩) hHeld ?_
          try simp only [Act.put, List.setIfInBounds_toArray, List.set_cons_zero, List.set_cons_succ]
          refine wpAnyH_take (i := 30) (oi := { dst := some 105, op := Op.load 3 (Operand.tmp 104), type := 3, pos := "law.go:150", after := #[{ on := 29, ground := Ground.data }, { on := 22, ground := Ground.guard }], guard := some (22, true) }) (v := undef) rfl (by kernel_rfl) (by kernel_rfl) (by kernel_rfl) (fun _ _ _ h => h) (Or.inr ⟨by rfl, rfl⟩) hHeld ?_
          try simp only [Act.put, List.setIfInBounds_toArray, List.set_cons_zero, List.set_cons_succ]
          refine wpAnyH_take (i := 31) (oi := { dst := some 106, op := Op.binOp BinOp.geq 3 (Operand.tmp 103) (Operand.tmp 105) 3, type := 4, pos := "law.go:150", after := #[{ on := 28, ground := Ground.data }, { on := 30, ground := Ground.data }, { on := 22, ground := Ground.guard }], guard := some (22, true) }) (v := undef) rfl (by kernel_rfl) (by kernel_rfl) (by kernel_rfl) (fun _ _ _ h => h) (Or.inr ⟨by rfl, rfl⟩) hHeld ?_
          try simp only [Act.put, List.setIfInBounds_toArray, List.set_cons_zero, List.set_cons_succ]
          refine wpAnyH_take (i := 32) (oi := { dst := some 107, op := Op.pick (Operand.tmp 97) (Operand.tmp 106) (Operand.const (Value.bool false)), type := 4, pos := "law.go:150", after := #[{ on := 22, ground := Ground.data }, { on := 31, ground := Ground.data }, { on := 12, ground := Ground.guard }], guard := some (12, false) }) (v := ?_) rfl (by kernel_rfl) (by kernel_rfl) (by kernel_rfl) (fun _ _ _ h => h) (Or.inl ⟨by rfl, ?_⟩) hHeld ?_
          case refine_2 => (intro w hSw; (try dsimp only at hSw); go_simp; try (with_reducible rfl))
          try simp only [Act.put, List.setIfInBounds_toArray, List.set_cons_zero, List.set_cons_succ]
          refine wpAnyH_take (i := 33) (oi := { dst := some 108, op := Op.pick (Operand.tmp 87) (Operand.const (Value.bool true)) (Operand.tmp 107), type := 4, pos := "law.go:150", after := #[{ on := 12, ground := Ground.data }, { on := 32, ground := Ground.data }, { on := 2, ground := Ground.guard }], guard := some (2, true) }) (v := ?_) rfl (by kernel_rfl) (by kernel_rfl) (by kernel_rfl) (fun _ _ _ h => h) (Or.inl ⟨by rfl, ?_⟩) hHeld ?_
          case refine_2 => (intro w hSw; (try dsimp only at hSw); go_simp; try (with_reducible rfl))
          try simp only [Act.put, List.setIfInBounds_toArray, List.set_cons_zero, List.set_cons_succ]
          refine wpAnyH_take (i := 34) (oi := { dst := some 109, op := Op.pick (Operand.tmp 77) (Operand.tmp 108) (Operand.const (Value.bool false)), type := 4, pos := "law.go:150", after := #[{ on := 2, ground := Ground.data }, { on := 33, ground := Ground.data }], guard := none }) (v := ?_) rfl (by kernel_rfl) (by kernel_rfl) (by kernel_rfl) (fun _ _ _ h => h) (Or.inl ⟨by rfl, ?_⟩) hHeld ?_
          case refine_2 => (intro w hSw; (try dsimp only at hSw); go_simp; try (with_reducible rfl))
          try simp only [Act.put, List.setIfInBounds_toArray, List.set_cons_zero, List.set_cons_succ]
          refine wpAnyH_done (by kernel_rfl) ?_ _
          go_wp2_with fail
          go_roundg (gk - 1)
          case measure => have := HK.out; omega
          case rel => exact ⟨k' + 1 + 1, by have := HK.out; omega, by go_num, Lib.hid (HG.out.trans (GV.out.trans (Gr.drewN _ _)))⟩
        · have t6 : ¬ (fi ≤ pi) := by omega
          rw [hpm] at p2 t5
          clear hpm hlt2
          go_upto_region 12 with fail
          obtain ⟨V, eV, GV, BV⟩ : ∃ V, wo.alloc (.cells #[.int .i64 fe, .int .i64 0, .int .i64 fm, .int .i64 fi] 40) = V ∧ Hid (Gr wo V) ∧ Hid (V.heap[wo.heap.size]? = some (.cells #[.int .i64 fe, .int .i64 0, .int .i64 fm, .int .i64 fi] 40 (0, 0))) := ⟨_, rfl, Lib.hid (Gr.alloc _ _), Lib.hid (new_at _ _)⟩
          rw [eV]
          clear eV c0 c1 cc2 c3
          have y0 : V.cell? ⟨wo.heap.size, 0, none⟩ = some (.int .i64 fe) := by rw [cell_at BV.out]; rfl
          have y1 : V.cell? ⟨wo.heap.size, 1, none⟩ = some (.int .i64 0) := by rw [cell_at BV.out]; rfl
          have y2 : V.cell? ⟨wo.heap.size, 2, none⟩ = some (.int .i64 fm) := by rw [cell_at BV.out]; rfl
          have y3 : V.cell? ⟨wo.heap.size, 3, none⟩ = some (.int .i64 fi) := by rw [cell_at BV.out]; rfl
          replace a0 := gr_cell GV.out (World.block_lt_of_cell? _ _ a0) a0
          replace m3 := gr_cell GV.out (World.block_lt_of_cell? _ _ m3) m3
          replace p2 := gr_cell GV.out (World.block_lt_of_cell? _ _ p2) p2
          replace p3 := gr_cell GV.out (World.block_lt_of_cell? _ _ p3) p3
          go_quiet (fail)
          go_wp2_with fail
          go_quiet (fail)
          go_wp2_with fail
          go_roundg (gk - 1)
          case measure => have := HK.out; omega
          case rel => exact ⟨k' + 1 + 1, by have := HK.out; omega, by go_num, Lib.hid (HG.out.trans (GV.out.trans (Gr.drewN _ _)))⟩
    · obtain rfl : k = fs.length := by omega
      have hd1 : ¬ ((fs.length : Int) < (fs.length : Int)) := by omega
      clear hlt hkl
      go_wp2_with fail
      go_ret
      exact ⟨rfl, G3.out.trans HG.out⟩
end Go.Proofs.Ytjkaeabnjkhllaa
