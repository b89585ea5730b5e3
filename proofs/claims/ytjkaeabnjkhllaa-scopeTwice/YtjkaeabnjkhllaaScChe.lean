/-
  Check, WALKED.
-/
import Derived.Test.YtjkaeabnjkhllaaScChm
namespace Go.Proofs.Ytjkaeabnjkhllaa
open Go.RowKit

set_option maxRecDepth 100000 in
set_option maxHeartbeats 4000000 in
theorem Check_any (ms : List Mo) (mA : Option Addr) (mC : Nat) (w : World) (hok : Hid (DsOk ms)) (hms : Hid (ModsAt w ms (.slice mA ms.length mC))) (hml : Hid (∃ z : Int, w.cell? ⟨0, 0, none⟩ = some (.int .i64 z))) :
    Calls Try.prog 14 #[.agg #[.slice mA ms.length mC]] w (ChkRet w ms) := by
  obtain ⟨i0, hi0, hz0, hz1, hz2⟩ := info_parts info40
  have HI0 := Lib.hid (And.intro hi0 (And.intro hz0 (And.intro hz1 hz2)))
  have hmax := hok.out.len
  clear hi0 hz0 hz1 hz2
  rcases Nat.eq_zero_or_pos ms.length with h0 | hpos
  · rw [h0]
    have HZ := Lib.hid h0
    clear h0
    go_enter Try.func14, Try.ntmps14
    go_wp2_with fail
    go_ret
    have hnew := new_at (w.alloc (.cells #[.slice mA 0 mC] 24)) (.cells #[.int .i64 51, .int .i64 0, .int .i64 0, .int .i64 (-1)] 40)
    rw [World.size_alloc] at hnew
    exact ⟨_, _, [(51, 0, -1)], rfl, rowc_block hnew rfl (by simp [ftCells]) rfl (by unfold maxLen; simp), .inl ⟨HZ.out, rfl⟩, (Gr.alloc _ _).trans (Gr.alloc _ _)⟩
  have q0 : ((ms.length : Int) == 0) = false := by rw [beq_eq_false_iff_ne]; omega
  have NC := Lib.hid (newChecker_any ms mA mC (w.alloc (.cells #[.slice mA ms.length mC] 24)) (by omega) (Lib.hid (hms.out.gr (Gr.alloc _ _))))
  go_enter Try.func14, Try.ntmps14
  go_upto_region 6 with (go_at_call 26; refine NC.out.mono ?_; rintro e w1 ⟨fb, fA, fn, fC, tb, rfl, hck, hg1⟩; have HCK := Lib.hid hck; have G1 := Lib.hid ((Gr.alloc w (.cells #[.slice mA ms.length mC] 24)).trans hg1); have BD := Lib.hid (hg1.keep (new_at w (.cells #[.slice mA ms.length mC] 24))); clear hck hg1; have b0 : w1.cell? ⟨w.heap.size, 0, none⟩ = some (.slice mA ms.length mC) := (by rw [cell_at BD.out]; rfl); have ltb := heap_lt BD.out)
  obtain ⟨W, eW, GW, B3⟩ : ∃ W, w1.alloc (.cells #[.slice mA ms.length mC, .map (some fb), .slice fA fn fC, .map (some tb)] 70) = W ∧ Hid (Gr w1 W) ∧ Hid (W.heap[w1.heap.size]? = some (.cells #[.slice mA ms.length mC, .map (some fb), .slice fA fn fC, .map (some tb)] 70 (0, 0))) := ⟨_, rfl, Lib.hid (Gr.alloc _ _), Lib.hid (new_at _ _)⟩
  rw [eW]
  have HWS := Lib.hid (show W.heap.size = w1.heap.size + 1 by rw [← eW]; simp)
  clear eW b0 ltb q0 NC BD
  have HAT := Lib.hid (show ∀ u, Gr W u → (u.cell? ⟨w1.heap.size, 0, none⟩ = some (.slice mA ms.length mC) ∧ u.cell? ⟨w1.heap.size, 1, none⟩ = some (.map (some fb)) ∧ u.cell? ⟨w1.heap.size, 2, none⟩ = some (.slice fA fn fC) ∧ u.cell? ⟨w1.heap.size, 3, none⟩ = some (.map (some tb))) from fun u hu => ⟨by rw [cell_at (hu.keep B3.out)]; rfl, by rw [cell_at (hu.keep B3.out)]; rfl, by rw [cell_at (hu.keep B3.out)]; rfl, by rw [cell_at (hu.keep B3.out)]; rfl⟩)
  go_loopg [24, 4] ms.length (fun g y z wr => ∃ (k : Nat) (v : Value) (fs : List Ft), k + g = ms.length ∧ y = .int .i64 (k : Nat) ∧ v = z ∧ Hid (FsI W wr v fs) ∧ Hid (MOut ms k fs))
  case atStart => exact ⟨0, .slice none 0 0, [], by omega, rfl, rfl, Lib.hid ⟨Gr.refl _, World.ownsRow_nil _ _ _ _, fun _ => rfl⟩, Lib.hid .nil⟩
  case round =>
    obtain ⟨k, v, fs, hkg, rfl, rfl, HI, HM⟩ := hrel
    obtain ⟨wo, rfl⟩ : ∃ x, x = wr := ⟨_, rfl⟩
    have HK := Lib.hid hkg
    have hkl : k ≤ ms.length := by omega
    clear hkg
    by_cases hlt : k < ms.length
    · obtain ⟨md, hmd⟩ : ∃ md, ms[k]? = some md := ⟨_, List.getElem?_eq_getElem hlt⟩
      obtain ⟨g, o, pA, pC, qA, qC, iA, iC, rfl, _, hg, hr, hmo⟩ := mod_cells hms.out hmd
      have G0 := Lib.hid (G1.out.trans (GW.out.trans HI.out.gr))
      have hr' := range_gr hr hg G0.out
      have c0 := hr' 0 _ rfl
      have c1 := hr' 1 _ rfl
      have c2 := hr' 2 _ rfl
      have c3 := hr' 3 _ rfl
      rw [Nat.add_zero] at c0
      have hd1 : (k : Int) < (ms.length : Int) := by omega
      have hd0 : (0 : Int) ≤ (k : Int) := by omega
      have HMK := Lib.hid hmd
      have HMO := Lib.hid hmo
      have HMM := Lib.hid (List.mem_of_getElem? hmd)
      clear hr hr' hg hmo hmd
      obtain ⟨a0, a1, a2, a3⟩ := HAT.out wo HI.out.gr
      have lt3 := World.block_lt_of_cell? _ _ a0
      have MD := Lib.hid (fun (u : World) (hu : Gr W u) => module_any ms k md (some ⟨g, o, none⟩) fA ms.length mC fn fC fb tb u (hok.out.heads md HMM.out) HMK (Lib.hid (HCK.out.gr (GW.out.trans hu))))
      have NB := Lib.hid (new_at wo (.cells #[.string md.name, .slice pA md.params.length pC, .slice qA md.ports.length qC, .slice iA md.items.length iC] 34))
      go_upto_region 9 with (go_at_call 27; refine (MD.out _ (HI.out.gr.trans (Gr.alloc _ _))).mono ?_; rintro e w2 ⟨rfl, hg2⟩; have G2 := Lib.hid ((Gr.alloc _ _).trans hg2); have B5 := Lib.hid (hg2.keep NB.out); clear hg2)
      clear a0 a1 a2 a3 c0 c1 c2 c3 NB MD
      have HFI := Lib.hid (HI.out.gr' G2.out)
      have HBD := Lib.hid (show fs.length ≤ 20000 by have h1 := mout_len HM.out hok.out.items; omega)
      obtain ⟨w3, v3, fs3, hw3⟩ : ∃ (w3 : World) (v3 : Value) (fs3 : List Ft), True := ⟨w2, v, fs, trivial⟩
      clear w3 v3 fs3 hw3
      by_cases hz : modErr ms k md = 0
      case' pos =>
        have q : (((modErr ms k md : Nat) : Int) != 0) = false := by rw [hz]; rfl
        have H3 := Lib.hid (show fs = fs ++ (if modErr ms k md ≠ 0 then [(modErr ms k md, k, -1)] else []) by rw [if_neg (by simpa using hz)]; simp)
        clear hz
        go_upto_region 11 with fail
        obtain ⟨w3, rfl⟩ : ∃ x, x = w2 := ⟨_, rfl⟩
        obtain ⟨v3, rfl⟩ : ∃ x, x = v := ⟨_, rfl⟩
        obtain ⟨fs3, e3⟩ : ∃ x, x = fs := ⟨_, rfl⟩
        have HF3 := Lib.hid (show FsI W w3 v3 fs3 by rw [e3]; exact HFI.out)
        have HM3 := Lib.hid (show fs3 = fs ++ (if modErr ms k md ≠ 0 then [(modErr ms k md, k, -1)] else []) by rw [e3]; exact H3.out)
        clear e3 H3 q HFI
      case' neg =>
        have q : (((modErr ms k md : Nat) : Int) != 0) = true := by simp; omega
        have H3 := Lib.hid (show fs ++ [(modErr ms k md, k, (-1 : Int))] = fs ++ (if modErr ms k md ≠ 0 then [(modErr ms k md, k, -1)] else []) by rw [if_pos hz])
        clear hz
        go_upto_region 11 with (at_builtin; refine wpList_append_own _ rfl _ _ 28 rfl W.heap.size 40 i0 _ 4 32 Try.underlying28 HI0.out.1 HI0.out.2.1 HI0.out.2.2.1 HI0.out.2.2.2 rfl (by decide) v fs.length (fs.map ftCells).flatten rfl (HFI.out.row.kept (row := none) (Gr.alloc _ _) (by cases hv : v.ownBlock with | none => exact .inl rfl | some k => exact .inr (by simp))) ⟨w2.heap.size, 0, none⟩ 1 1 (ftCells (modErr ms k md, k, (-1 : Int))) rfl rfl (fun j u hu => by rw [add_zero', cell_at (new_at w2 _)]; simpa [ftCells] using hu) (by simp [ftCells, Value.oneCell']) (by have := HBD.out; unfold maxLen; omega) (by have := HBD.out; omega) (Nat.le_trans HFI.out.gr.size (by simp)) ?_; intro v' w5 hown hgrow _; have HN := Lib.hid (fs_app HFI.out hgrow (by simpa using hown)); clear hown hgrow)
        obtain ⟨w3, rfl⟩ : ∃ x, x = w5 := ⟨_, rfl⟩
        obtain ⟨v3, rfl⟩ : ∃ x, x = v' := ⟨_, rfl⟩
        obtain ⟨fs3, e3⟩ : ∃ x, x = fs ++ [(modErr ms k md, k, (-1 : Int))] := ⟨_, rfl⟩
        have HF3 := Lib.hid (show FsI W w3 v3 fs3 by rw [e3]; exact HN.out.1)
        have HM3 := Lib.hid (show fs3 = fs ++ (if modErr ms k md ≠ 0 then [(modErr ms k md, k, -1)] else []) by rw [e3]; exact H3.out)
        replace B5 := Lib.hid (HN.out.2 _ _ B5.out (by simp))
        clear e3 H3 q HFI HN
      all_goals
        have a0 : w3.cell? ⟨wo.heap.size, 0, none⟩ = some (.string md.name) := by rw [cell_at B5.out]; rfl
        have a1 : w3.cell? ⟨wo.heap.size, 1, none⟩ = some (.slice pA md.params.length pC) := by rw [cell_at B5.out]; rfl
        have a2 : w3.cell? ⟨wo.heap.size, 2, none⟩ = some (.slice qA md.ports.length qC) := by rw [cell_at B5.out]; rfl
        have a3 : w3.cell? ⟨wo.heap.size, 3, none⟩ = some (.slice iA md.items.length iC) := by rw [cell_at B5.out]; rfl
        have RP := Lib.hid (repeats_any md pA qA iA pC qC iC w3 (Lib.hid (HMO.out.gr (G1.out.trans (GW.out.trans HF3.out.gr)))))
        go_upto_region 13 with (go_at_call 28; refine RP.out.mono ?_; rintro e w4 ⟨rfl, htk, hg4⟩; have HTK := Lib.hid htk; have G4 := Lib.hid hg4; have ltx := heap_lt B5.out; have lty := hg4.size; have a3 := gr_cell hg4 (World.block_lt_of_cell? _ _ a3) a3; clear htk hg4)
        clear a0 a1 a2 a3 RP
        have HTS := Lib.hid (show w3.heap.size + 2 < w4.heap.size from World.block_lt_of_cell? _ _ HTK.out.1)
        go_loopg [45, 4] md.items.length (fun g y z wi => ∃ (j : Nat) (v2 : Value) (o2 : List Ft), j + g = md.items.length ∧ y = .int .i64 (j : Nat) ∧ v2 = z ∧ Hid (FsI W wi v2 (fs3 ++ o2)) ∧ Hid (IOut ms k md j o2) ∧ Hid (TkAt wi (w3.heap.size + 2) (w3.heap.size + 1) (aheadNames md j) ∧ w4.heap.size ≤ wi.heap.size))
        case atStart => exact ⟨0, v3, [], by omega, rfl, rfl, Lib.hid (by rw [List.append_nil]; exact HF3.out.gr' G4.out), Lib.hid .nil, Lib.hid ⟨by have := HTK.out; unfold aheadNames; simpa using this, Nat.le_refl _⟩⟩
        case round =>
          obtain ⟨j, v2, o2, hjg, rfl, rfl, HF4, HO, HTI⟩ := hrel
          have HJ := Lib.hid hjg
          have hjl : j ≤ md.items.length := by omega
          clear hjg
          obtain ⟨wi, rfl⟩ : ∃ x, x = wr := ⟨_, rfl⟩
          by_cases hlt2 : j < md.items.length
          · obtain ⟨x, hx⟩ : ∃ x, md.items[j]? = some x := ⟨_, List.getElem?_eq_getElem hlt2⟩
            obtain ⟨_, _, _, eM, _, _, css, m3, hcl, hcs⟩ := HMO.out
            simp at eM
            obtain ⟨rfl, rfl, rfl⟩ := eM
            obtain ⟨cs, e1, hit⟩ := hcs j x hx
            obtain ⟨g2, o2', rfl, hg2, hr2⟩ := m3.at e1
            have GI := Lib.hid (G1.out.trans (GW.out.trans HF4.out.gr))
            have HRI := Lib.hid (range_gr hr2 hg2 GI.out)
            have HX := Lib.hid (And.intro hx hit)
            have HS := Lib.hid (show (Try.prog.info? 49).map (·.size) = some cs.length by rw [size49, it_len hit])
            have HS' := Lib.hid (show (Try.prog.info? 49).map (·.size) = some cs.toArray.size by rw [size49, List.size_toArray, it_len hit])
            have HO1 := Lib.hid (it_one hit)
            have HL1 := Lib.hid (it_len hit)
            have hd2 : (j : Int) < (md.items.length : Int) := by omega
            have hd3 : (0 : Int) ≤ (j : Int) := by omega
            clear hx m3 hcl hcs e1 hit hr2 hg2
            go_upto_region 15 with (first
              | (refine wpList_load_mid (by rfl) 49 _ rfl g2 (o2' + j * 42) rfl cs _ HRI.out Try.underlying49 rfl HS.out ?_)
              | (refine wpList_store_new (by rfl) 49 _ _ rfl cs rfl rfl HL1.out.symm HS'.out HO1.out ?_; intro V hGV hCV; have GV := Lib.hid hGV; have CV := Lib.hid hCV; clear hGV hCV))
            simp only [Act.put]
            have hbm : w3.heap.size + 1 < wi.heap.size := by have := HTS.out; have := HTI.out.2; omega
            have hb3 : w1.heap.size < w3.heap.size + 1 := by have := HWS.out; have := HF3.out.gr.size; omega
            have hWb : W.heap.size ≤ w3.heap.size + 1 := by have := HF3.out.gr.size; omega
            have HAT2 := Lib.hid (show ∀ u, Fr (w3.heap.size + 1) V u → (u.cell? ⟨w1.heap.size, 0, none⟩ = some (.slice (some ⟨g, o, none⟩) ms.length mC) ∧ u.cell? ⟨w1.heap.size, 1, none⟩ = some (.map (some fb)) ∧ u.cell? ⟨w1.heap.size, 2, none⟩ = some (.slice fA fn fC) ∧ u.cell? ⟨w1.heap.size, 3, none⟩ = some (.map (some tb))) from fun u hu => by
              have hk := hu.keep ((HF4.out.gr.trans GV.out).keep B3.out) (by omega)
              exact ⟨by rw [cell_at hk]; rfl, by rw [cell_at hk]; rfl, by rw [cell_at hk]; rfl, by rw [cell_at hk]; rfl⟩)
            have HRG2 := Lib.hid (show ∀ u, Fr (w3.heap.size + 1) V u → u.rangeAt wi.heap.size 0 cs from fun u hu => range_of (hu.keep CV.out (by omega)))
            have HGU := Lib.hid (show ∀ u, Fr (w3.heap.size + 1) V u → Gr W u from fun u hu => Fr.gr (HF4.out.gr.trans GV.out) hu hWb)
            have HIM := Lib.hid (fun (u : World) (hu : Gr W u) => item_any ms k md x cs (twiceAt md j x) (some ⟨g, o, none⟩) fA ms.length mC fn fC fb tb u (by unfold maxLen; omega) HMK (Lib.hid (HX.out.2.gr (G1.out.trans (GW.out.trans hu)))) (Lib.hid (hok.out.its md HMM.out x (List.mem_of_getElem? HX.out.1))) (Lib.hid (HCK.out.gr (GW.out.trans hu))) (Lib.hid (by obtain ⟨z, hz⟩ := hml.out; exact ⟨z, gr_cell (G1.out.trans (GW.out.trans hu)) (World.block_lt_of_cell? _ _ hz) hz⟩)))
            have HTV := Lib.hid (HTI.out.1.gr (GV.out.trans (Gr.drew V)))
            refine wp_region_held_drew (S := Fr (w3.heap.size + 1) V) (by kernel_rfl) (show Fr (w3.heap.size + 1) V V.drew from ⟨rfl, rfl, rfl, Nat.le_refl _, fun _ _ _ => rfl⟩) (fun hHeld => ?_)
            obtain ⟨u0, eu0⟩ : ∃ x, x = V.drew := ⟨_, rfl⟩
            rw [← eu0] at hHeld HTV ⊢
            clear eu0
            refine wpAnyH_take (i := 0) (v := .agg #[.slice (some ⟨g, o, none⟩) ms.length mC, .map (some fb), .slice fA fn fC, .map (some tb)]) rfl (by kernel_rfl) (by kernel_rfl) (by kernel_rfl) (fun _ _ _ h => h) (Or.inl ⟨by rfl, by intro w hSw; have hCw := HAT2.out _ hSw; obtain ⟨z0, z1, z2, z3⟩ := hCw; go_simp; try rfl⟩) hHeld ?_
            try simp only [Act.put]
            refine wpAnyH_take (i := 1) (v := .int .i64 (k : Nat)) rfl (by kernel_rfl) (by kernel_rfl) (by kernel_rfl) (fun _ _ _ h => h) (Or.inl ⟨by rfl, by intro w hSw; have hCw := HAT2.out _ hSw; obtain ⟨z0, z1, z2, z3⟩ := hCw; go_simp; try rfl⟩) hHeld ?_
            try simp only [Act.put]
            refine wpAnyH_take (i := 2) (v := .agg cs.toArray) rfl (by kernel_rfl) (by kernel_rfl) (by kernel_rfl) (fun _ _ _ h => h) (yieldsIf_load_mid (by rfl) 49 _ rfl wi.heap.size 0 rfl cs _ (fun u hu => HRG2.out u hu) Try.underlying49 rfl HS.out) hHeld ?_
            try simp only [Act.put]
            refine wpAnyH_take (i := 3) (v := .func (.func 40) #[] #[.pointer (some ⟨w3.heap.size + 2, 0, none⟩)]) rfl (by kernel_rfl) (by kernel_rfl) (by kernel_rfl) (fun _ _ _ h => h) (Or.inl ⟨by rfl, by intro w hSw; have hCw := HAT2.out _ hSw; obtain ⟨z0, z1, z2, z3⟩ := hCw; go_simp; try rfl⟩) hHeld ?_
            try simp only [Act.put]
            refine wpAnyH_take (i := 4) (v := .agg cs.toArray) rfl (by kernel_rfl) (by kernel_rfl) (by kernel_rfl) (fun _ _ _ h => h) (yieldsIf_load_mid (by rfl) 49 _ rfl wi.heap.size 0 rfl cs _ (fun u hu => HRG2.out u hu) Try.underlying49 rfl HS.out) hHeld ?_
            try simp only [Act.put]
            refine wpAnyH_ready (rs := [5]) (by kernel_rfl) (by simp) ?_
            refine AllReadyH.cons rfl (fun K hK => ?_) AllReadyH.nil
            go_simp
            refine (rep1_any x cs (w3.heap.size + 2) (w3.heap.size + 1) (aheadNames md j) u0 (Lib.hid (HX.out.2.gr (G1.out.trans (GW.out.trans (HGU.out _ hHeld))))) HTV).mono ?_
            rintro e u1 ⟨rfl, hfr1, htk1⟩
            have HT1 := Lib.hid (And.intro hfr1 htk1)
            clear hfr1 htk1
            refine hK.out _ _ (hHeld.trans HT1.out.1) (fun hHeld2 => ?_)
            refine wpAnyH_ready (rs := [6]) (by kernel_rfl) (by simp) ?_
            refine AllReadyH.cons rfl (fun K hK => ?_) AllReadyH.nil
            rw [show (named x.kind && (aheadNames md j).contains x.name) = twiceAt md j x from rfl]
            have hg7 := HGU.out _ hHeld2
            go_simp
            refine (HIM.out _ hg7).mono ?_
            rintro e u2 ⟨r, rfl, hr1, hr2, hg8⟩
            have HR := Lib.hid (show ROk ms k md j x r from ⟨hr1, hr2⟩)
            have G8 := Lib.hid hg8
            clear hr1 hr2 hg8 hg7
            refine hK.out _ _ (hHeld2.trans ⟨G8.out.os, G8.out.tape, G8.out.output, G8.out.size, fun j hj _ => G8.out.block j hj (by simp)⟩) (fun hHeld3 => ?_)
            refine wpAnyH_ready (rs := [7]) (by kernel_rfl) (by simp) ?_
            refine AllReadyH.cons rfl (fun K hK => ?_) AllReadyH.nil
            go_simp
            refine hK.out _ _ hHeld3 (fun hHeld4 => ?_)
            refine wpAnyH_done (by kernel_rfl) ?_ _
            have HF6 := Lib.hid (show FsI W u2 v2 (fs3 ++ o2) from by
              obtain ⟨_, _, ⟨es, cl, q1, _⟩, _⟩ := HTI.out.1.gr GV.out
              exact (HF4.out.gr' GV.out).fr hHeld4 hWb q1)
            have HT6 := Lib.hid (show TkAt u2 (w3.heap.size + 2) (w3.heap.size + 1) (aheadNames md (j + 1)) from by
              rw [ahead_succ HX.out.1]
              exact HT1.out.2.gr G8.out)
            have HSU := Lib.hid (show w4.heap.size ≤ u2.heap.size from Nat.le_trans HTI.out.2 (Nat.le_trans GV.out.size hHeld4.size))
            have HBD2 := Lib.hid (show (fs3 ++ o2).length ≤ 60000 by
              have h1 := mout_len HM.out hok.out.items
              have h2 := iout_len HO.out
              have h3 := hok.out.items md HMM.out
              rw [HM3.out, List.length_append, List.length_append]
              split <;> simp <;> omega)
            clear hHeld hHeld2 hHeld3 hHeld4 HT1 HTV HIM HAT2 HRG2 HGU HRI HS HS' HO1 HL1 GI
            obtain ⟨f6, e6⟩ : ∃ f, f = fs3 ++ o2 := ⟨_, rfl⟩
            rw [← e6] at HF6 HBD2
            have HE6 := Lib.hid e6
            clear e6
            have hbi : md.items.length ≤ 100 := hok.out.items md HMM.out
            by_cases hz : r = 0
            · subst hz
              go_wp2_with fail
              go_roundg (gk - 1)
              case measure => have := HJ.out; omega
              case rel => exact ⟨j + 1, _, o2, by have := HJ.out; omega, by go_num, rfl, Lib.hid (by rw [← HE6.out]; exact HF6.out), Lib.hid (by have h := IOut.step j 0 x o2 HO.out HX.out.1 HR.out; simpa using h), Lib.hid ⟨HT6.out, HSU.out⟩⟩
            · have q : (((r : Nat) : Int) != 0) = true := by simp; omega
              have HZ := Lib.hid hz
              clear hz
              go_wp2_with (at_builtin; refine wpList_append_own _ rfl _ _ 28 rfl W.heap.size 40 i0 _ 4 32 Try.underlying28 HI0.out.1 HI0.out.2.1 HI0.out.2.2.1 HI0.out.2.2.2 rfl (by decide) v2 f6.length (f6.map ftCells).flatten rfl (HF6.out.row.kept (row := none) (Gr.alloc _ _) (by cases hv : v2.ownBlock with | none => exact .inl rfl | some k => exact .inr (by simp))) ⟨u2.heap.size, 0, none⟩ 1 1 (ftCells (r, k, (j : Int))) rfl rfl (fun j u hu => by rw [add_zero', cell_at (new_at u2 _)]; simpa [ftCells] using hu) (by simp [ftCells, Value.oneCell']) (by have := HBD2.out; unfold maxLen; omega) (by have := HBD2.out; omega) (Nat.le_trans HF6.out.gr.size (by simp)) ?_; intro v' w5 hown hgrow _; have HN := Lib.hid (And.intro (fs_app HF6.out hgrow (by simpa using hown)).1 (And.intro (tk_app HF6.out HT6.out hgrow (by simpa using hown)) (show u2.heap.size ≤ w5.heap.size by have := hgrow.size; simp at this; omega))); clear hown hgrow)
              go_roundg (gk - 1)
              case measure => have := HJ.out; omega
              case rel => exact ⟨j + 1, _, o2 ++ [(r, k, (j : Int))], by have := HJ.out; omega, by go_num, rfl, Lib.hid (by have h := HN.out.1; rw [HE6.out, List.append_assoc] at h; exact h), Lib.hid (by have h := IOut.step j r x o2 HO.out HX.out.1 HR.out; rw [if_pos HZ.out] at h; exact h), Lib.hid ⟨HN.out.2.1, Nat.le_trans HSU.out HN.out.2.2⟩⟩
          · obtain rfl : j = md.items.length := by omega
            have hd1 : ¬ ((md.items.length : Int) < (md.items.length : Int)) := by omega
            clear hlt2 hjl
            go_wp2_with fail
            go_roundg (ms.length - k - 1)
            case measure => have := HK.out; omega
            case rel => exact ⟨k + 1, _, fs3 ++ o2, by have := HK.out; omega, by go_num, rfl, HF4, Lib.hid (by have h := MOut.step k md fs o2 HM.out HMK.out HO.out; rw [← List.append_assoc, ← HM3.out] at h; exact h)⟩
    · obtain rfl : k = ms.length := by omega
      have hd1 : ¬ ((ms.length : Int) < (ms.length : Int)) := by omega
      clear hlt hkl
      go_wp2_with fail
      go_ret
      have hrc : RowC wo 4 v (fs.map ftCells) := own_rowc HI.out.row (fun c hc => by obtain ⟨f, _, rfl⟩ := List.mem_map.1 hc; rfl) (by simp) (by
        have h1 := mout_len HM.out hok.out.items
        unfold maxLen; omega)
      obtain ⟨A, c, hv⟩ := hrc.form
      rw [List.length_map] at hv
      subst hv
      exact ⟨A, c, fs, rfl, hrc, .inr ⟨hpos, HM.out⟩, G1.out.trans (GW.out.trans HI.out.gr)⟩
end Go.Proofs.Ytjkaeabnjkhllaa
