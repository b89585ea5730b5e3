/-
  rightCells, Right, WALKED.
-/
import Derived.Test.YtnkifhgkhgialaaNRgt
namespace Go.Proofs.Ytnkifhgkhgialaa
open Go.RowKit
open NetM

theorem placesF_mem (op : Int) : ∀ (l : List Nd) (i : Nat) (p : Int), p ∈ placesF op l i → ∃ k x, p = ((i + k : Nat) : Int) ∧ l[k]? = some x ∧ x.op = op
  | [], _, _, h => by simp [placesF] at h
  | y :: r, i, p, h => by
    simp only [placesF] at h
    have rest : p ∈ placesF op r (i + 1) → ∃ k x, p = ((i + k : Nat) : Int) ∧ (y :: r)[k]? = some x ∧ x.op = op := fun h => by
      obtain ⟨k, x, e, hx, ho⟩ := placesF_mem op r (i + 1) p h
      exact ⟨k + 1, x, by rw [e]; omega, by simpa using hx, ho⟩
    split at h
    · rcases List.mem_cons.1 h with rfl | h
      · exact ⟨0, y, rfl, rfl, by assumption⟩
      · exact rest h
    · exact rest h
theorem places_mem {l : List Nd} {op p : Int} (h : p ∈ places l op) : ∃ (k : Nat) (x : Nd), p = (k : Int) ∧ l[k]? = some x ∧ x.op = op := by
  obtain ⟨k, x, e, hx, ho⟩ := placesF_mem op l 0 p h
  exact ⟨k, x, by rw [e, Nat.zero_add], hx, ho⟩
theorem bits_step {l : List Nd} {cs : List Ce} {j : Nat} {x : Ce} (h : cs[j]? = some x) : bitsOf l (cs.take (j + 1)) = bitsOf l (cs.take j) + widA l x.node := by
  unfold bitsOf
  rw [List.take_add_one, h]
  simp
theorem bits_le {l : List Nd} (hw : WOk l) : ∀ cs : List Ce, 0 ≤ bitsOf l cs ∧ bitsOf l cs ≤ 16 * (cs.length : Int)
  | [] => by simp [bitsOf]
  | c :: r => by
    have h := bits_le hw r
    have h2 := widA_ok hw c.node
    unfold bitsOf at h ⊢
    simp only [List.map_cons, List.sum_cons, List.length_cons]
    omega
set_option maxRecDepth 100000 in
set_option maxHeartbeats 4000000 in
theorem rightCells_any (n : Nt) (v : Value) (w : World) (hs : Sz n) (hw : WOk n.nodes) (hn : Hid (NtAt w n v)) (b : Bool) (hb : Hid (b = true ↔ CellsOk n)) :
    Calls Try.prog 29 #[v] w fun e w' => e = .returned (.bool b) ∧ Gr w w' := by
  obtain ⟨z1, z2, z3, z4, z5⟩ := hs
  obtain ⟨A1, A2, A3, A4, A5, c1, c2, c3, c4, c5, rfl, hc1, h1, h2, h3, h4, h5⟩ := hn.out
  have H1 := Lib.hid h1
  have H2 := Lib.hid h2
  have H3 := Lib.hid h3
  have H4 := Lib.hid h4
  have H5 := Lib.hid h5
  clear h1 h2 h3 h4 h5
  obtain ⟨W0, eW, BW, KEEP⟩ : ∃ W0, w.alloc (.cells (bxC n A1 A2 A3 A4 A5 c1 c2 c3 c4 c5) 27) = W0 ∧ Hid (Gr w W0) ∧ Hid (∀ u, Gr W0 u → BxAt u w.heap.size n A1 A2 A3 A4 A5 c1 c2 c3 c4 c5) :=
    ⟨_, rfl, Lib.hid (bel_alloc _ _), Lib.hid fun u hu => bx_gr (bx_new w n A1 A2 A3 A4 A5 c1 c2 c3 c4 c5) (by simp) hu⟩
  obtain ⟨e0, e1, e2, e3, e4⟩ := KEEP.out W0 (Gr.refl _)
  obtain ⟨i0, hi, hz0, hz1, hz2⟩ := info_parts info3
  have HI := Lib.hid (And.intro hi (And.intro hz0 (And.intro hz1 hz2)))
  clear hi hz0 hz1 hz2
  go_enter Try.func29, Try.ntmps29
  go_wp2_with fail
  try rw [eW]
  clear eW
  go_wp2_with fail
  go_loopg [3, 13] n.cells.length (fun g v i wr => ∃ j : Nat, j + g = n.cells.length ∧ i = .int .i64 j ∧ Hid (wr.ownsRow W0.heap.size 3 1 v j (icells ((n.cells.take j).map Ce.node))) ∧ Hid (Gr W0 wr))
  case atStart => exact ⟨0, by omega, rfl, Lib.hid (World.ownsRow_nil _ _ _ _), Lib.hid (Gr.refl _)⟩
  case round =>
    obtain ⟨j, hjg, rfl, HO, HW⟩ := hrel
    have HJ := Lib.hid hjg
    have hjl : j ≤ n.cells.length := by omega
    clear hjg
    by_cases hlt : j < n.cells.length
    · have hs : n.cells[j]? = some n.cells[j] := List.getElem?_eq_getElem hlt
      generalize n.cells[j] = x at hs
      have HS := Lib.hid (map_step (f := Ce.node) hs)
      obtain ⟨bb, off, rfl, -, d0, d1, d2, d3⟩ := (H3.out.gr (Gr.trans BW.out HW.out)) j x hs
      clear hs
      have hi1 : (j : Int) < (n.cells.length : Int) := by omega
      have hi0 : (0 : Int) ≤ (j : Int) := by omega
      have hws := HW.out.size
      go_wp2_with (first
            | (at_builtin; refine wpList_append_own _ rfl _ _ 32 rfl W0.heap.size 3 i0 (.int .i64 0) 1 8 Try.underlying32 HI.out.1 HI.out.2.1 HI.out.2.2.1 HI.out.2.2.2 rfl (by decide) _ _ _ rfl ((HO.out.alloc _).alloc _) ⟨wr.heap.size + 1, 0, none⟩ 1 1 [.int .i64 (x.node)] rfl rfl (fun j' u hj => by have := int_new (wr.alloc (.cells #[.string x.s, .int .i64 x.node, .int .i64 x.next, .int .i64 x.reset] 43)) (.int .i64 (x.node)) 3 j' u hj; simpa using this) (fun x hx => by simp at hx; subst hx; rfl) (by unfold maxLen; omega) (by omega) (by simp; omega) ?_; intro v' w3 hown' hgrow3 hnil3; have HO3 := Lib.hid hown'; have HB3 := Lib.hid (app_row (HO.out.alloc (.cells #[.string x.s, .int .i64 x.node, .int .i64 x.next, .int .i64 x.reset] 43)) (HW.out.alloc hws _) hgrow3); clear hown' hgrow3 hnil3)
            | fail)
      go_roundg (gk - 1)
      case measure => have := HJ.out; omega
      case rel => exact ⟨j + 1, by have := HJ.out; omega, by go_num, Lib.hid (by rw [HS.out, icells_snoc]; exact HO3.out), HB3⟩
    · have hjn : j = n.cells.length := by omega
      subst hjn
      have hrow := ints_of_own HO.out (by rw [List.length_map, List.length_take]; omega)
      rw [List.take_length] at hrow
      clear HO
      obtain ⟨Av, cv, rfl, hcv, hiv⟩ := hrow
      have HV := Lib.hid hiv
      clear hiv
      obtain ⟨e0, e1, e2, e3, e4⟩ := KEEP.out _ HW.out
      have PL := Lib.hid (places_any A1 c1 n.nodes 22 wr (by omega) (Lib.hid (H1.out.gr (Gr.trans BW.out HW.out))))
      rw [List.length_map]
      go_wp2_with fail
      refine PL.out.mono ?_
      rintro e w1 ⟨v1, rfl, hi1, hg1⟩
      obtain ⟨Ap, cp, rfl, hcp, hip⟩ := hi1
      obtain ⟨eb, heb⟩ : ∃ eb : Bool, eb = true ↔ n.cells.map Ce.node = places n.nodes 22 := by
        classical
        exact ⟨decide (n.cells.map Ce.node = places n.nodes 22), decide_eq_true_iff⟩
      have EQ := Lib.hid (equalInt_any Av Ap cv cp _ _ w1 (by rw [List.length_map]; omega) (by have := places_len n.nodes 22; omega) (Lib.hid (HV.out.gr hg1)) (Lib.hid hip) eb (Lib.hid heb))
      rw [List.length_map] at EQ
      have HG1 := Lib.hid (Gr.trans HW.out hg1)
      clear hip hg1 e0 e1 e2 e3 e4
      cases eb with
      | false =>
        have HR := Lib.hid (bool_no hb.out fun h => by have := heb.2 h.1; simp at this)
        clear heb
        go_wp2_with fail
        refine EQ.out.mono ?_
        rintro e w2 ⟨rfl, hg2⟩
        have HG := Lib.hid (Gr.trans HG1.out hg2)
        clear hg2
        go_wp2_with fail
        go_ret
        exact ⟨by rw [HR.out]; rfl, Gr.trans BW.out HG.out⟩
      | true =>
        have HMAP := Lib.hid (heb.1 rfl)
        clear heb
        go_wp2_with fail
        refine EQ.out.mono ?_
        rintro e w2 ⟨rfl, hg2⟩
        have HG := Lib.hid (Gr.trans HG1.out hg2)
        clear hg2
        obtain ⟨e0, e1, e2, e3, e4⟩ := KEEP.out _ HG.out
        go_wp2_with fail
        go_loopg [6, 32] n.cells.length (fun g bt i wr => ∃ j : Nat, j + g = n.cells.length ∧ i = .int .i64 j ∧ Hid (bt = .int .i64 (bitsOf n.nodes (n.cells.take j))) ∧ Hid (∀ i x, i < j → n.cells[i]? = some x → CellOk n.nodes x) ∧ Hid (Gr w2 wr))
        case atStart => exact ⟨0, by omega, rfl, Lib.hid rfl, Lib.hid (fun i x hi => by omega), Lib.hid (Gr.refl _)⟩
        case round =>
          obtain ⟨j, hjg, rfl, HT, HA, HX⟩ := hrel
          obtain rfl := HT.out
          have HJ := Lib.hid hjg
          have hjl : j ≤ n.cells.length := by omega
          clear hjg HT
          obtain ⟨bi, hbi⟩ : ∃ bi, bitsOf n.nodes (n.cells.take j) = bi := ⟨_, rfl⟩
          have hble := bits_le hw (n.cells.take j)
          have htl : (n.cells.take j).length ≤ 400 := by rw [List.length_take]; omega
          rw [hbi] at hble ⊢
          by_cases hlt : j < n.cells.length
          · have hs : n.cells[j]? = some n.cells[j] := List.getElem?_eq_getElem hlt
            generalize n.cells[j] = x at hs
            have HS := Lib.hid hs
            have HBS := Lib.hid (bits_step (l := n.nodes) hs)
            rw [hbi] at HBS
            have HBI := Lib.hid hbi
            clear hbi
            obtain ⟨bb, off, rfl, -, d0, d1, d2, d3⟩ := (H3.out.gr (Gr.trans BW.out (Gr.trans HG.out HX.out))) j x hs
            obtain ⟨k, y, hk, hy, -⟩ := places_mem (op := 22) (by rw [← HMAP.out]; exact List.mem_map.2 ⟨x, List.mem_of_getElem? hs, rfl⟩)
            obtain ⟨by1, offy, rfl, -, f0, f1, f2, f3, f4, f5, f6⟩ := (H1.out.gr (Gr.trans BW.out (Gr.trans HG.out (Gr.trans HX.out (bel_alloc wr (.cells #[.string x.s, .int .i64 x.node, .int .i64 x.next, .int .i64 x.reset] 43)))))) k y hy
            have hkl : k < n.nodes.length := (List.getElem?_eq_some_iff.1 hy).1
            obtain ⟨hyw1, hyw2⟩ := hw y (List.mem_of_getElem? hy)
            have HWY := Lib.hid (show widA n.nodes x.node = y.w by rw [hk]; exact widA_some hy)
            obtain ⟨m, hm⟩ : ∃ m : Nat, y.w = m := ⟨y.w.toNat, by omega⟩
            have hm16 : m ≤ 16 := by omega
            obtain ⟨q, hq⟩ : ∃ q, 2 ^ m - 1 = q := ⟨_, rfl⟩
            have MK := Lib.hid (show ∀ u, Calls Try.prog 47 #[.int .i64 y.w] u fun e w' => e = .returned (.int .i64 (q : Nat)) ∧ w' = u from fun u => by rw [hm, ← hq]; exact (Mask_any m (by omega) u).mono fun e w' ⟨h1, h2⟩ => ⟨h1, h2.symm⟩)
            obtain ⟨o, ho⟩ : ∃ o, widA n.nodes x.next = o := ⟨_, rfl⟩
            have WP := Lib.hid (show ∀ u, Gr (wr.alloc (.cells #[.string x.s, .int .i64 x.node, .int .i64 x.next, .int .i64 x.reset] 43)) u → Calls Try.prog 41 #[.slice (some ⟨by1, offy, none⟩) n.nodes.length c1, .int .i64 x.next] u fun e w' => e = .returned (.int .i64 o) ∧ w' = u from fun u hu => by
              rw [← ho]
              exact (width_any (some ⟨by1, offy, none⟩) c1 _ n.nodes x.next u (by omega) (Lib.hid (H1.out.gr (Gr.trans BW.out (Gr.trans HG.out (Gr.trans HX.out (Gr.trans (bel_alloc _ _) hu))))))).mono fun e w' ⟨h1, h2⟩ => ⟨h1, h2.symm⟩)
            have COK : Hid (CellOk n.nodes x ↔ o = y.w ∧ 0 ≤ x.reset ∧ x.reset ≤ (q : Int)) := Lib.hid (by
              unfold CellOk
              rw [HWY.out, ho, hm, Int.toNat_natCast, hq])
            clear hs hy ho hq hm
            have hi1 : (j : Int) < (n.cells.length : Int) := by omega
            have hi0 : (0 : Int) ≤ (j : Int) := by omega
            have hk1 : x.node < (n.nodes.length : Int) := by omega
            have hk0 : (0 : Int) ≤ x.node := by omega
            have hws := HX.out.size
            have HST : Hid (CellOk n.nodes x → ∀ i y, i < j + 1 → n.cells[i]? = some y → CellOk n.nodes y) := Lib.hid fun hr i y hi hy => by
              by_cases h2 : i < j
              · exact HA.out i y h2 hy
              · have e2 : i = j := by omega
                rw [e2, HS.out] at hy
                rw [← Option.some.inj hy]
                exact hr
            have HBD : Hid (¬ CellOk n.nodes x → b = false) := Lib.hid fun hn => bool_no hb.out fun hr => hn (hr.2.1 x (List.mem_of_getElem? HS.out))
            obtain ⟨e0, e1, e2, e3, e4⟩ := KEEP.out _ (Gr.trans HG.out (Gr.trans HX.out (bel_alloc wr (.cells #[.string x.s, .int .i64 x.node, .int .i64 x.next, .int .i64 x.reset] 43))))
            rw [hk] at d1
            have HK := Lib.hid hk
            clear hk hk1 hk0
            have hk1 : (k : Int) < (n.nodes.length : Int) := by omega
            have hk0 : (0 : Int) ≤ (k : Int) := by omega
            have HWB : Hid (IntKind.i64.wrap (bi + y.w) = bi + y.w) := Lib.hid (wrap_int (by omega) (by omega))
            have HXK := Lib.hid (show (#[.string x.s, .int .i64 x.node, .int .i64 x.next, .int .i64 x.reset] : Array Value) = #[.string x.s, .int .i64 (k : Int), .int .i64 x.next, .int .i64 x.reset] by rw [HK.out])
            rw [HXK.out] at WP e0 e1 e2 e3 e4 f0 f1 f2 f3 f4 f5 f6
            by_cases q0 : o = y.w
            · have p0 : (o != y.w) = false := by simp [q0]
              by_cases q1 : x.reset < 0
              · have HR := Lib.hid (HBD.out fun h => by have := (COK.out.1 h).2.1; omega)
                clear q0
                go_wp2_with fail
                go_quiet (first
                  | (go_at_call 41; exact Calls.quiet_of_same (WP.out _ (by first | exact Gr.refl _ | exact Below.drewN (Gr.refl _) _)))
                  | (go_at_call 47; exact Calls.quiet_of_same (MK.out _)))
                go_wp2_with fail
                go_ret
                exact ⟨by rw [HR.out]; rfl, Gr.trans BW.out (Gr.trans HG.out (Below.drewN (Gr.trans HX.out (bel_alloc _ _)) _))⟩
              have p1 : decide (x.reset < 0) = false := by simp; omega
              by_cases q2 : (q : Int) < x.reset
              · have HR := Lib.hid (HBD.out fun h => by have := (COK.out.1 h).2.2; omega)
                have p2 : decide ((q : Int) < x.reset) = true := by simpa using q2
                clear q0
                go_wp2_with fail
                go_quiet (first
                  | (go_at_call 41; exact Calls.quiet_of_same (WP.out _ (by first | exact Gr.refl _ | exact Below.drewN (Gr.refl _) _)))
                  | (go_at_call 47; exact Calls.quiet_of_same (MK.out _)))
                go_wp2_with fail
                go_ret
                exact ⟨by rw [HR.out]; rfl, Gr.trans BW.out (Gr.trans HG.out (Below.drewN (Gr.trans HX.out (bel_alloc _ _)) _))⟩
              have p2 : decide ((q : Int) < x.reset) = false := by simpa using q2
              have HR := Lib.hid (HST.out (COK.out.2 ⟨q0, by omega, by omega⟩))
              clear q0
              go_wp2_with fail
              go_quiet (first
                | (go_at_call 41; exact Calls.quiet_of_same (WP.out _ (by first | exact Gr.refl _ | exact Below.drewN (Gr.refl _) _)))
                | (go_at_call 47; exact Calls.quiet_of_same (MK.out _)))
              go_wp2_with fail
              go_roundg (gk - 1)
              case measure => have := HJ.out; omega
              case rel =>
                refine ⟨j + 1, by have := HJ.out; omega, by go_num, Lib.hid ?_, Lib.hid HR.out, Lib.hid (Below.drewN (Gr.trans HX.out (bel_alloc _ _)) _)⟩
                rw [HBS.out, HWY.out]
                all_goals (first | rfl | rw [HWB.out])
            · have p0 : (o != y.w) = true := by simp [q0]
              have HR := Lib.hid (HBD.out fun h => q0 (COK.out.1 h).1)
              clear q0
              go_wp2_with fail
              go_quiet (first
                | (go_at_call 41; exact Calls.quiet_of_same (WP.out _ (by first | exact Gr.refl _ | exact Below.drewN (Gr.refl _) _)))
                | (go_at_call 47; exact Calls.quiet_of_same (MK.out _)))
              go_wp2_with fail
              go_ret
              exact ⟨by rw [HR.out]; rfl, Gr.trans BW.out (Gr.trans HG.out (Below.drewN (Gr.trans HX.out (bel_alloc _ _)) _))⟩
          · have hjn : j = n.cells.length := by omega
            subst hjn
            rw [List.take_length] at hbi
            by_cases q0 : bi ≤ 256
            · have HR := Lib.hid (hb.out.2 ⟨HMAP.out, all_take fun i x hi hx => HA.out i x hi hx, by rw [hbi]; exact q0⟩)
              go_wp2_with fail
              go_ret
              exact ⟨by rw [HR.out]; first | rfl | (show Ending.returned (.bool (decide _)) = _; simp [q0]), Gr.trans BW.out (Gr.trans HG.out HX.out)⟩
            · have HR := Lib.hid (bool_no hb.out fun h => q0 (by rw [← hbi]; exact h.2.2))
              have p0 : decide (bi ≤ 256) = false := by simpa using q0
              go_wp2_with fail
              go_ret
              exact ⟨by rw [HR.out]; first | rfl | (show Ending.returned (.bool (decide _)) = _; rw [p0]), Gr.trans BW.out (Gr.trans HG.out HX.out)⟩
set_option maxRecDepth 100000 in
set_option maxHeartbeats 4000000 in
theorem Right_any (n : Nt) (v : Value) (w : World) (hs : Sz n) (hn : Hid (NtAt w n v)) (b : Bool) (hb : Hid (b = true ↔ NRight n)) :
    Calls Try.prog 12 #[v] w fun e w' => e = .returned (.bool b) ∧ Gr w w' := by
  have HV := Lib.hid (fun (u : World) (hu : Gr w u) => hn.out.gr hu)
  obtain ⟨A1, A2, A3, A4, A5, c1, c2, c3, c4, c5, rfl, hc1, h1, h2, h3, h4, h5⟩ := hn.out
  have H1 := Lib.hid h1
  have H2 := Lib.hid h2
  have H3 := Lib.hid h3
  have H4 := Lib.hid h4
  have H5 := Lib.hid h5
  clear h1 h2 h3 h4 h5
  obtain ⟨W0, eW, BW, KEEP⟩ : ∃ W0, w.alloc (.cells (bxC n A1 A2 A3 A4 A5 c1 c2 c3 c4 c5) 27) = W0 ∧ Hid (Gr w W0) ∧ Hid (∀ u, Gr W0 u → BxAt u w.heap.size n A1 A2 A3 A4 A5 c1 c2 c3 c4 c5) :=
    ⟨_, rfl, Lib.hid (bel_alloc _ _), Lib.hid fun u hu => bx_gr (bx_new w n A1 A2 A3 A4 A5 c1 c2 c3 c4 c5) (by simp) hu⟩
  obtain ⟨e0, e1, e2, e3, e4⟩ := KEEP.out W0 (Gr.refl _)
  obtain ⟨b1, hb1⟩ : ∃ b1 : Bool, b1 = true ↔ NdsOk n.nodes := by classical exact ⟨decide _, decide_eq_true_iff⟩
  obtain ⟨b2, hb2⟩ : ∃ b2 : Bool, b2 = true ↔ InsOk n := by classical exact ⟨decide _, decide_eq_true_iff⟩
  obtain ⟨b3, hb3⟩ : ∃ b3 : Bool, b3 = true ↔ CellsOk n := by classical exact ⟨decide _, decide_eq_true_iff⟩
  obtain ⟨b4, hb4⟩ : ∃ b4 : Bool, b4 = true ↔ PropsOk n := by classical exact ⟨decide _, decide_eq_true_iff⟩
  obtain ⟨b5, hb5⟩ : ∃ b5 : Bool, b5 = true ↔ NamesOk n := by classical exact ⟨decide _, decide_eq_true_iff⟩
  have hbb : b = (b1 && b2 && b3 && b4 && b5) := by
    rw [Bool.eq_iff_iff, hb.out]
    simp only [Bool.and_eq_true, hb1, hb2, hb3, hb4, hb5, and_assoc]
    rfl
  have CA := Lib.hid (fun (u : World) (hu : Gr w u) => rightNodes_any A1 c1 n.nodes u (by have := hs.1; omega) hc1 (Lib.hid (H1.out.gr hu)) b1 (Lib.hid hb1))
  have CB := Lib.hid (fun (u : World) (hu : Gr w u) => rightIns_any n _ u hs (Lib.hid (HV.out u hu)) b2 (Lib.hid hb2))
  have CC := Lib.hid (fun (hw : WOk n.nodes) (u : World) (hu : Gr w u) => rightCells_any n _ u hs hw (Lib.hid (HV.out u hu)) b3 (Lib.hid hb3))
  have CD := Lib.hid (fun (u : World) (hu : Gr w u) => rightProps_any n _ u hs (Lib.hid (HV.out u hu)) b4 (Lib.hid hb4))
  have CE := Lib.hid (fun (u : World) (hu : Gr w u) => rightNames_any n _ u hs (Lib.hid (HV.out u hu)) b5 (Lib.hid hb5))
  have HB1 := Lib.hid hb1
  clear hb1 hb2 hb3 hb4 hb5 hb hs
  obtain rfl := hbb
  go_enter Try.func12, Try.ntmps12
  go_wp2_with fail
  try rw [eW]
  clear eW
  refine (CA.out _ BW.out).mono ?_
  rintro e w1 ⟨rfl, hg⟩
  have G1 := Lib.hid hg
  clear hg e0 e1 e2 e3 e4
  obtain ⟨e0, e1, e2, e3, e4⟩ := KEEP.out _ G1.out
  cases b1 with
  | false =>
    go_wp2_with fail
    go_ret
    exact ⟨rfl, Gr.trans BW.out G1.out⟩
  | true =>
  have HW := Lib.hid (wok_of (HB1.out.1 rfl))
  clear HB1
  go_wp2_with fail
  refine (CB.out _ (Gr.trans BW.out G1.out)).mono ?_
  rintro e w2 ⟨rfl, hg⟩
  have G2 := Lib.hid (Gr.trans G1.out hg)
  clear hg e0 e1 e2 e3 e4
  obtain ⟨e0, e1, e2, e3, e4⟩ := KEEP.out _ G2.out
  cases b2 with
  | false =>
    go_wp2_with fail
    go_ret
    exact ⟨rfl, Gr.trans BW.out G2.out⟩
  | true =>
  go_wp2_with fail
  refine (CC.out HW.out _ (Gr.trans BW.out G2.out)).mono ?_
  rintro e w3 ⟨rfl, hg⟩
  have G3 := Lib.hid (Gr.trans G2.out hg)
  clear hg e0 e1 e2 e3 e4
  obtain ⟨e0, e1, e2, e3, e4⟩ := KEEP.out _ G3.out
  cases b3 with
  | false =>
    go_wp2_with fail
    go_ret
    exact ⟨rfl, Gr.trans BW.out G3.out⟩
  | true =>
  go_wp2_with fail
  refine (CD.out _ (Gr.trans BW.out G3.out)).mono ?_
  rintro e w4 ⟨rfl, hg⟩
  have G4 := Lib.hid (Gr.trans G3.out hg)
  clear hg e0 e1 e2 e3 e4
  obtain ⟨e0, e1, e2, e3, e4⟩ := KEEP.out _ G4.out
  cases b4 with
  | false =>
    go_wp2_with fail
    go_ret
    exact ⟨rfl, Gr.trans BW.out G4.out⟩
  | true =>
  go_wp2_with fail
  refine (CE.out _ (Gr.trans BW.out G4.out)).mono ?_
  rintro e w5 ⟨rfl, hg⟩
  have G5 := Lib.hid (Gr.trans G4.out hg)
  clear hg e0 e1 e2 e3 e4
  obtain ⟨e0, e1, e2, e3, e4⟩ := KEEP.out _ G5.out
  go_wp2_with fail
  go_ret
  exact ⟨rfl, Gr.trans BW.out G5.out⟩
end Go.Proofs.Ytnkifhgkhgialaa
