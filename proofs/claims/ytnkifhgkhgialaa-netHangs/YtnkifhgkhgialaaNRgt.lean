/-
  THE CHECKS OF A NET, WALKED.
-/
import Derived.Test.YtnkifhgkhgialaaNRnd
import Derived.Test.YtnkifhgkhgialaaNEqu
namespace Go.Proofs.Ytnkifhgkhgialaa
open Go.RowKit
open NetM

abbrev bxC (n : Nt) (A1 A2 A3 A4 A5 : Option Addr) (c1 c2 c3 c4 c5 : Nat) : Array Value := #[.slice A1 n.nodes.length c1, .slice A2 n.ins.length c2, .slice A3 n.cells.length c3, .slice A4 n.props.length c4, .slice A5 n.names.length c5]
/-- a net's box -/
abbrev BxAt (u : World) (g : Nat) (n : Nt) (A1 A2 A3 A4 A5 : Option Addr) (c1 c2 c3 c4 c5 : Nat) : Prop :=
  u.cell? ⟨g, 0, none⟩ = some (.slice A1 n.nodes.length c1) ∧ u.cell? ⟨g, 1, none⟩ = some (.slice A2 n.ins.length c2) ∧ u.cell? ⟨g, 2, none⟩ = some (.slice A3 n.cells.length c3) ∧ u.cell? ⟨g, 3, none⟩ = some (.slice A4 n.props.length c4) ∧ u.cell? ⟨g, 4, none⟩ = some (.slice A5 n.names.length c5)
theorem bx_new (w : World) (n : Nt) (A1 A2 A3 A4 A5 : Option Addr) (c1 c2 c3 c4 c5 : Nat) : BxAt (w.alloc (.cells (bxC n A1 A2 A3 A4 A5 c1 c2 c3 c4 c5) 27)) w.heap.size n A1 A2 A3 A4 A5 c1 c2 c3 c4 c5 := by
  refine ⟨?_, ?_, ?_, ?_, ?_⟩
  all_goals exact new_cells _ _ _ _ _ rfl
theorem bx_gr {w u : World} {g : Nat} {n : Nt} {A1 A2 A3 A4 A5 : Option Addr} {c1 c2 c3 c4 c5 : Nat} (h : BxAt w g n A1 A2 A3 A4 A5 c1 c2 c3 c4 c5) (hg : g < w.heap.size) (hb : Gr w u) : BxAt u g n A1 A2 A3 A4 A5 c1 c2 c3 c4 c5 := by
  obtain ⟨h0, h1, h2, h3, h4⟩ := h
  refine ⟨?_, ?_, ?_, ?_, ?_⟩
  all_goals
    rw [hb.cell (by simpa using hg)]
    assumption
theorem map_step {α : Type} {l : List α} {f : α → Int} {j : Nat} {x : α} (h : l[j]? = some x) : (l.take (j + 1)).map f = (l.take j).map f ++ [f x] := by
  rw [List.take_add_one, h]
  simp

set_option maxRecDepth 100000 in
set_option maxHeartbeats 4000000 in
theorem rightIns_any (n : Nt) (v : Value) (w : World) (hs : Sz n) (hn : Hid (NtAt w n v)) (b : Bool) (hb : Hid (b = true ↔ InsOk n)) :
    Calls Try.prog 28 #[v] w fun e w' => e = .returned (.bool b) ∧ Gr w w' := by
  obtain ⟨z1, z2, z3, z4, z5⟩ := hs
  obtain ⟨A1, A2, A3, A4, A5, c1, c2, c3, c4, c5, rfl, hc1, h1, h2, h3, h4, h5⟩ := hn.out
  have H1 := Lib.hid h1
  have H2 := Lib.hid h2
  have H3 := Lib.hid h3
  have H4 := Lib.hid h4
  have H5 := Lib.hid h5
  clear h1 h2 h3 h4 h5
  obtain ⟨W0, eW, BW, KEEP⟩ : ∃ W0, w.alloc (.cells (bxC n A1 A2 A3 A4 A5 c1 c2 c3 c4 c5) 27) = W0 ∧ Hid (Gr w W0) ∧ Hid (∀ u, Gr W0 u → BxAt u w.heap.size n A1 A2 A3 A4 A5 c1 c2 c3 c4 c5) :=
    ⟨_, rfl, Lib.hid (bel_alloc _ _), Lib.hid fun u hu => bx_gr (bx_new w n A1 A2 A3 A4 A5 c1 c2 c3 c4 c5) (by simp) hu⟩
  obtain ⟨e0, e1, e2, e3, e4⟩ := KEEP.out W0 (Gr.refl _)
  obtain ⟨i0, hi, hz0, hz1, hz2⟩ := info_parts info3
  have HI := Lib.hid (And.intro hi (And.intro hz0 (And.intro hz1 hz2)))
  clear hi hz0 hz1 hz2
  go_enter Try.func28, Try.ntmps28
  go_wp2_with fail
  try rw [eW]
  clear eW
  go_wp2_with fail
  go_loopg [3, 9] n.ins.length (fun g v i wr => ∃ j : Nat, j + g = n.ins.length ∧ i = .int .i64 j ∧ Hid (wr.ownsRow W0.heap.size 3 1 v j (icells ((n.ins.take j).map Pn.node))) ∧ Hid (Gr W0 wr))
  case atStart => exact ⟨0, by omega, rfl, Lib.hid (World.ownsRow_nil _ _ _ _), Lib.hid (Gr.refl _)⟩
  case round =>
    obtain ⟨j, hjg, rfl, HO, HW⟩ := hrel
    have HJ := Lib.hid hjg
    have hjl : j ≤ n.ins.length := by omega
    clear hjg
    by_cases hlt : j < n.ins.length
    · have hs : n.ins[j]? = some n.ins[j] := List.getElem?_eq_getElem hlt
      generalize n.ins[j] = x at hs
      have HS := Lib.hid (map_step (f := Pn.node) hs)
      obtain ⟨bb, off, rfl, -, d0, d1⟩ := (H2.out.gr (Gr.trans BW.out HW.out)) j x hs
      clear hs
      have hi1 : (j : Int) < (n.ins.length : Int) := by omega
      have hi0 : (0 : Int) ≤ (j : Int) := by omega
      have hws := HW.out.size
      go_wp2_with (first
            | (at_builtin; refine wpList_append_own _ rfl _ _ 32 rfl W0.heap.size 3 i0 (.int .i64 0) 1 8 Try.underlying32 HI.out.1 HI.out.2.1 HI.out.2.2.1 HI.out.2.2.2 rfl (by decide) _ _ _ rfl ((HO.out.alloc _).alloc _) ⟨wr.heap.size + 1, 0, none⟩ 1 1 [.int .i64 (x.node)] rfl rfl (fun j' u hj => by have := int_new (wr.alloc (.cells #[.string x.s, .int .i64 x.node] 47)) (.int .i64 (x.node)) 3 j' u hj; simpa using this) (fun x hx => by simp at hx; subst hx; rfl) (by unfold maxLen; omega) (by omega) (by simp; omega) ?_; intro v' w3 hown' hgrow3 hnil3; have HO3 := Lib.hid hown'; have HB3 := Lib.hid (app_row (HO.out.alloc (.cells #[.string x.s, .int .i64 x.node] 47)) (HW.out.alloc hws _) hgrow3); clear hown' hgrow3 hnil3)
            | fail)
      go_roundg (gk - 1)
      case measure => have := HJ.out; omega
      case rel => exact ⟨j + 1, by have := HJ.out; omega, by go_num, Lib.hid (by rw [HS.out, icells_snoc]; exact HO3.out), HB3⟩
    · have hjn : j = n.ins.length := by omega
      subst hjn
      have hrow := ints_of_own HO.out (by rw [List.length_map, List.length_take]; omega)
      rw [List.take_length] at hrow
      clear HO
      by_cases h64 : n.ins.length ≤ 64
      · have q : decide ((n.ins.length : Int) ≤ 64) = true := by simp; omega
        obtain ⟨Av, cv, rfl, hcv, hiv⟩ := hrow
        have HV := Lib.hid hiv
        clear hiv
        obtain ⟨e0, e1, e2, e3, e4⟩ := KEEP.out _ HW.out
        have PL := Lib.hid (places_any A1 c1 n.nodes 21 wr (by omega) (Lib.hid (H1.out.gr (Gr.trans BW.out HW.out))))
        rw [List.length_map]
        go_wp2_with fail
        refine PL.out.mono ?_
        rintro e w1 ⟨v1, rfl, hi1, hg1⟩
        obtain ⟨Ap, cp, rfl, hcp, hip⟩ := hi1
        have EQ := Lib.hid (equalInt_any Av Ap cv cp _ _ w1 (by rw [List.length_map]; omega) (by have := places_len n.nodes 21; omega) (Lib.hid (HV.out.gr hg1)) (Lib.hid hip) b (Lib.hid (hb.out.trans ⟨fun h => h.2, fun h => ⟨h64, h⟩⟩)))
        rw [List.length_map] at EQ
        have HG := Lib.hid hg1
        clear hip hg1 e0 e1 e2 e3 e4
        go_wp2_with fail
        refine EQ.out.mono ?_
        rintro e w2 ⟨rfl, hg2⟩
        have HG2 := Lib.hid hg2
        clear hg2
        go_wp2_with fail
        go_ret
        exact ⟨rfl, Gr.trans BW.out (Gr.trans HW.out (Gr.trans HG.out HG2.out))⟩
      · have q : decide ((n.ins.length : Int) ≤ 64) = false := by simp; omega
        have HN := Lib.hid (bool_no hb.out fun h => h64 h.1)
        obtain ⟨Av, cv, rfl, hcv, hiv⟩ := hrow
        rw [List.length_map]
        go_wp2_with fail
        go_ret
        exact ⟨by rw [HN.out]; rfl, Gr.trans BW.out HW.out⟩
theorem all_take {α : Type} {l : List α} {P : α → Prop} (h : ∀ i x, i < l.length → l[i]? = some x → P x) : ∀ x ∈ l, P x := fun x hx => by
  obtain ⟨i, hi⟩ := List.mem_iff_getElem?.1 hx
  exact h i x (List.getElem?_eq_some_iff.1 hi).1 hi
set_option maxRecDepth 100000 in
set_option maxHeartbeats 4000000 in
theorem rightNames_any (n : Nt) (v : Value) (w : World) (hs : Sz n) (hn : Hid (NtAt w n v)) (b : Bool) (hb : Hid (b = true ↔ NamesOk n)) :
    Calls Try.prog 31 #[v] w fun e w' => e = .returned (.bool b) ∧ Gr w w' := by
  obtain ⟨z1, z2, z3, z4, z5⟩ := hs
  obtain ⟨A1, A2, A3, A4, A5, c1, c2, c3, c4, c5, rfl, hc1, h1, h2, h3, h4, h5⟩ := hn.out
  have H1 := Lib.hid h1
  have H2 := Lib.hid h2
  have H3 := Lib.hid h3
  have H4 := Lib.hid h4
  have H5 := Lib.hid h5
  clear h1 h2 h3 h4 h5
  obtain ⟨W0, eW, BW, KEEP⟩ : ∃ W0, w.alloc (.cells (bxC n A1 A2 A3 A4 A5 c1 c2 c3 c4 c5) 27) = W0 ∧ Hid (Gr w W0) ∧ Hid (∀ u, Gr W0 u → BxAt u w.heap.size n A1 A2 A3 A4 A5 c1 c2 c3 c4 c5) :=
    ⟨_, rfl, Lib.hid (bel_alloc _ _), Lib.hid fun u hu => bx_gr (bx_new w n A1 A2 A3 A4 A5 c1 c2 c3 c4 c5) (by simp) hu⟩
  obtain ⟨e0, e1, e2, e3, e4⟩ := KEEP.out W0 (Gr.refl _)
  go_enter Try.func31, Try.ntmps31
  go_wp2_with fail
  try rw [eW]
  clear eW
  go_wp2_with fail
  go_loopg [8] n.names.length (fun g i wr => ∃ j : Nat, j + g = n.names.length ∧ i = .int .i64 j ∧ Hid (∀ i x, i < j → n.names[i]? = some x → 0 ≤ x.node ∧ x.node < (n.nodes.length : Int)) ∧ Hid (Gr W0 wr))
  case atStart => exact ⟨0, by omega, rfl, Lib.hid (fun i x hi => by omega), Lib.hid (Gr.refl _)⟩
  case round =>
    obtain ⟨j, hjg, rfl, HA, HW⟩ := hrel
    have HJ := Lib.hid hjg
    have hjl : j ≤ n.names.length := by omega
    clear hjg
    by_cases hlt : j < n.names.length
    · have hs : n.names[j]? = some n.names[j] := List.getElem?_eq_getElem hlt
      generalize n.names[j] = x at hs
      have HS := Lib.hid hs
      obtain ⟨bb, off, rfl, -, d0, d1⟩ := (H5.out.gr (Gr.trans BW.out HW.out)) j x hs
      clear hs
      have hi1 : (j : Int) < (n.names.length : Int) := by omega
      have hi0 : (0 : Int) ≤ (j : Int) := by omega
      have hws := HW.out.size
      have HST : Hid (0 ≤ x.node ∧ x.node < (n.nodes.length : Int) → ∀ i y, i < j + 1 → n.names[i]? = some y → 0 ≤ y.node ∧ y.node < (n.nodes.length : Int)) := Lib.hid fun hr i y hi hy => by
        by_cases h2 : i < j
        · exact HA.out i y h2 hy
        · have e2 : i = j := by omega
          rw [e2, HS.out] at hy
          rw [← Option.some.inj hy]
          exact hr
      have HBD : Hid (¬ (0 ≤ x.node ∧ x.node < (n.nodes.length : Int)) → b = false) := Lib.hid fun hn => bool_no hb.out fun hr => hn (hr x (List.mem_of_getElem? HS.out))
      obtain ⟨e0, e1, e2, e3, e4⟩ := KEEP.out _ (Gr.trans HW.out (bel_alloc wr (.cells #[.string x.s, .int .i64 x.node] 47)))
      by_cases q0 : x.node < 0
      · have HR := Lib.hid (HBD.out fun h => by omega)
        go_wp2_with fail
        go_ret
        exact ⟨by rw [HR.out]; rfl, Gr.trans BW.out (Gr.trans HW.out (bel_alloc _ _))⟩
      by_cases q1 : (n.nodes.length : Int) ≤ x.node
      · have HR := Lib.hid (HBD.out fun h => by omega)
        go_wp2_with fail
        go_ret
        exact ⟨by rw [HR.out]; rfl, Gr.trans BW.out (Gr.trans HW.out (bel_alloc _ _))⟩
      have HR := Lib.hid (HST.out ⟨by omega, by omega⟩)
      go_wp2_with fail
      go_roundg (gk - 1)
      case measure => have := HJ.out; omega
      case rel => exact ⟨j + 1, by have := HJ.out; omega, by go_num, Lib.hid HR.out, Lib.hid (Gr.trans HW.out (bel_alloc _ _))⟩
    · have hjn : j = n.names.length := by omega
      subst hjn
      obtain ⟨e0, e1, e2, e3, e4⟩ := KEEP.out _ HW.out
      have HR := Lib.hid (hb.out.2 (all_take fun i x hi hx => HA.out i x hi hx))
      go_wp2_with fail
      go_ret
      exact ⟨by rw [HR.out]; rfl, Gr.trans BW.out HW.out⟩
set_option maxRecDepth 100000 in
set_option maxHeartbeats 4000000 in
theorem rightProps_any (n : Nt) (v : Value) (w : World) (hs : Sz n) (hn : Hid (NtAt w n v)) (b : Bool) (hb : Hid (b = true ↔ PropsOk n)) :
    Calls Try.prog 30 #[v] w fun e w' => e = .returned (.bool b) ∧ Gr w w' := by
  obtain ⟨z1, z2, z3, z4, z5⟩ := hs
  obtain ⟨A1, A2, A3, A4, A5, c1, c2, c3, c4, c5, rfl, hc1, h1, h2, h3, h4, h5⟩ := hn.out
  have H1 := Lib.hid h1
  have H2 := Lib.hid h2
  have H3 := Lib.hid h3
  have H4 := Lib.hid h4
  have H5 := Lib.hid h5
  clear h1 h2 h3 h4 h5
  obtain ⟨W0, eW, BW, KEEP⟩ : ∃ W0, w.alloc (.cells (bxC n A1 A2 A3 A4 A5 c1 c2 c3 c4 c5) 27) = W0 ∧ Hid (Gr w W0) ∧ Hid (∀ u, Gr W0 u → BxAt u w.heap.size n A1 A2 A3 A4 A5 c1 c2 c3 c4 c5) :=
    ⟨_, rfl, Lib.hid (bel_alloc _ _), Lib.hid fun u hu => bx_gr (bx_new w n A1 A2 A3 A4 A5 c1 c2 c3 c4 c5) (by simp) hu⟩
  obtain ⟨e0, e1, e2, e3, e4⟩ := KEEP.out W0 (Gr.refl _)
  go_enter Try.func30, Try.ntmps30
  go_wp2_with fail
  try rw [eW]
  clear eW
  go_wp2_with fail
  go_loopg [8] n.props.length (fun g i wr => ∃ j : Nat, j + g = n.props.length ∧ i = .int .i64 j ∧ Hid (∀ i x, i < j → n.props[i]? = some x → PropOk n.nodes x) ∧ Hid (Gr W0 wr))
  case atStart => exact ⟨0, by omega, rfl, Lib.hid (fun i x hi => by omega), Lib.hid (Gr.refl _)⟩
  case round =>
    obtain ⟨j, hjg, rfl, HA, HW⟩ := hrel
    have HJ := Lib.hid hjg
    have hjl : j ≤ n.props.length := by omega
    clear hjg
    by_cases hlt : j < n.props.length
    · have hs : n.props[j]? = some n.props[j] := List.getElem?_eq_getElem hlt
      generalize n.props[j] = x at hs
      have HS := Lib.hid hs
      obtain ⟨bb, off, rfl, -, d0, d1, d2⟩ := (H4.out.gr (Gr.trans BW.out HW.out)) j x hs
      clear hs
      have hi1 : (j : Int) < (n.props.length : Int) := by omega
      have hi0 : (0 : Int) ≤ (j : Int) := by omega
      have hws := HW.out.size
      have HST : Hid (PropOk n.nodes x → ∀ i y, i < j + 1 → n.props[i]? = some y → PropOk n.nodes y) := Lib.hid fun hr i y hi hy => by
        by_cases h2 : i < j
        · exact HA.out i y h2 hy
        · have e2 : i = j := by omega
          rw [e2, HS.out] at hy
          rw [← Option.some.inj hy]
          exact hr
      have HBD : Hid (¬ (PropOk n.nodes x) → b = false) := Lib.hid fun hn => bool_no hb.out fun hr => hn (hr.1 x (List.mem_of_getElem? HS.out))
      obtain ⟨e0, e1, e2, e3, e4⟩ := KEEP.out _ (Gr.trans HW.out (bel_alloc wr (.cells #[.int .i64 x.kind, .string x.s, .int .i64 x.node] 59)))
      have WP := Lib.hid (fun (u : World) (hu : Gr wr u) => width_any A1 c1 _ n.nodes x.node u (by omega) (Lib.hid (H1.out.gr (Gr.trans BW.out (Gr.trans HW.out hu)))))
      obtain ⟨o, ho⟩ : ∃ o, widA n.nodes x.node = o := ⟨_, rfl⟩
      rw [ho] at WP
      have HO := Lib.hid ho
      clear ho
      by_cases q0 : x.kind < 8
      · have HR := Lib.hid (HBD.out fun h => by have := h.1; omega)
        go_wp2_with fail
        go_ret
        exact ⟨by rw [HR.out]; rfl, Gr.trans BW.out (Gr.trans HW.out (bel_alloc _ _))⟩
      by_cases q1 : 10 < x.kind
      · have HR := Lib.hid (HBD.out fun h => by have := h.2.1; omega)
        go_wp2_with fail
        go_ret
        exact ⟨by rw [HR.out]; rfl, Gr.trans BW.out (Gr.trans HW.out (bel_alloc _ _))⟩
      by_cases q2 : o = 1
      · have HR := Lib.hid (HST.out ⟨by omega, by omega, by rw [HO.out, q2]⟩)
        have q3 : (o != 1) = false := by simp [q2]
        clear q2
        go_wp2_with fail
        refine (WP.out _ (bel_alloc _ _)).mono ?_
        rintro e w' ⟨rfl, rfl⟩
        go_wp2_with fail
        go_roundg (gk - 1)
        case measure => have := HJ.out; omega
        case rel => exact ⟨j + 1, by have := HJ.out; omega, by go_num, Lib.hid HR.out, Lib.hid (Gr.trans HW.out (bel_alloc _ _))⟩
      · have HR := Lib.hid (HBD.out fun h => q2 (by rw [← HO.out]; exact h.2.2))
        have q3 : (o != 1) = true := by simp [q2]
        clear q2
        go_wp2_with fail
        refine (WP.out _ (bel_alloc _ _)).mono ?_
        rintro e w' ⟨rfl, rfl⟩
        go_wp2_with fail
        go_ret
        exact ⟨by rw [HR.out]; rfl, Gr.trans BW.out (Gr.trans HW.out (bel_alloc _ _))⟩
    · have hjn : j = n.props.length := by omega
      subst hjn
      obtain ⟨e0, e1, e2, e3, e4⟩ := KEEP.out _ HW.out
      by_cases h16 : n.props.length ≤ 16
      · have HR := Lib.hid (hb.out.2 ⟨all_take fun i x hi hx => HA.out i x hi hx, h16⟩)
        have q : decide ((n.props.length : Int) ≤ 16) = true := by simp; omega
        go_wp2_with fail
        go_ret
        exact ⟨by rw [HR.out]; rfl, Gr.trans BW.out HW.out⟩
      · have HR := Lib.hid (bool_no hb.out fun h => h16 h.2)
        have q : decide ((n.props.length : Int) ≤ 16) = false := by simp; omega
        go_wp2_with fail
        go_ret
        exact ⟨by rw [HR.out]; first | rfl | (show Ending.returned (.bool (decide _)) = _; rw [q]), Gr.trans BW.out HW.out⟩
end Go.Proofs.Ytnkifhgkhgialaa
