/-
  with of the laws, WALKED.
-/
import Derived.Test.YtjkaeabnjkhllaaScHed
import Derived.Test.YtjkaeabnjkhllaaScApp
import Derived.Test.YtjkaeabnjkhllaaScOpn
import Derived.Deep.AppendLies
namespace Go.Proofs.Ytjkaeabnjkhllaa
open Go.RowKit

theorem info34 : (Try.prog.info? 34).map (fun i => (i.zero, i.size, i.bytes)) = some (some (.agg #[.string ⟨#[]⟩, .slice none 0 0, .slice none 0 0, .slice none 0 0]), 4, 88) := by kernel_rfl
theorem own_set' {w : World} {base n size g o : Nat} {e : TypeId} {v val : Value} {xs : List Value} (h : w.ownsRow base e size v n xs) (hg : g < base) : (w.setCell ⟨g, o, none⟩ val).ownsRow base e size v n xs := by
  refine ⟨h.1, ?_⟩
  rcases h.2 with h0 | ⟨q, cap, cur, e1, hb, hh, r⟩
  · exact .inl h0
  · exact .inr ⟨q, cap, cur, e1, hb, by rw [set_block (by omega)]; exact hh, r⟩
theorem own_up {w u : World} {base n size : Nat} {e : TypeId} {v : Value} {xs : List Value} (h : w.ownsRow base e size v n xs) (hg : Gr w u) : u.ownsRow base e size v n xs := h.kept (row := none) hg (by cases hv : v.ownBlock with | none => exact .inl rfl | some k => exact .inr (by simp))
/-- what holds ahead of each round: the modules so far -/
def WiP (w : World) (nms : List Mo) (mA : Option Addr) (mn mC : Nat) (j : Nat) (v : Value) (css : List (List Value)) (u : World) : Prop :=
  Gr w u ∧ u.heap[w.heap.size]? = some (.cells #[.slice mA mn mC] 24 (0, 0)) ∧ u.heap[w.heap.size + 1]? = some (.cells #[.slice none 0 0] 24 (0, 0)) ∧ u.heap[w.heap.size + 1 + 1]? = some (.cells #[v] 24 (0, 0)) ∧ u.ownsRow (w.heap.size + 3) 34 4 v j css.flatten ∧ css.length = j ∧ (∀ (q : Nat) (c : List Value), css[q]? = some c → ∃ m, nms[q]? = some m ∧ MoAt w m c) ∧ w.heap.size + 3 ≤ u.heap.size
theorem WiP.gr {w : World} {nms : List Mo} {mA : Option Addr} {mn mC j : Nat} {v : Value} {css : List (List Value)} {u u' : World} (h : WiP w nms mA mn mC j v css u) (hg : Gr u u') : WiP w nms mA mn mC j v css u' := by
  obtain ⟨h1, h2, h3, h4, h5, h6, h7, h8⟩ := h
  exact ⟨h1.trans hg, hg.keep h2, hg.keep h3, hg.keep h4, own_up h5 hg, h6, h7, by have := hg.size; omega⟩
/-- one module more -/
theorem wip_step {w : World} {nms : List Mo} {mA : Option Addr} {mn mC j : Nat} {v v' : Value} {css : List (List Value)} {c : List Value} {m : Mo} {u w6 : World} (h : WiP w nms mA mn mC j v css u) (hm : nms[j]? = some m) (hc : MoAt w m c) (hgrow : u.grownBy w6 v.ownBlock) (hown : w6.ownsRow (w.heap.size + 3) 34 4 v' (j + 1) (css.flatten ++ c)) :
    WiP w nms mA mn mC (j + 1) v' (css ++ [c]) (w6.setCell ⟨w.heap.size + 1 + 1, 0, none⟩ v') := by
  obtain ⟨h1, h2, h3, h4, h5, h6, h7, h8⟩ := h
  have hb : ∀ b, v.ownBlock = some b → w.heap.size + 3 ≤ b := fun b e => (h5.lt b e).1
  have kp : ∀ (g : Nat) (o : Obj), u.heap[g]? = some o → g < w.heap.size + 3 → w6.heap[g]? = some o := fun g o ho hg => (hgrow.block g (heap_lt ho) (fun e => by have := hb g e.symm; omega)).trans ho
  have kg : Gr w w6 := ⟨hgrow.os.trans h1.os, hgrow.tape.trans h1.tape, hgrow.output.trans h1.output, by have := h1.size; have := hgrow.size; omega, fun g hg _ => (hgrow.block g (by have := h1.size; omega) (fun e => by have := hb g e.symm; omega)).trans (h1.block g hg (by simp))⟩
  refine ⟨gr_set kg (by omega), (set_block (by omega)).trans (kp _ _ h2 (by omega)), (set_block (by omega)).trans (kp _ _ h3 (by omega)), put_in (vs := [v']) (o := 0) (kp _ _ h4 (by omega)) (Nat.le_refl _) rfl, ?_, by simp [h6], fun q d hd => ?_, ?_⟩
  · rw [List.flatten_append]
    simpa using own_set' (g := w.heap.size + 1 + 1) (o := 0) (val := v') hown (by omega)
  · by_cases e : q < css.length
    · rw [List.getElem?_append_left e] at hd
      exact h7 q d hd
    · have hq := (List.getElem?_eq_some_iff.1 hd).1
      simp only [List.length_append, List.length_singleton] at hq
      obtain rfl : q = j := by omega
      rw [List.getElem?_append_right (by omega), h6, Nat.sub_self] at hd
      obtain rfl : c = d := by simpa using hd
      exact ⟨m, hm, hc⟩
  · have := hgrow.size
    simp [World.setCell]
    omega
/-- what with tells -/
def WithRet (w : World) (nms : List Mo) (n : Nat) (e : Ending) (w' : World) : Prop := ∃ A c, e = .returned (.agg #[.slice A n c]) ∧ ModsAt w' nms (.slice A n c) ∧ Gr w w'
theorem wip_end {w u : World} {nms : List Mo} {v : Value} {css : List (List Value)} (h1 : Gr w u) (h5 : u.ownsRow (w.heap.size + 3) 34 4 v nms.length css.flatten) (h6 : css.length = nms.length) (h7 : ∀ (q : Nat) (c : List Value), css[q]? = some c → ∃ m, nms[q]? = some m ∧ MoAt w m c) (hn : nms.length ≤ 100) : ∃ A c, v = .slice A nms.length c ∧ ModsAt u nms (.slice A nms.length c) := by
  have hl : ∀ c ∈ css, c.length = 4 := fun c hc => by
    obtain ⟨q, hq⟩ := List.mem_iff_getElem?.1 hc
    obtain ⟨m, _, _, _, _, rfl, _⟩ := h7 q c hq
    rfl
  have hr := own_rowc h5 hl h6 (by unfold maxLen; omega)
  obtain ⟨A, c, e⟩ := hr.form
  rw [h6] at e
  subst e
  refine ⟨A, c, rfl, css, hr, h6, fun j m hm => ?_⟩
  have hj := (List.getElem?_eq_some_iff.1 hm).1
  obtain ⟨m', k1, k2⟩ := h7 j _ (List.getElem?_eq_getElem (by omega))
  obtain rfl := Option.some.inj (hm.symm.trans k1)
  exact ⟨_, List.getElem?_eq_getElem (by omega), k2.gr h1⟩
set_option maxRecDepth 100000 in
set_option maxHeartbeats 8000000 in
theorem with_any (ms : List Mo) (mA : Option Addr) (mC i : Nat) (mi : Mo) (its : List It) (lA : Option Addr) (lC : Nat) (w : World) (hn : ms.length ≤ 100) (hms : Hid (ModsAt w ms (.slice mA ms.length mC))) (hi : Hid (ms[i]? = some mi)) (hit : Hid (ItemsAt w its (.slice lA its.length lC))) :
    Calls Try.prog 21 #[.agg #[.slice mA ms.length mC], .int .i64 (i : Nat), .slice lA its.length lC] w (WithRet w (ms.set i ⟨mi.name, mi.params, mi.ports, its⟩) ms.length) := by
  obtain ⟨i0, hi0, hz0, hz1, hz2⟩ := info_parts info34
  have HI0 := Lib.hid (And.intro hi0 (And.intro hz0 (And.intro hz1 hz2)))
  clear hi0 hz0 hz1 hz2
  obtain ⟨nms, hnms⟩ : ∃ nms, ms.set i ⟨mi.name, mi.params, mi.ports, its⟩ = nms := ⟨_, rfl⟩
  rw [hnms]
  have HN := Lib.hid hnms
  have hnl : nms.length = ms.length := by rw [← hnms, List.length_set]
  have HNL := Lib.hid hnl
  have hil := (List.getElem?_eq_some_iff.1 hi.out).1
  clear hnms hnl
  go_enter Try.func21, Try.ntmps21
  go_upto_region 3 with fail
  refine wp_name fun W hW => ?_
  have WP := Lib.hid (show WiP w nms mA ms.length mC 0 (.slice none 0 0) [] W from by
    rw [hW]
    refine ⟨((Gr.alloc _ _).trans (Gr.alloc _ _)).trans (Gr.alloc _ _), (Gr.alloc _ _).keep (heap_alloc2_old w _ _), (Gr.alloc _ _).keep (heap_alloc2_new w _ _), ?_, World.ownsRow_nil _ _ _ _, rfl, fun q c h => by simp at h, by simp⟩
    have h := new_at ((w.alloc (.cells #[.slice mA ms.length mC] 24)).alloc (.cells #[.slice none 0 0] 24)) (.cells #[.slice none 0 0] 24)
    simpa using h)
  clear hW
  go_loopg [8] ms.length (fun g y wr => ∃ (j : Nat) (v : Value) (css : List (List Value)), j + g = ms.length ∧ y = .int .i64 j ∧ Hid (WiP w nms mA ms.length mC j v css wr))
  case atStart => exact ⟨0, _, _, by omega, rfl, WP⟩
  case round =>
    obtain ⟨j, v, css, hjg, rfl, HP⟩ := hrel
    have HJ := Lib.hid hjg
    have hjl : j ≤ ms.length := by omega
    clear hjg
    have b0 : wr.cell? ⟨w.heap.size, 0, none⟩ = some (.slice mA ms.length mC) := by rw [cell_at HP.out.2.1]; rfl
    by_cases hlt : j < ms.length
    · have hm : ms[j]? = some ms[j] := List.getElem?_eq_getElem hlt
      generalize ms[j] = m at hm
      obtain ⟨g, o, pA, pC, qA, qC, iA, iC, rfl, -, hg, hr, hma⟩ := mod_cells hms.out hm
      have hrr := range_gr hr hg HP.out.1
      have m0 := hrr 0 _ rfl
      have m1 := hrr 1 _ rfl
      have m2 := hrr 2 _ rfl
      have m3 := hrr 3 _ rfl
      simp only [Nat.add_zero] at m0
      have HM := Lib.hid hm
      have HMA := Lib.hid hma
      have i1 : (j : Int) < (ms.length : Int) := by omega
      have i2 : (0 : Int) ≤ (j : Int) := by omega
      clear hm hr hrr hg hma
      go_upto_region 6 with fail
      clear m0 m1 m2 m3 b0
      refine wp_name fun V hV => ?_
      have VV := Lib.hid (show V.heap[wr.heap.size]? = some (.cells #[.string m.name, .slice pA m.params.length pC, .slice qA m.ports.length qC, .slice iA m.items.length iC] 34 (0, 0)) ∧ Gr wr V from by
        rw [hV]
        exact ⟨new_at _ _, Gr.alloc _ _⟩)
      clear hV
      by_cases hji : j = i
      · subst hji
        obtain rfl : m = mi := Option.some.inj (HM.out.symm.trans hi.out)
        have q0 : ((j : Int) == (j : Int)) = true := by simp
        have z0 : V.frozen? ⟨wr.heap.size, 3, none⟩ = false := frozen_at VV.out.1
        have z1 : V.cell? ⟨wr.heap.size, 3, none⟩ = some (.slice iA m.items.length iC) := by rw [cell_at VV.out.1]; rfl
        go_upto_region 8 with fail
        clear z0 z1
        refine wp_name fun X hX => ?_
        have HB := Lib.hid (show X.heap[wr.heap.size]? = some (.cells #[.string m.name, .slice pA m.params.length pC, .slice qA m.ports.length qC, .slice lA its.length lC] 34 (0, 0)) from by
          rw [hX]
          exact put_in (vs := [.slice lA its.length lC]) (o := 3) VV.out.1 (Nat.le_of_ble_eq_true rfl) rfl)
        have HQ := Lib.hid (HP.out.gr (show Gr wr X from by
          rw [hX]
          exact gr_set VV.out.2 (Nat.le_refl _)))
        clear hX
        have HMN := Lib.hid (show nms[j]? = some ⟨m.name, m.params, m.ports, its⟩ from by rw [← HN.out]; exact List.getElem?_set_self hil)
        have HMO := Lib.hid (show MoAt w ⟨m.name, m.params, m.ports, its⟩ [.string m.name, .slice pA m.params.length pC, .slice qA m.ports.length qC, .slice lA its.length lC] from by
          obtain ⟨pv, qv, iv, e, k1, k2, k3⟩ := HMA.out
          simp only [List.cons.injEq, and_true, true_and] at e
          obtain ⟨rfl, rfl, rfl⟩ := e
          exact ⟨_, _, _, rfl, k1, k2, hit.out⟩)
        have k0 : X.cell? ⟨w.heap.size + 1 + 1, 0, none⟩ = some v := by rw [cell_at HQ.out.2.2.2.1]; rfl
        have k1 : X.cell? ⟨wr.heap.size, 0, none⟩ = some (.string m.name) := by rw [cell_at HB.out]; rfl
        have k2 : X.cell? ⟨wr.heap.size, 1, none⟩ = some (.slice pA m.params.length pC) := by rw [cell_at HB.out]; rfl
        have k3 : X.cell? ⟨wr.heap.size, 2, none⟩ = some (.slice qA m.ports.length qC) := by rw [cell_at HB.out]; rfl
        have k4 : X.cell? ⟨wr.heap.size, 3, none⟩ = some (.slice lA its.length lC) := by rw [cell_at HB.out]; rfl
        have HCL := Lib.hid (show css.length ≤ 100 by rw [HQ.out.2.2.2.2.2.1]; omega)
        have HA := Lib.hid (HQ.out.gr (Gr.alloc X (.cells #[.string m.name, .slice pA m.params.length pC, .slice qA m.ports.length qC, .slice lA its.length lC] 34)))
        go_wp2_with (at_builtin; refine wpList_append_lies _ rfl _ _ 22 rfl (w.heap.size + 3) 34 i0 _ 4 88 Try.underlying22 HI0.out.1 HI0.out.2.1 HI0.out.2.2.1 HI0.out.2.2.2 rfl (by decide) v j css.flatten rfl HA.out.2.2.2.2.1 ⟨X.heap.size, 0, none⟩ 1 1 [.string m.name, .slice pA m.params.length pC, .slice qA m.ports.length qC, .slice lA its.length lC] rfl rfl (World.news_of_block (new_at X _)) (by simp [Value.oneCell']) (by decide) (by unfold maxLen; omega) (by omega) HA.out.2.2.2.2.2.2.2 _ rfl ?_; intro gz cz w6 hown hgrow hor hlt3; have HW := Lib.hid (wip_step HA.out HMN.out HMO.out hgrow hown); have HF := Lib.hid (show w6.heap[w.heap.size + 1 + 1]? = some (.cells #[v] 24 (0, 0)) from (hgrow.block _ (heap_lt HA.out.2.2.2.1) (fun e => by have := (HA.out.2.2.2.2.1.lt _ e.symm).1; omega)).trans HA.out.2.2.2.1); clear hown hgrow hor hlt3 k0 k1 k2 k3 k4; have y0 : w6.cell? ⟨w.heap.size + 1 + 1, 0, none⟩ = some v := (by rw [cell_at HF.out]; rfl); have y1 : w6.frozen? ⟨w.heap.size + 1 + 1, 0, none⟩ = false := frozen_at HF.out)
        go_roundg (gk - 1)
        case measure => have := HJ.out; omega
        case rel => exact ⟨j + 1, .slice (some ⟨gz, 0, none⟩) (j + 1) cz, css ++ [[.string m.name, .slice pA m.params.length pC, .slice qA m.ports.length qC, .slice lA its.length lC]], by have := HJ.out; omega, by go_num, HW⟩
      · have q0 : ((j : Int) == (i : Int)) = false := beq_eq_false_iff_ne.2 (by omega)
        go_upto_region 8 with fail
        have HB := Lib.hid VV.out.1
        have HQ := Lib.hid (HP.out.gr VV.out.2)
        have HMN := Lib.hid (show nms[j]? = some m from by rw [← HN.out, List.getElem?_set_ne (fun e => hji e.symm)]; exact HM.out)
        have k0 : V.cell? ⟨w.heap.size + 1 + 1, 0, none⟩ = some v := by rw [cell_at HQ.out.2.2.2.1]; rfl
        have k1 : V.cell? ⟨wr.heap.size, 0, none⟩ = some (.string m.name) := by rw [cell_at HB.out]; rfl
        have k2 : V.cell? ⟨wr.heap.size, 1, none⟩ = some (.slice pA m.params.length pC) := by rw [cell_at HB.out]; rfl
        have k3 : V.cell? ⟨wr.heap.size, 2, none⟩ = some (.slice qA m.ports.length qC) := by rw [cell_at HB.out]; rfl
        have k4 : V.cell? ⟨wr.heap.size, 3, none⟩ = some (.slice iA m.items.length iC) := by rw [cell_at HB.out]; rfl
        have HCL := Lib.hid (show css.length ≤ 100 by rw [HQ.out.2.2.2.2.2.1]; omega)
        have HA := Lib.hid (HQ.out.gr (Gr.alloc V (.cells #[.string m.name, .slice pA m.params.length pC, .slice qA m.ports.length qC, .slice iA m.items.length iC] 34)))
        go_wp2_with (at_builtin; refine wpList_append_lies _ rfl _ _ 22 rfl (w.heap.size + 3) 34 i0 _ 4 88 Try.underlying22 HI0.out.1 HI0.out.2.1 HI0.out.2.2.1 HI0.out.2.2.2 rfl (by decide) v j css.flatten rfl HA.out.2.2.2.2.1 ⟨V.heap.size, 0, none⟩ 1 1 [.string m.name, .slice pA m.params.length pC, .slice qA m.ports.length qC, .slice iA m.items.length iC] rfl rfl (World.news_of_block (new_at V _)) (by simp [Value.oneCell']) (by decide) (by unfold maxLen; omega) (by omega) HA.out.2.2.2.2.2.2.2 _ rfl ?_; intro gz cz w6 hown hgrow hor hlt3; have HW := Lib.hid (wip_step HA.out HMN.out HMA.out hgrow hown); have HF := Lib.hid (show w6.heap[w.heap.size + 1 + 1]? = some (.cells #[v] 24 (0, 0)) from (hgrow.block _ (heap_lt HA.out.2.2.2.1) (fun e => by have := (HA.out.2.2.2.2.1.lt _ e.symm).1; omega)).trans HA.out.2.2.2.1); clear hown hgrow hor hlt3 k0 k1 k2 k3 k4; have y0 : w6.cell? ⟨w.heap.size + 1 + 1, 0, none⟩ = some v := (by rw [cell_at HF.out]; rfl); have y1 : w6.frozen? ⟨w.heap.size + 1 + 1, 0, none⟩ = false := frozen_at HF.out)
        go_roundg (gk - 1)
        case measure => have := HJ.out; omega
        case rel => exact ⟨j + 1, .slice (some ⟨gz, 0, none⟩) (j + 1) cz, css ++ [[.string m.name, .slice pA m.params.length pC, .slice qA m.ports.length qC, .slice iA m.items.length iC]], by have := HJ.out; omega, by go_num, HW⟩
    · obtain rfl : j = ms.length := by omega
      have i1 : ¬ (ms.length : Int) < (ms.length : Int) := by omega
      rw [← HNL.out] at HP
      obtain ⟨A, c, hve, -⟩ := wip_end HP.out.1 HP.out.2.2.2.2.1 HP.out.2.2.2.2.2.1 HP.out.2.2.2.2.2.2.1 (by rw [HNL.out]; exact hn)
      subst hve
      have k0 : wr.cell? ⟨w.heap.size + 1 + 1, 0, none⟩ = some (.slice A nms.length c) := by rw [cell_at HP.out.2.2.2.1]; rfl
      have THR := Lib.hid (show wr.there (w.heap.size + 1) 0 (#[Value.slice A nms.length c] : Array Value).size from there_all (z := #[.slice none 0 0]) HP.out.2.2.1)
      have HALL := Lib.hid (show (#[Value.slice A nms.length c] : Array Value).all (·.oneCell') = true from by simp [Value.oneCell'])
      go_wp2_with (refine wpList_store_mid (by rfl) 24 _ _ rfl (w.heap.size + 1) 0 #[.slice A nms.length c] rfl rfl THR.out size24 HALL.out ?_)
      have hp := put_all HP.out.2.2.1 (cs := [.slice A nms.length c]) rfl
      have hgw : Gr w (wr.setCells (w.heap.size + 1) 0 [.slice A nms.length c]) := gr_sets (by omega) _ _ _ HP.out.1
      have how : (wr.setCells (w.heap.size + 1) 0 [.slice A nms.length c]).ownsRow (w.heap.size + 3) 34 4 (.slice A nms.length c) nms.length css.flatten := own_set' HP.out.2.2.2.2.1 (by omega)
      obtain ⟨A', c', he, hmo⟩ := wip_end hgw how HP.out.2.2.2.2.2.1 HP.out.2.2.2.2.2.2.1 (by rw [HNL.out]; exact hn)
      simp only [Value.slice.injEq, true_and] at he
      obtain ⟨rfl, rfl⟩ := he
      refine bodyPost_ret (v := .agg #[.slice A nms.length c]) ?_ ?_ ?_
      · exact results_cell_row rfl _ _ (w.heap.size + 1) 24 #[.slice A nms.length c] (0, 0) _ rfl hp Try.underlying24 rfl size24
      · rfl
      rw [← HNL.out]
      exact ⟨A, c, rfl, hmo, hgw⟩
end Go.Proofs.Ytjkaeabnjkhllaa
