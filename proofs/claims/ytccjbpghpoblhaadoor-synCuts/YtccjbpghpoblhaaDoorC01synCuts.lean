/-
  Same, WALKED where both designs are one.
-/
import Derived.Test.YtccjbpghpoblhaaDoorK34
namespace Go.Proofs.YtccjbpghpoblhaaDoor
open Go.RowKit

abbrev Mo4o (w : World) (g o : Nat) (a b c d : Value) : Prop := w.cell? ⟨g, o, none⟩ = some a ∧ w.cell? ⟨g, o + 1, none⟩ = some b ∧ w.cell? ⟨g, o + 2, none⟩ = some c ∧ w.cell? ⟨g, o + 3, none⟩ = some d
/-- a module of a row, in memory -/
theorem mod_cells {w : World} {F : Nat → Prop} {ms : List Mo} {A : Option Addr} {n c : Nat} (h : ModsAt w F ms (.slice A n c)) {j : Nat} {m : Mo} (hm : ms[j]? = some m) : ∃ g pv qv iv, A = some ⟨g, 0, none⟩ ∧ g < w.heap.size ∧ Mo4o w g (j * 4) (.string (str m.name)) pv qv iv ∧ MoAt w F m [.string (str m.name), pv, qv, iv] := by
  obtain ⟨css, hr, hl, hq⟩ := h
  obtain ⟨cs, hcs, hm'⟩ := hq j m hm
  have l4 : ∀ c ∈ css, c.length = 4 := css_len hl hq (fun k c hk => by obtain ⟨_, _, _, rfl, _⟩ := hk; rfl)
  obtain ⟨g, cap, hv, _, hgl, hrg⟩ := row_range hr hl l4 hcs
  obtain ⟨pv, qv, iv, rfl, h1, h2, h3⟩ := hm'
  injection hv with hv _ _
  exact ⟨g, pv, qv, iv, hv, hgl, ⟨hrg 0 _ rfl, hrg 1 _ rfl, hrg 2 _ rfl, hrg 3 _ rfl⟩, ⟨pv, qv, iv, rfl, h1, h2, h3⟩⟩
theorem mo4o_gr {w w' : World} {g o : Nat} {a b c d : Value} (h : Mo4o w g o a b c d) (hl : g < w.heap.size) (hg : Gr w w') : Mo4o w' g o a b c d := by
  have q : ∀ o, w'.cell? ⟨g, o, none⟩ = w.cell? ⟨g, o, none⟩ := fun o => World.cell?_of_block (a := ⟨g, o, none⟩) (hg.block g hl (by simp))
  exact ⟨(q _).trans h.1, (q _).trans h.2.1, (q _).trans h.2.2.1, (q _).trans h.2.2.2⟩
theorem mods_len {w : World} {F : Nat → Prop} {ms : List Mo} {v : Value} (h : ModsAt w F ms v) : ms.length ≤ maxLen := by
  obtain ⟨css, hr, _, _⟩ := h
  rcases hr.1.2 with ⟨_, h1⟩ | ⟨g, cap, cur, hv, hb, hh, h2, h3, _⟩
  · rw [h1]; exact Nat.zero_le _
  · omega

set_option maxRecDepth 100000 in
set_option maxHeartbeats 4000000 in
theorem Same_yes (ms : List Mo) (A A' : Option Addr) (n c c' : Nat) (F F' : Nat → Prop) (w : World) (hn : ms.length = n) (h : Hid (ModsAt w F ms (.slice A n c))) (h' : Hid (ModsAt w F' ms (.slice A' n c'))) :
    Calls Tryd.prog 14 #[.agg #[.slice A n c], .agg #[.slice A' n c']] w fun e w' => e = .returned (.bool true) ∧ Gr w w' := by
  have hml := mods_len h.out
  unfold maxLen at hml
  subst hn
  go_enter Tryd.func14, Tryd.ntmps14
  go_upto_region 1 with fail
  obtain ⟨W, eW, GW, CA, CB⟩ : ∃ W, (w.alloc (.cells #[.slice A ms.length c] 26)).alloc (.cells #[.slice A' ms.length c'] 26) = W ∧ Hid (Gr w W) ∧ Hid (W.heap[w.heap.size]? = some (.cells #[.slice A ms.length c] 26 (0, 0))) ∧ Hid (W.heap[w.heap.size + 1]? = some (.cells #[.slice A' ms.length c'] 26 (0, 0))) := by
    refine ⟨_, rfl, Lib.hid ((Gr.alloc _ _).trans (Gr.alloc _ _)), Lib.hid ((Below.heap_alloc _ _ _ (by simp)).trans (new_at w _)), Lib.hid ?_⟩
    have := new_at (w.alloc (.cells #[.slice A ms.length c] 26)) (.cells #[.slice A' ms.length c'] 26)
    simpa using this
  rw [eW]
  clear eW
  have AT := Lib.hid (show ∀ (u : World), Gr W u → (u.cell? ⟨w.heap.size, 0, none⟩ = some (.slice A ms.length c) ∧ u.cell? ⟨w.heap.size + 1, 0, none⟩ = some (.slice A' ms.length c')) from fun u hu => by
    have a := hu.keep CA.out
    have b := hu.keep CB.out
    exact ⟨by rw [cell_at a]; rfl, by rw [cell_at b]; rfl⟩)
  obtain ⟨k0, q0⟩ := AT.out W (Gr.refl _)
  go_wp2_with fail
  clear k0 q0
  go_loopg [5] ms.length (fun g x wr => ∃ j : Nat, j + g = ms.length ∧ x = .int .i64 (j : Nat) ∧ Hid (Gr W wr))
  case atStart => exact ⟨0, by omega, rfl, Lib.hid (Gr.refl _)⟩
  case round =>
    obtain ⟨j, hj, rfl, GR⟩ := hrel
    have HJ := Lib.hid hj
    clear hj
    obtain ⟨k0, q0⟩ := AT.out wr GR.out
    by_cases hlt : j < ms.length
    · have hd1 : ((j : Int) < (ms.length : Int)) := by omega
      have hd0 : (0 : Int) ≤ (j : Int) := by omega
      obtain ⟨m, hm⟩ : ∃ m, ms[j]? = some m := ⟨_, List.getElem?_eq_getElem hlt⟩
      obtain ⟨g, pv, qv, iv, rfl, hgl, c4, mat⟩ := mod_cells h.out hm
      obtain ⟨g', pv', qv', iv', rfl, hgl', c4', mat'⟩ := mod_cells h'.out hm
      have GG := GW.out.trans GR.out
      have KEEP := Lib.hid (show ∀ u, Gr wr u → (u.cell? ⟨w.heap.size, 0, none⟩ = some (.slice (some ⟨g, 0, none⟩) ms.length c) ∧ u.cell? ⟨w.heap.size + 1, 0, none⟩ = some (.slice (some ⟨g', 0, none⟩) ms.length c') ∧ Mo4o u g (j * 4) (.string (str m.name)) pv qv iv ∧ Mo4o u g' (j * 4) (.string (str m.name)) pv' qv' iv') from fun u hu => ⟨(AT.out u (GR.out.trans hu)).1, (AT.out u (GR.out.trans hu)).2, mo4o_gr c4 hgl (GG.trans hu), mo4o_gr c4' hgl' (GG.trans hu)⟩)
      have SM := Lib.hid (show ∀ u : World, Gr wr u → Calls Tryd.prog 17 #[.agg #[.string (str m.name), pv, qv, iv], .agg #[.string (str m.name), pv', qv', iv']] u (fun e w' => e = .returned (.bool true) ∧ Gr u w') from fun u hu => SameModule_yes m _ _ _ _ u (Lib.hid (mat.gr (GG.trans hu))) (Lib.hid (mat'.gr (GG.trans hu))))
      clear c4 c4' mat mat' GG hm hgl hgl'
      go_wp2_with fail
      clear k0 q0
      go_region_held3 (fun u => u.cell? ⟨w.heap.size, 0, none⟩ = some (.slice (some ⟨g, 0, none⟩) ms.length c) ∧ u.cell? ⟨w.heap.size + 1, 0, none⟩ = some (.slice (some ⟨g', 0, none⟩) ms.length c') ∧ Mo4o u g (j * 4) (.string (str m.name)) pv qv iv ∧ Mo4o u g' (j * 4) (.string (str m.name)) pv' qv' iv')
        (first | exact KEEP.out _ (Gr.drew _) | exact KEEP.out _ (by assumption))
        (first
          | (go_at_call 17; (with_reducible refine (SM.out _ (Gr.drew _)).mono ?_); rintro e u1 ⟨rfl, hu1'⟩; have hu1 : Gr wr u1 := (Gr.drew _).trans hu1'))
      go_wp2_with fail
      go_roundg (gk - 1)
      case measure => have := HJ.out; omega
      case rel => exact ⟨j + 1, by have := HJ.out; omega, by go_num, Lib.hid (GR.out.trans hu1)⟩
    · have hd1 : ¬ ((j : Int) < (ms.length : Int)) := by omega
      go_wp2_with fail
      go_ret
      exact ⟨rfl, GW.out.trans GR.out⟩
end Go.Proofs.YtccjbpghpoblhaaDoor

