/-
  newChecker, WALKED.
-/
import Derived.Test.YtjkaeabnjkhllaaScNcm
import Derived.Test.YtjkaeabnjkhllaaScExb
namespace Go.Proofs.Ytjkaeabnjkhllaa
open Go.RowKit

theorem info89 : (Try.prog.info? 89).map (fun i => (i.zero, i.size, i.bytes)) = some (some .nilFunc, 1, 8) := by kernel_rfl
theorem flat_single : ∀ fs : List Value, (fs.map fun v => [v]).flatten = fs
  | [] => rfl
  | a :: r => by rw [List.map_cons, List.flatten_cons, flat_single r]; rfl
theorem size70 : (Try.prog.info? 70).map (·.size) = some 4 := by kernel_rfl
theorem mergeN {P : Program} {c : Code} {Q : Exit → Act → World → Prop} {a : Act} {w : World} {S : Nat → Nat → Nat → Nat → World → Prop} {FR : Nat → Nat → Nat → Nat → Act} (hr : (∀ A B C D W', S A B C D W' → Q .normal (FR A B C D) W') → c.wp P (NoPanic Q) a w) (hq : ∀ A B C D W', S A B C D W' → Q .normal (FR A B C D) W') : c.wp P Q a w := wp_mono (hr hq) (fun e a w h => NoPanic.imp e a w h)
theorem nc_cell {w X u w5 : World} {ms : List Mo} {mv : Value} {k km : Nat} {v : Value} {fs : List Value} (h : NcI w ms mv k km X v fs) (hg : Gr X u) {o : Obj} (hgrow : (u.alloc o).grownBy w5 v.ownBlock) : w5.cell? ⟨w.heap.size + 3, 2, none⟩ = some v ∧ w5.frozen? ⟨w.heap.size + 3, 2, none⟩ = false := by
  have hu := h.gr' hg
  have h5 : w5.heap[w.heap.size + 3]? = some (.cells #[mv, .map (some (w.heap.size + 1)), v, .map (some (w.heap.size + 2))] 70 (0, 0)) := by
    refine ((hgrow.block _ (by have := heap_lt hu.box; simp; omega) (fun e => ?_)).trans (Below.heap_alloc _ _ _ (heap_lt hu.box))).trans hu.box
    rcases hu.row.2 with ⟨hv, _⟩ | ⟨g', cap', cur, hv, hb, hh, _⟩
    · rw [hv] at e; simp [Value.ownBlock] at e
    · rw [hv] at e
      simp [Value.ownBlock] at e
      rw [← e, hu.box] at hh
      cases hh
  exact ⟨by rw [cell_at h5]; rfl, frozen_at h5⟩
theorem results26 (tmps : Array Value) (ad : Addr) (w : World) (v : Value) (ht : tmps.getD 2 undef = .pointer (some ad)) (hl : (loadVar 70 ad).run Try.prog w = .ok v w) : (results Try.f26 tmps).run Try.prog w = .ok v w := by
  have hr : Try.f26.results = #[.cell 2 70] := by rfl
  unfold results
  rw [hr]
  have h1 : ∀ (f : ResultVar → Sem Value), Array.mapM f #[.cell 2 70] = (do let x ← f (.cell 2 70); pure #[x]) := by
    intro f
    simp
  rw [h1]
  simp only [ht]
  have h2 : (asAddr (Value.pointer (some ad))) = (pure ad : Sem Addr) := rfl
  rw [h2]
  simp [hl]

set_option maxRecDepth 100000 in
set_option maxHeartbeats 4000000 in
theorem newChecker_any (ms : List Mo) (mA : Option Addr) (mC : Nat) (w : World) (hb : ms.length ≤ 1000) (hms : Hid (ModsAt w ms (.slice mA ms.length mC))) :
    Calls Try.prog 26 #[.slice mA ms.length mC] w fun e w' => ∃ fb fA fn fC tb, e = .returned (.agg #[.slice mA ms.length mC, .map (some fb), .slice fA fn fC, .map (some tb)]) ∧ CkAt w' ms (.slice mA ms.length mC) fb (.slice fA fn fC) tb ∧ Gr w w' := by
  have hmm := @run_makeMap Try.prog
  obtain ⟨i0, hi0, hz0, hz1, hz2⟩ := info_parts info89
  have HI0 := Lib.hid (And.intro hi0 (And.intro hz0 (And.intro hz1 hz2)))
  clear hi0 hz0 hz1 hz2
  go_enter Try.func26, Try.ntmps26
  go_upto_region 3 with (go_at_call 36; refine (kidsTaken_any _).mono ?_; rintro e w1 ⟨rfl, ht, hsz, hg⟩; have HT := Lib.hid (And.intro ht hg); have HSZ := Lib.hid hsz; clear ht hg hsz)
  have e3 : w1.heap.size = w.heap.size + 3 := by have := HSZ.out; simpa using this
  simp only [Nat.add_assoc, Nat.reduceAdd]
  rw [e3]
  obtain ⟨W, eW, HN⟩ : ∃ W, w1.alloc (.cells #[.slice mA ms.length mC, .map (some (w.heap.size + 1)), .slice none 0 0, .map (some (w.heap.size + 2))] 70) = W ∧ Hid (NcI w ms (.slice mA ms.length mC) 0 0 W (.slice none 0 0) []) := by
    refine ⟨_, rfl, Lib.hid ?_⟩
    obtain ⟨⟨es, cl, t1, t2⟩, hg⟩ := HT.out
    have g1 := hg.trans (Gr.alloc w1 (.cells #[.slice mA ms.length mC, .map (some (w.heap.size + 1)), .slice none 0 0, .map (some (w.heap.size + 2))] 70))
    refine ⟨((Gr.alloc _ _).trans (Gr.alloc _ _)).trans g1, g1.keep ((Gr.alloc _ _).keep (new_at w _)), ?_, ⟨[], ?_, fun s => rfl⟩, World.ownsRow_nil _ _ _ _, fun i m hi => by omega, ⟨es, cl, (Gr.alloc _ _).keep (by simpa using t1), t2⟩⟩
    · have h := new_at w1 (.cells #[.slice mA ms.length mC, .map (some (w.heap.size + 1)), .slice none 0 0, .map (some (w.heap.size + 2))] 70)
      rw [e3] at h
      exact h
    · have h := MpAt.new (w.alloc (.cells #[.slice none 0 0, .map none, .slice none 0 0, .map none] 70))
      rw [World.size_alloc] at h
      exact h.gr g1
  rw [eW]
  clear eW
  go_loopg [14] ms.length (fun g y wr => ∃ (k : Nat) (v : Value) (fs : List Value), k + g = ms.length ∧ y = .int .i64 (k : Nat) ∧ Hid (NcI w ms (.slice mA ms.length mC) k k wr v fs))
  case atStart => exact ⟨0, _, _, by omega, rfl, HN⟩
  case round =>
    obtain ⟨k, v, fs, hkg, rfl, HI⟩ := hrel
    have HK := Lib.hid hkg
    have hkl : k ≤ ms.length := by omega
    clear hkg
    have lt3 := heap_lt HI.out.box
    have a0 : wr.cell? ⟨w.heap.size + 3, 0, none⟩ = some (.slice mA ms.length mC) := by rw [cell_at HI.out.box]; rfl
    have a1 : wr.cell? ⟨w.heap.size + 3, 1, none⟩ = some (.map (some (w.heap.size + 1))) := by rw [cell_at HI.out.box]; rfl
    have a2 : wr.cell? ⟨w.heap.size + 3, 2, none⟩ = some v := by rw [cell_at HI.out.box]; rfl
    have a3 : wr.cell? ⟨w.heap.size + 3, 3, none⟩ = some (.map (some (w.heap.size + 2))) := by rw [cell_at HI.out.box]; rfl
    by_cases hlt : k < ms.length
    · obtain ⟨md, hmd⟩ : ∃ md, ms[k]? = some md := ⟨_, List.getElem?_eq_getElem hlt⟩
      obtain ⟨g, o, pA, pC, qA, qC, iA, iC, rfl, _, hg, hr, hmo⟩ := mod_cells hms.out hmd
      have hr' := range_gr hr hg HI.out.gr
      have c0 := hr' 0 _ rfl
      have c1 := hr' 1 _ rfl
      have c2 := hr' 2 _ rfl
      have c3 := hr' 3 _ rfl
      rw [Nat.add_zero] at c0
      have hd1 : (k : Int) < (ms.length : Int) := by omega
      have hd0 : (0 : Int) ≤ (k : Int) := by omega
      have HMK := Lib.hid hmd
      have HMO := Lib.hid hmo
      obtain ⟨l, hl1, hl2⟩ := HI.out.map
      have hlk := look_str Try.underlying66 Try.zeroValue3 (hl1.gr (Gr.alloc wr (.cells #[.string md.name, .slice pA md.params.length pC, .slice qA md.ports.length qC, .slice iA md.items.length iC] 34))) md.name true
      rw [hl2] at hlk
      have HL := Lib.hid (And.intro hl1 hl2)
      clear hl1 hl2 hr hr' hg hmo hmd
      have main : ∀ X, NcI w ms (.slice (some ⟨g, o, none⟩) ms.length mC) k (k + 1) X v fs → X.heap[wr.heap.size]? = some (.cells #[.string md.name, .slice pA md.params.length pC, .slice qA md.ports.length qC, .slice iA md.items.length iC] 34 (0, 0)) → True := fun _ _ _ => trivial
      rcases hma : modAt (ms.take k) md.name with _ | j
      · rw [hma] at hlk
        simp only [Option.map_none, Option.getD_none, Option.isSome_none, if_true] at hlk
        obtain ⟨ob, hrun, hmp⟩ := put_str Try.underlying66 (HL.out.1.gr (Gr.alloc wr (.cells #[.string md.name, .slice pA md.params.length pC, .slice qA md.ports.length qC, .slice iA md.items.length iC] 34))) md.name (intV k)
        unfold intV at hrun
        have HP := Lib.hid (And.intro hmp hma)
        clear hmp hma main
        go_upto_region 8 with fail
        obtain ⟨X, eX, HNC, HB5⟩ : ∃ X, (wr.alloc (.cells #[.string md.name, .slice pA md.params.length pC, .slice qA md.ports.length qC, .slice iA md.items.length iC] 34)).putObj (w.heap.size + 1) ob = X ∧ Hid (NcI w ms (.slice (some ⟨g, o, none⟩) ms.length mC) k (k + 1) X v fs) ∧ Hid (X.heap[wr.heap.size]? = some (.cells #[.string md.name, .slice pA md.params.length pC, .slice qA md.ports.length qC, .slice iA md.items.length iC] 34 (0, 0))) :=
          ⟨_, rfl, Lib.hid ((HI.out.gr' (Gr.alloc _ _)).mapped HMK.out HL.out.2 HP.out.2 HP.out.1), Lib.hid ((World.putObj_heap_other (by omega)).trans (new_at _ _))⟩
        rw [eX]
        clear eX hrun hlk a0 a1 a2 a3 c0 c1 c2 c3
        have HAT := Lib.hid (show ∀ u, Gr X u → (u.cell? ⟨w.heap.size + 3, 0, none⟩ = some (.slice (some ⟨g, o, none⟩) ms.length mC) ∧ u.cell? ⟨w.heap.size + 3, 1, none⟩ = some (.map (some (w.heap.size + 1))) ∧ u.cell? ⟨w.heap.size + 3, 2, none⟩ = some v ∧ u.cell? ⟨w.heap.size + 3, 3, none⟩ = some (.map (some (w.heap.size + 2))) ∧ u.cell? ⟨wr.heap.size, 0, none⟩ = some (.string md.name) ∧ u.cell? ⟨wr.heap.size, 1, none⟩ = some (.slice pA md.params.length pC) ∧ u.cell? ⟨wr.heap.size, 2, none⟩ = some (.slice qA md.ports.length qC) ∧ u.cell? ⟨wr.heap.size, 3, none⟩ = some (.slice iA md.items.length iC)) from fun u hu => ⟨by rw [cell_at (hu.keep HNC.out.box)]; rfl, by rw [cell_at (hu.keep HNC.out.box)]; rfl, by rw [cell_at (hu.keep HNC.out.box)]; rfl, by rw [cell_at (hu.keep HNC.out.box)]; rfl, by rw [cell_at (hu.keep HB5.out)]; rfl, by rw [cell_at (hu.keep HB5.out)]; rfl, by rw [cell_at (hu.keep HB5.out)]; rfl, by rw [cell_at (hu.keep HB5.out)]; rfl⟩)
        have NF := Lib.hid (fun (u : World) (hu : Gr X u) => newFinder_any md pA qA iA pC qC iC u (Lib.hid (HMO.out.gr (HNC.out.gr.trans hu))))
        have HG0 := Lib.hid (Gr.drew X)
        refine wp_region_any (by kernel_rfl) ?_
        rw [show ({ X with drawn := X.drawn + 1 } : World) = X.drew from rfl]
        refine wpAny_take (i := 0) (v := .pointer (some ⟨w.heap.size + 3, 2, none⟩)) rfl (by kernel_rfl) (by kernel_rfl) (by kernel_rfl) (fun _ _ _ h => h) (Or.inl ⟨by rfl, by intro w; go_simp⟩) ?_
        refine wpAny_ready (rs := [1, 2]) (by kernel_rfl) (by simp) ?_
        refine AllReady.cons rfl (fun K1 hK1 => ?_) ?_
        · obtain ⟨a0, a1, a2, a3, b0, b1, b2, b3⟩ := HAT.out _ HG0.out
          go_simp
          refine hK1 _ _ ?_
          clear a0 a1 a2 a3 b0 b1 b2 b3
          refine wpAny_ready (rs := [2]) (by kernel_rfl) (by simp) ?_
          refine AllReady.cons rfl (fun K2 hK2 => ?_) ?_
          · obtain ⟨a0, a1, a2, a3, b0, b1, b2, b3⟩ := HAT.out _ HG0.out
            go_simp
            refine hK2 _ _ ?_
            clear a0 a1 a2 a3 b0 b1 b2 b3
            refine wpAny_ready (rs := [3]) (by kernel_rfl) (by simp) ?_
            refine AllReady.cons rfl (fun K3 hK3 => ?_) ?_
            · go_simp
              refine (NF.out _ HG0.out).mono ?_
              rintro e u1 ⟨rfl, ⟨hc1, hf1⟩, hg1⟩
              have HG1 := Lib.hid (HG0.out.trans hg1)
              have HFF := Lib.hid (And.intro hc1 (And.intro hf1 (And.intro HG0.out.size HG1.out)))
              clear hc1 hf1 hg1
              refine hK3 _ _ ?_
              refine wpAny_ready (rs := [4]) (by kernel_rfl) (by simp) ?_
              refine AllReady.cons rfl (fun K4 hK4 => ?_) ?_
              · go_simp
                refine hK4 _ _ ?_
                have HGA := Lib.hid (show ∀ ob, Gr X (u1.alloc ob) from fun ob => HG1.out.trans (Gr.alloc u1 ob))
                refine wpAny_ready (rs := [5]) (by kernel_rfl) (by simp) ?_
                refine AllReady.cons rfl (fun K5 hK5 => ?_) ?_
                · refine step_append_lies _ rfl _ _ 67 rfl w.heap.size 89 i0 _ 1 8 Try.underlying67 HI0.out.1 HI0.out.2.1 HI0.out.2.2.1 HI0.out.2.2.2 rfl (by decide) v k fs rfl ((HNC.out.gr' HFF.out.2.2.2).row.alloc _) ⟨u1.heap.size, 0, none⟩ 1 1 [fnV (X.heap.size + 2)] rfl rfl (fun j z hz => ?_) (by simp [fnV, Value.oneCell']) (by decide) (by unfold maxLen; omega) (by omega) (Nat.le_trans HNC.out.gr.size (Nat.le_trans HFF.out.2.2.2.size (by simp))) _ rfl ?_
                  · rw [add_zero', cell_at (new_at u1 _), ← Array.getElem?_toList]; exact hz
                  intro g5 cap5 w5 hown hgrow hat hlt5
                  have HFIN := Lib.hid (nc_app HNC.out HFF.out.2.2.2 (Nat.le_trans HFF.out.2.2.1 (Nat.le_add_right _ 2)) (Nat.le_trans HFF.out.2.2.1 (Nat.le_add_right _ 1)) HFF.out.1 HFF.out.2.1 HMK.out hgrow hown hat)
                  obtain ⟨x1, x2⟩ := nc_cell HNC.out HFF.out.2.2.2 hgrow
                  clear hown hgrow hat hlt5
                  refine hK5 _ _ ?_
                  refine wpAny_ready (rs := [6]) (by kernel_rfl) (by simp) ?_
                  refine AllReady.cons rfl (fun K6 hK6 => ?_) ?_
                  · go_simp
                    refine hK6 _ _ ?_
                    refine wpAny_ready (rs := [7]) (by kernel_rfl) (by simp) ?_
                    refine AllReady.cons rfl (fun K7 hK7 => ?_) ?_
                    · go_simp
                      refine hK7 _ _ ?_
                      refine wpAny_done (by kernel_rfl) ?_ _
                      go_wp2_with fail
                      go_roundg (gk - 1)
                      case measure => have := HK.out; omega
                      case rel => exact ⟨k + 1, _, _, by have := HK.out; omega, by go_num, HFIN⟩
                    exact AllReady.nil
                  exact AllReady.nil
                exact AllReady.nil
              exact AllReady.nil
            exact AllReady.nil
          exact AllReady.nil
        refine AllReady.cons rfl (fun K1 hK1 => ?_) ?_
        · obtain ⟨a0, a1, a2, a3, b0, b1, b2, b3⟩ := HAT.out _ HG0.out
          go_simp
          refine hK1 _ _ ?_
          clear a0 a1 a2 a3 b0 b1 b2 b3
          refine wpAny_ready (rs := [1, 3]) (by kernel_rfl) (by simp) ?_
          refine AllReady.cons rfl (fun K2 hK2 => ?_) ?_
          · obtain ⟨a0, a1, a2, a3, b0, b1, b2, b3⟩ := HAT.out _ HG0.out
            go_simp
            refine hK2 _ _ ?_
            clear a0 a1 a2 a3 b0 b1 b2 b3
            refine wpAny_ready (rs := [3]) (by kernel_rfl) (by simp) ?_
            refine AllReady.cons rfl (fun K3 hK3 => ?_) ?_
            · go_simp
              refine (NF.out _ HG0.out).mono ?_
              rintro e u1 ⟨rfl, ⟨hc1, hf1⟩, hg1⟩
              have HG1 := Lib.hid (HG0.out.trans hg1)
              have HFF := Lib.hid (And.intro hc1 (And.intro hf1 (And.intro HG0.out.size HG1.out)))
              clear hc1 hf1 hg1
              refine hK3 _ _ ?_
              refine wpAny_ready (rs := [4]) (by kernel_rfl) (by simp) ?_
              refine AllReady.cons rfl (fun K4 hK4 => ?_) ?_
              · go_simp
                refine hK4 _ _ ?_
                have HGA := Lib.hid (show ∀ ob, Gr X (u1.alloc ob) from fun ob => HG1.out.trans (Gr.alloc u1 ob))
                refine wpAny_ready (rs := [5]) (by kernel_rfl) (by simp) ?_
                refine AllReady.cons rfl (fun K5 hK5 => ?_) ?_
                · refine step_append_lies _ rfl _ _ 67 rfl w.heap.size 89 i0 _ 1 8 Try.underlying67 HI0.out.1 HI0.out.2.1 HI0.out.2.2.1 HI0.out.2.2.2 rfl (by decide) v k fs rfl ((HNC.out.gr' HFF.out.2.2.2).row.alloc _) ⟨u1.heap.size, 0, none⟩ 1 1 [fnV (X.heap.size + 2)] rfl rfl (fun j z hz => ?_) (by simp [fnV, Value.oneCell']) (by decide) (by unfold maxLen; omega) (by omega) (Nat.le_trans HNC.out.gr.size (Nat.le_trans HFF.out.2.2.2.size (by simp))) _ rfl ?_
                  · rw [add_zero', cell_at (new_at u1 _), ← Array.getElem?_toList]; exact hz
                  intro g5 cap5 w5 hown hgrow hat hlt5
                  have HFIN := Lib.hid (nc_app HNC.out HFF.out.2.2.2 (Nat.le_trans HFF.out.2.2.1 (Nat.le_add_right _ 2)) (Nat.le_trans HFF.out.2.2.1 (Nat.le_add_right _ 1)) HFF.out.1 HFF.out.2.1 HMK.out hgrow hown hat)
                  obtain ⟨x1, x2⟩ := nc_cell HNC.out HFF.out.2.2.2 hgrow
                  clear hown hgrow hat hlt5
                  refine hK5 _ _ ?_
                  refine wpAny_ready (rs := [6]) (by kernel_rfl) (by simp) ?_
                  refine AllReady.cons rfl (fun K6 hK6 => ?_) ?_
                  · go_simp
                    refine hK6 _ _ ?_
                    refine wpAny_ready (rs := [7]) (by kernel_rfl) (by simp) ?_
                    refine AllReady.cons rfl (fun K7 hK7 => ?_) ?_
                    · go_simp
                      refine hK7 _ _ ?_
                      refine wpAny_done (by kernel_rfl) ?_ _
                      go_wp2_with fail
                      go_roundg (gk - 1)
                      case measure => have := HK.out; omega
                      case rel => exact ⟨k + 1, _, _, by have := HK.out; omega, by go_num, HFIN⟩
                    exact AllReady.nil
                  exact AllReady.nil
                exact AllReady.nil
              exact AllReady.nil
            exact AllReady.nil
          refine AllReady.cons rfl (fun K2 hK2 => ?_) ?_
          · go_simp
            refine (NF.out _ HG0.out).mono ?_
            rintro e u1 ⟨rfl, ⟨hc1, hf1⟩, hg1⟩
            have HG1 := Lib.hid (HG0.out.trans hg1)
            have HFF := Lib.hid (And.intro hc1 (And.intro hf1 (And.intro HG0.out.size HG1.out)))
            clear hc1 hf1 hg1
            refine hK2 _ _ ?_
            refine wpAny_ready (rs := [1, 4]) (by kernel_rfl) (by simp) ?_
            refine AllReady.cons rfl (fun K3 hK3 => ?_) ?_
            · obtain ⟨a0, a1, a2, a3, b0, b1, b2, b3⟩ := HAT.out _ HG1.out
              go_simp
              refine hK3 _ _ ?_
              clear a0 a1 a2 a3 b0 b1 b2 b3
              refine wpAny_ready (rs := [4]) (by kernel_rfl) (by simp) ?_
              refine AllReady.cons rfl (fun K4 hK4 => ?_) ?_
              · go_simp
                refine hK4 _ _ ?_
                have HGA := Lib.hid (show ∀ ob, Gr X (u1.alloc ob) from fun ob => HG1.out.trans (Gr.alloc u1 ob))
                refine wpAny_ready (rs := [5]) (by kernel_rfl) (by simp) ?_
                refine AllReady.cons rfl (fun K5 hK5 => ?_) ?_
                · refine step_append_lies _ rfl _ _ 67 rfl w.heap.size 89 i0 _ 1 8 Try.underlying67 HI0.out.1 HI0.out.2.1 HI0.out.2.2.1 HI0.out.2.2.2 rfl (by decide) v k fs rfl ((HNC.out.gr' HFF.out.2.2.2).row.alloc _) ⟨u1.heap.size, 0, none⟩ 1 1 [fnV (X.heap.size + 2)] rfl rfl (fun j z hz => ?_) (by simp [fnV, Value.oneCell']) (by decide) (by unfold maxLen; omega) (by omega) (Nat.le_trans HNC.out.gr.size (Nat.le_trans HFF.out.2.2.2.size (by simp))) _ rfl ?_
                  · rw [add_zero', cell_at (new_at u1 _), ← Array.getElem?_toList]; exact hz
                  intro g5 cap5 w5 hown hgrow hat hlt5
                  have HFIN := Lib.hid (nc_app HNC.out HFF.out.2.2.2 (Nat.le_trans HFF.out.2.2.1 (Nat.le_add_right _ 2)) (Nat.le_trans HFF.out.2.2.1 (Nat.le_add_right _ 1)) HFF.out.1 HFF.out.2.1 HMK.out hgrow hown hat)
                  obtain ⟨x1, x2⟩ := nc_cell HNC.out HFF.out.2.2.2 hgrow
                  clear hown hgrow hat hlt5
                  refine hK5 _ _ ?_
                  refine wpAny_ready (rs := [6]) (by kernel_rfl) (by simp) ?_
                  refine AllReady.cons rfl (fun K6 hK6 => ?_) ?_
                  · go_simp
                    refine hK6 _ _ ?_
                    refine wpAny_ready (rs := [7]) (by kernel_rfl) (by simp) ?_
                    refine AllReady.cons rfl (fun K7 hK7 => ?_) ?_
                    · go_simp
                      refine hK7 _ _ ?_
                      refine wpAny_done (by kernel_rfl) ?_ _
                      go_wp2_with fail
                      go_roundg (gk - 1)
                      case measure => have := HK.out; omega
                      case rel => exact ⟨k + 1, _, _, by have := HK.out; omega, by go_num, HFIN⟩
                    exact AllReady.nil
                  exact AllReady.nil
                exact AllReady.nil
              exact AllReady.nil
            refine AllReady.cons rfl (fun K3 hK3 => ?_) ?_
            · go_simp
              refine hK3 _ _ ?_
              have HGA := Lib.hid (show ∀ ob, Gr X (u1.alloc ob) from fun ob => HG1.out.trans (Gr.alloc u1 ob))
              refine wpAny_ready (rs := [1]) (by kernel_rfl) (by simp) ?_
              refine AllReady.cons rfl (fun K4 hK4 => ?_) ?_
              · obtain ⟨a0, a1, a2, a3, b0, b1, b2, b3⟩ := HAT.out _ HG1.out
                have ltu := World.block_lt_of_cell? _ _ a0
                go_simp
                refine hK4 _ _ ?_
                clear ltu a0 a1 a2 a3 b0 b1 b2 b3
                refine wpAny_ready (rs := [5]) (by kernel_rfl) (by simp) ?_
                refine AllReady.cons rfl (fun K5 hK5 => ?_) ?_
                · refine step_append_lies _ rfl _ _ 67 rfl w.heap.size 89 i0 _ 1 8 Try.underlying67 HI0.out.1 HI0.out.2.1 HI0.out.2.2.1 HI0.out.2.2.2 rfl (by decide) v k fs rfl ((HNC.out.gr' HFF.out.2.2.2).row.alloc _) ⟨u1.heap.size, 0, none⟩ 1 1 [fnV (X.heap.size + 2)] rfl rfl (fun j z hz => ?_) (by simp [fnV, Value.oneCell']) (by decide) (by unfold maxLen; omega) (by omega) (Nat.le_trans HNC.out.gr.size (Nat.le_trans HFF.out.2.2.2.size (by simp))) _ rfl ?_
                  · rw [add_zero', cell_at (new_at u1 _), ← Array.getElem?_toList]; exact hz
                  intro g5 cap5 w5 hown hgrow hat hlt5
                  have HFIN := Lib.hid (nc_app HNC.out HFF.out.2.2.2 (Nat.le_trans HFF.out.2.2.1 (Nat.le_add_right _ 2)) (Nat.le_trans HFF.out.2.2.1 (Nat.le_add_right _ 1)) HFF.out.1 HFF.out.2.1 HMK.out hgrow hown hat)
                  obtain ⟨x1, x2⟩ := nc_cell HNC.out HFF.out.2.2.2 hgrow
                  clear hown hgrow hat hlt5
                  refine hK5 _ _ ?_
                  refine wpAny_ready (rs := [6]) (by kernel_rfl) (by simp) ?_
                  refine AllReady.cons rfl (fun K6 hK6 => ?_) ?_
                  · go_simp
                    refine hK6 _ _ ?_
                    refine wpAny_ready (rs := [7]) (by kernel_rfl) (by simp) ?_
                    refine AllReady.cons rfl (fun K7 hK7 => ?_) ?_
                    · go_simp
                      refine hK7 _ _ ?_
                      refine wpAny_done (by kernel_rfl) ?_ _
                      go_wp2_with fail
                      go_roundg (gk - 1)
                      case measure => have := HK.out; omega
                      case rel => exact ⟨k + 1, _, _, by have := HK.out; omega, by go_num, HFIN⟩
                    exact AllReady.nil
                  exact AllReady.nil
                exact AllReady.nil
              exact AllReady.nil
            exact AllReady.nil
          exact AllReady.nil
        exact AllReady.nil
      · rw [hma] at hlk
        simp only [Option.map_some, Option.getD_some, Option.isSome_some, if_true, intV] at hlk
        have HP := Lib.hid hma
        clear hma main
        go_upto_region 8 with fail
        obtain ⟨X, eX, HNC, HB5⟩ : ∃ X, wr.alloc (.cells #[.string md.name, .slice pA md.params.length pC, .slice qA md.ports.length qC, .slice iA md.items.length iC] 34) = X ∧ Hid (NcI w ms (.slice (some ⟨g, o, none⟩) ms.length mC) k (k + 1) X v fs) ∧ Hid (X.heap[wr.heap.size]? = some (.cells #[.string md.name, .slice pA md.params.length pC, .slice qA md.ports.length qC, .slice iA md.items.length iC] 34 (0, 0))) :=
          ⟨_, rfl, Lib.hid ((HI.out.gr' (Gr.alloc _ _)).there HMK.out HP.out), Lib.hid (new_at _ _)⟩
        rw [eX]
        clear eX hlk a0 a1 a2 a3 c0 c1 c2 c3
        have HAT := Lib.hid (show ∀ u, Gr X u → (u.cell? ⟨w.heap.size + 3, 0, none⟩ = some (.slice (some ⟨g, o, none⟩) ms.length mC) ∧ u.cell? ⟨w.heap.size + 3, 1, none⟩ = some (.map (some (w.heap.size + 1))) ∧ u.cell? ⟨w.heap.size + 3, 2, none⟩ = some v ∧ u.cell? ⟨w.heap.size + 3, 3, none⟩ = some (.map (some (w.heap.size + 2))) ∧ u.cell? ⟨wr.heap.size, 0, none⟩ = some (.string md.name) ∧ u.cell? ⟨wr.heap.size, 1, none⟩ = some (.slice pA md.params.length pC) ∧ u.cell? ⟨wr.heap.size, 2, none⟩ = some (.slice qA md.ports.length qC) ∧ u.cell? ⟨wr.heap.size, 3, none⟩ = some (.slice iA md.items.length iC)) from fun u hu => ⟨by rw [cell_at (hu.keep HNC.out.box)]; rfl, by rw [cell_at (hu.keep HNC.out.box)]; rfl, by rw [cell_at (hu.keep HNC.out.box)]; rfl, by rw [cell_at (hu.keep HNC.out.box)]; rfl, by rw [cell_at (hu.keep HB5.out)]; rfl, by rw [cell_at (hu.keep HB5.out)]; rfl, by rw [cell_at (hu.keep HB5.out)]; rfl, by rw [cell_at (hu.keep HB5.out)]; rfl⟩)
        have NF := Lib.hid (fun (u : World) (hu : Gr X u) => newFinder_any md pA qA iA pC qC iC u (Lib.hid (HMO.out.gr (HNC.out.gr.trans hu))))
        have HG0 := Lib.hid (Gr.drew X)
        refine wp_region_any (by kernel_rfl) ?_
        rw [show ({ X with drawn := X.drawn + 1 } : World) = X.drew from rfl]
        refine wpAny_take (i := 0) (v := .pointer (some ⟨w.heap.size + 3, 2, none⟩)) rfl (by kernel_rfl) (by kernel_rfl) (by kernel_rfl) (fun _ _ _ h => h) (Or.inl ⟨by rfl, by intro w; go_simp⟩) ?_
        refine wpAny_ready (rs := [1, 2]) (by kernel_rfl) (by simp) ?_
        refine AllReady.cons rfl (fun K1 hK1 => ?_) ?_
        · obtain ⟨a0, a1, a2, a3, b0, b1, b2, b3⟩ := HAT.out _ HG0.out
          go_simp
          refine hK1 _ _ ?_
          clear a0 a1 a2 a3 b0 b1 b2 b3
          refine wpAny_ready (rs := [2]) (by kernel_rfl) (by simp) ?_
          refine AllReady.cons rfl (fun K2 hK2 => ?_) ?_
          · obtain ⟨a0, a1, a2, a3, b0, b1, b2, b3⟩ := HAT.out _ HG0.out
            go_simp
            refine hK2 _ _ ?_
            clear a0 a1 a2 a3 b0 b1 b2 b3
            refine wpAny_ready (rs := [3]) (by kernel_rfl) (by simp) ?_
            refine AllReady.cons rfl (fun K3 hK3 => ?_) ?_
            · go_simp
              refine (NF.out _ HG0.out).mono ?_
              rintro e u1 ⟨rfl, ⟨hc1, hf1⟩, hg1⟩
              have HG1 := Lib.hid (HG0.out.trans hg1)
              have HFF := Lib.hid (And.intro hc1 (And.intro hf1 (And.intro HG0.out.size HG1.out)))
              clear hc1 hf1 hg1
              refine hK3 _ _ ?_
              refine wpAny_ready (rs := [4]) (by kernel_rfl) (by simp) ?_
              refine AllReady.cons rfl (fun K4 hK4 => ?_) ?_
              · go_simp
                refine hK4 _ _ ?_
                have HGA := Lib.hid (show ∀ ob, Gr X (u1.alloc ob) from fun ob => HG1.out.trans (Gr.alloc u1 ob))
                refine wpAny_ready (rs := [5]) (by kernel_rfl) (by simp) ?_
                refine AllReady.cons rfl (fun K5 hK5 => ?_) ?_
                · refine step_append_lies _ rfl _ _ 67 rfl w.heap.size 89 i0 _ 1 8 Try.underlying67 HI0.out.1 HI0.out.2.1 HI0.out.2.2.1 HI0.out.2.2.2 rfl (by decide) v k fs rfl ((HNC.out.gr' HFF.out.2.2.2).row.alloc _) ⟨u1.heap.size, 0, none⟩ 1 1 [fnV (X.heap.size + 2)] rfl rfl (fun j z hz => ?_) (by simp [fnV, Value.oneCell']) (by decide) (by unfold maxLen; omega) (by omega) (Nat.le_trans HNC.out.gr.size (Nat.le_trans HFF.out.2.2.2.size (by simp))) _ rfl ?_
                  · rw [add_zero', cell_at (new_at u1 _), ← Array.getElem?_toList]; exact hz
                  intro g5 cap5 w5 hown hgrow hat hlt5
                  have HFIN := Lib.hid (nc_app HNC.out HFF.out.2.2.2 (Nat.le_trans HFF.out.2.2.1 (Nat.le_add_right _ 2)) (Nat.le_trans HFF.out.2.2.1 (Nat.le_add_right _ 1)) HFF.out.1 HFF.out.2.1 HMK.out hgrow hown hat)
                  obtain ⟨x1, x2⟩ := nc_cell HNC.out HFF.out.2.2.2 hgrow
                  clear hown hgrow hat hlt5
                  refine hK5 _ _ ?_
                  refine wpAny_ready (rs := [6]) (by kernel_rfl) (by simp) ?_
                  refine AllReady.cons rfl (fun K6 hK6 => ?_) ?_
                  · go_simp
                    refine hK6 _ _ ?_
                    refine wpAny_ready (rs := [7]) (by kernel_rfl) (by simp) ?_
                    refine AllReady.cons rfl (fun K7 hK7 => ?_) ?_
                    · go_simp
                      refine hK7 _ _ ?_
                      refine wpAny_done (by kernel_rfl) ?_ _
                      go_wp2_with fail
                      go_roundg (gk - 1)
                      case measure => have := HK.out; omega
                      case rel => exact ⟨k + 1, _, _, by have := HK.out; omega, by go_num, HFIN⟩
                    exact AllReady.nil
                  exact AllReady.nil
                exact AllReady.nil
              exact AllReady.nil
            exact AllReady.nil
          exact AllReady.nil
        refine AllReady.cons rfl (fun K1 hK1 => ?_) ?_
        · obtain ⟨a0, a1, a2, a3, b0, b1, b2, b3⟩ := HAT.out _ HG0.out
          go_simp
          refine hK1 _ _ ?_
          clear a0 a1 a2 a3 b0 b1 b2 b3
          refine wpAny_ready (rs := [1, 3]) (by kernel_rfl) (by simp) ?_
          refine AllReady.cons rfl (fun K2 hK2 => ?_) ?_
          · obtain ⟨a0, a1, a2, a3, b0, b1, b2, b3⟩ := HAT.out _ HG0.out
            go_simp
            refine hK2 _ _ ?_
            clear a0 a1 a2 a3 b0 b1 b2 b3
            refine wpAny_ready (rs := [3]) (by kernel_rfl) (by simp) ?_
            refine AllReady.cons rfl (fun K3 hK3 => ?_) ?_
            · go_simp
              refine (NF.out _ HG0.out).mono ?_
              rintro e u1 ⟨rfl, ⟨hc1, hf1⟩, hg1⟩
              have HG1 := Lib.hid (HG0.out.trans hg1)
              have HFF := Lib.hid (And.intro hc1 (And.intro hf1 (And.intro HG0.out.size HG1.out)))
              clear hc1 hf1 hg1
              refine hK3 _ _ ?_
              refine wpAny_ready (rs := [4]) (by kernel_rfl) (by simp) ?_
              refine AllReady.cons rfl (fun K4 hK4 => ?_) ?_
              · go_simp
                refine hK4 _ _ ?_
                have HGA := Lib.hid (show ∀ ob, Gr X (u1.alloc ob) from fun ob => HG1.out.trans (Gr.alloc u1 ob))
                refine wpAny_ready (rs := [5]) (by kernel_rfl) (by simp) ?_
                refine AllReady.cons rfl (fun K5 hK5 => ?_) ?_
                · refine step_append_lies _ rfl _ _ 67 rfl w.heap.size 89 i0 _ 1 8 Try.underlying67 HI0.out.1 HI0.out.2.1 HI0.out.2.2.1 HI0.out.2.2.2 rfl (by decide) v k fs rfl ((HNC.out.gr' HFF.out.2.2.2).row.alloc _) ⟨u1.heap.size, 0, none⟩ 1 1 [fnV (X.heap.size + 2)] rfl rfl (fun j z hz => ?_) (by simp [fnV, Value.oneCell']) (by decide) (by unfold maxLen; omega) (by omega) (Nat.le_trans HNC.out.gr.size (Nat.le_trans HFF.out.2.2.2.size (by simp))) _ rfl ?_
                  · rw [add_zero', cell_at (new_at u1 _), ← Array.getElem?_toList]; exact hz
                  intro g5 cap5 w5 hown hgrow hat hlt5
                  have HFIN := Lib.hid (nc_app HNC.out HFF.out.2.2.2 (Nat.le_trans HFF.out.2.2.1 (Nat.le_add_right _ 2)) (Nat.le_trans HFF.out.2.2.1 (Nat.le_add_right _ 1)) HFF.out.1 HFF.out.2.1 HMK.out hgrow hown hat)
                  obtain ⟨x1, x2⟩ := nc_cell HNC.out HFF.out.2.2.2 hgrow
                  clear hown hgrow hat hlt5
                  refine hK5 _ _ ?_
                  refine wpAny_ready (rs := [6]) (by kernel_rfl) (by simp) ?_
                  refine AllReady.cons rfl (fun K6 hK6 => ?_) ?_
                  · go_simp
                    refine hK6 _ _ ?_
                    refine wpAny_ready (rs := [7]) (by kernel_rfl) (by simp) ?_
                    refine AllReady.cons rfl (fun K7 hK7 => ?_) ?_
                    · go_simp
                      refine hK7 _ _ ?_
                      refine wpAny_done (by kernel_rfl) ?_ _
                      go_wp2_with fail
                      go_roundg (gk - 1)
                      case measure => have := HK.out; omega
                      case rel => exact ⟨k + 1, _, _, by have := HK.out; omega, by go_num, HFIN⟩
                    exact AllReady.nil
                  exact AllReady.nil
                exact AllReady.nil
              exact AllReady.nil
            exact AllReady.nil
          refine AllReady.cons rfl (fun K2 hK2 => ?_) ?_
          · go_simp
            refine (NF.out _ HG0.out).mono ?_
            rintro e u1 ⟨rfl, ⟨hc1, hf1⟩, hg1⟩
            have HG1 := Lib.hid (HG0.out.trans hg1)
            have HFF := Lib.hid (And.intro hc1 (And.intro hf1 (And.intro HG0.out.size HG1.out)))
            clear hc1 hf1 hg1
            refine hK2 _ _ ?_
            refine wpAny_ready (rs := [1, 4]) (by kernel_rfl) (by simp) ?_
            refine AllReady.cons rfl (fun K3 hK3 => ?_) ?_
            · obtain ⟨a0, a1, a2, a3, b0, b1, b2, b3⟩ := HAT.out _ HG1.out
              go_simp
              refine hK3 _ _ ?_
              clear a0 a1 a2 a3 b0 b1 b2 b3
              refine wpAny_ready (rs := [4]) (by kernel_rfl) (by simp) ?_
              refine AllReady.cons rfl (fun K4 hK4 => ?_) ?_
              · go_simp
                refine hK4 _ _ ?_
                have HGA := Lib.hid (show ∀ ob, Gr X (u1.alloc ob) from fun ob => HG1.out.trans (Gr.alloc u1 ob))
                refine wpAny_ready (rs := [5]) (by kernel_rfl) (by simp) ?_
                refine AllReady.cons rfl (fun K5 hK5 => ?_) ?_
                · refine step_append_lies _ rfl _ _ 67 rfl w.heap.size 89 i0 _ 1 8 Try.underlying67 HI0.out.1 HI0.out.2.1 HI0.out.2.2.1 HI0.out.2.2.2 rfl (by decide) v k fs rfl ((HNC.out.gr' HFF.out.2.2.2).row.alloc _) ⟨u1.heap.size, 0, none⟩ 1 1 [fnV (X.heap.size + 2)] rfl rfl (fun j z hz => ?_) (by simp [fnV, Value.oneCell']) (by decide) (by unfold maxLen; omega) (by omega) (Nat.le_trans HNC.out.gr.size (Nat.le_trans HFF.out.2.2.2.size (by simp))) _ rfl ?_
                  · rw [add_zero', cell_at (new_at u1 _), ← Array.getElem?_toList]; exact hz
                  intro g5 cap5 w5 hown hgrow hat hlt5
                  have HFIN := Lib.hid (nc_app HNC.out HFF.out.2.2.2 (Nat.le_trans HFF.out.2.2.1 (Nat.le_add_right _ 2)) (Nat.le_trans HFF.out.2.2.1 (Nat.le_add_right _ 1)) HFF.out.1 HFF.out.2.1 HMK.out hgrow hown hat)
                  obtain ⟨x1, x2⟩ := nc_cell HNC.out HFF.out.2.2.2 hgrow
                  clear hown hgrow hat hlt5
                  refine hK5 _ _ ?_
                  refine wpAny_ready (rs := [6]) (by kernel_rfl) (by simp) ?_
                  refine AllReady.cons rfl (fun K6 hK6 => ?_) ?_
                  · go_simp
                    refine hK6 _ _ ?_
                    refine wpAny_ready (rs := [7]) (by kernel_rfl) (by simp) ?_
                    refine AllReady.cons rfl (fun K7 hK7 => ?_) ?_
                    · go_simp
                      refine hK7 _ _ ?_
                      refine wpAny_done (by kernel_rfl) ?_ _
                      go_wp2_with fail
                      go_roundg (gk - 1)
                      case measure => have := HK.out; omega
                      case rel => exact ⟨k + 1, _, _, by have := HK.out; omega, by go_num, HFIN⟩
                    exact AllReady.nil
                  exact AllReady.nil
                exact AllReady.nil
              exact AllReady.nil
            refine AllReady.cons rfl (fun K3 hK3 => ?_) ?_
            · go_simp
              refine hK3 _ _ ?_
              have HGA := Lib.hid (show ∀ ob, Gr X (u1.alloc ob) from fun ob => HG1.out.trans (Gr.alloc u1 ob))
              refine wpAny_ready (rs := [1]) (by kernel_rfl) (by simp) ?_
              refine AllReady.cons rfl (fun K4 hK4 => ?_) ?_
              · obtain ⟨a0, a1, a2, a3, b0, b1, b2, b3⟩ := HAT.out _ HG1.out
                have ltu := World.block_lt_of_cell? _ _ a0
                go_simp
                refine hK4 _ _ ?_
                clear ltu a0 a1 a2 a3 b0 b1 b2 b3
                refine wpAny_ready (rs := [5]) (by kernel_rfl) (by simp) ?_
                refine AllReady.cons rfl (fun K5 hK5 => ?_) ?_
                · refine step_append_lies _ rfl _ _ 67 rfl w.heap.size 89 i0 _ 1 8 Try.underlying67 HI0.out.1 HI0.out.2.1 HI0.out.2.2.1 HI0.out.2.2.2 rfl (by decide) v k fs rfl ((HNC.out.gr' HFF.out.2.2.2).row.alloc _) ⟨u1.heap.size, 0, none⟩ 1 1 [fnV (X.heap.size + 2)] rfl rfl (fun j z hz => ?_) (by simp [fnV, Value.oneCell']) (by decide) (by unfold maxLen; omega) (by omega) (Nat.le_trans HNC.out.gr.size (Nat.le_trans HFF.out.2.2.2.size (by simp))) _ rfl ?_
                  · rw [add_zero', cell_at (new_at u1 _), ← Array.getElem?_toList]; exact hz
                  intro g5 cap5 w5 hown hgrow hat hlt5
                  have HFIN := Lib.hid (nc_app HNC.out HFF.out.2.2.2 (Nat.le_trans HFF.out.2.2.1 (Nat.le_add_right _ 2)) (Nat.le_trans HFF.out.2.2.1 (Nat.le_add_right _ 1)) HFF.out.1 HFF.out.2.1 HMK.out hgrow hown hat)
                  obtain ⟨x1, x2⟩ := nc_cell HNC.out HFF.out.2.2.2 hgrow
                  clear hown hgrow hat hlt5
                  refine hK5 _ _ ?_
                  refine wpAny_ready (rs := [6]) (by kernel_rfl) (by simp) ?_
                  refine AllReady.cons rfl (fun K6 hK6 => ?_) ?_
                  · go_simp
                    refine hK6 _ _ ?_
                    refine wpAny_ready (rs := [7]) (by kernel_rfl) (by simp) ?_
                    refine AllReady.cons rfl (fun K7 hK7 => ?_) ?_
                    · go_simp
                      refine hK7 _ _ ?_
                      refine wpAny_done (by kernel_rfl) ?_ _
                      go_wp2_with fail
                      go_roundg (gk - 1)
                      case measure => have := HK.out; omega
                      case rel => exact ⟨k + 1, _, _, by have := HK.out; omega, by go_num, HFIN⟩
                    exact AllReady.nil
                  exact AllReady.nil
                exact AllReady.nil
              exact AllReady.nil
            exact AllReady.nil
          exact AllReady.nil
        exact AllReady.nil
    · obtain rfl : k = ms.length := by omega
      have hd1 : ¬ ((ms.length : Int) < (ms.length : Int)) := by omega
      obtain ⟨fA, fC, rfl⟩ : ∃ A c, v = .slice A ms.length c := by
        rcases HI.out.row.2 with ⟨rfl, h0⟩ | ⟨g, cap, cur, rfl, _⟩
        · exact ⟨none, 0, by rw [h0]⟩
        · exact ⟨_, _, rfl⟩
      have THR := Lib.hid (show wr.there w.heap.size 0 4 from there_all HI.out.res)
      go_upto_region 10 with fail
      have hall : (#[.slice mA ms.length mC, .map (some (w.heap.size + 1)), .slice fA ms.length fC, .map (some (w.heap.size + 2))] : Array Value).all (·.oneCell') = true := by simp [Value.oneCell']
      have HALL := Lib.hid hall
      clear hall
      go_wp2_with (refine wpList_store_mid (by rfl) 70 _ _ rfl w.heap.size 0 #[.slice mA ms.length mC, .map (some (w.heap.size + 1)), .slice fA ms.length fC, .map (some (w.heap.size + 2))] rfl rfl THR.out size70 HALL.out ?_)
      refine bodyPost_ret (v := .agg #[.slice mA ms.length mC, .map (some (w.heap.size + 1)), .slice fA ms.length fC, .map (some (w.heap.size + 2))]) ?_ rfl ⟨_, _, _, _, _, rfl, ?_, gr_sets (Nat.le_refl _) _ _ _ HI.out.gr⟩
      · exact results26 _ _ _ _ rfl (run_loadVar_mid (P := Try.prog) _ w.heap.size 0 70 [.slice mA ms.length mC, .map (some (w.heap.size + 1)), .slice fA ms.length fC, .map (some (w.heap.size + 2))] _ (range_of (put_all HI.out.res rfl)) Try.underlying70 rfl size70)
      have hne : ∀ b, b ≠ w.heap.size → (wr.setCells w.heap.size 0 [.slice mA ms.length mC, .map (some (w.heap.size + 1)), .slice fA ms.length fC, .map (some (w.heap.size + 2))]).heap[b]? = wr.heap[b]? := fun b hb => sets_block hb _ _ _
      have hgr : Gr w (wr.setCells w.heap.size 0 [.slice mA ms.length mC, .map (some (w.heap.size + 1)), .slice fA ms.length fC, .map (some (w.heap.size + 2))]) := gr_sets (Nat.le_refl _) _ _ _ HI.out.gr
      change CkAt (wr.setCells w.heap.size 0 [.slice mA ms.length mC, .map (some (w.heap.size + 1)), .slice fA ms.length fC, .map (some (w.heap.size + 2))]) ms _ _ _ _
      generalize wr.setCells w.heap.size 0 [.slice mA ms.length mC, .map (some (w.heap.size + 1)), .slice fA ms.length fC, .map (some (w.heap.size + 2))] = V at hne hgr ⊢
      obtain ⟨l, ⟨es1, cl1, m1, m2⟩, m3⟩ := HI.out.map
      obtain ⟨es, cl, t1, t2⟩ := HI.out.takes
      have hfl : fs.length = ms.length := by have := HI.out.row.1; omega
      refine ⟨hms.out.gr hgr, ⟨l, ⟨es1, cl1, (hne _ (by omega)).trans m1, m2⟩, fun s => by rw [m3, List.take_length]⟩, ⟨fs, ?_, hfl, fun i m hm => ?_⟩, takes_at ((hne _ (by omega)).trans t1) t2⟩
      · have hflat := flat_single fs
        have ho := HI.out.row
        rw [← hflat] at ho
        refine own_rowc (base := w.heap.size) (e := 89) ⟨ho.1, ?_⟩ (by simp) (by simp [hfl]) (by unfold maxLen; omega)
        rcases ho.2 with hn | ⟨g, cap, cur, e, hb', hh, rest⟩
        · exact .inl hn
        · refine .inr ⟨g, cap, cur, e, hb', (hne g ?_).trans hh, rest⟩
          rintro rfl
          rw [HI.out.res] at hh
          cases hh
      · obtain ⟨g, b, f1, f2, f3, f4, f5⟩ := HI.out.finds i m (List.getElem?_eq_some_iff.1 hm).1 hm
        exact ⟨_, f1, g, b, rfl, by rw [World.cell?_of_block (a := ⟨g, 0, none⟩) (hne g (by omega))]; exact f4, f5.keep (fun o ho => (hne b (by omega)).trans ho)⟩
end Go.Proofs.Ytjkaeabnjkhllaa
