/-
  proofmarklaw05.Fits, WALKED.
-/
import Derived.Test.YtjkaeabnjkhllaaScFii
namespace Go.Proofs.Ytjkaeabnjkhllaa
open Go.RowKit

structure MoStr (m : Mo) : Prop where
  name : m.name.size ≤ reachBytes
  params : ∀ s ∈ m.params, s.size ≤ reachBytes
  ports : ∀ p ∈ m.ports, p.2.1.size ≤ reachBytes ∧ p.2.2.1.size ≤ reachBytes
  items : ∀ x ∈ m.items, ItStr x
structure MoFit (m : Mo) : Prop where
  params : m.params.length ≤ 70
  ports : m.ports.length ≤ 70
  items : m.items.length ≤ 70
  its : ∀ x ∈ m.items, ItFit x
structure DsFit (ms : List Mo) : Prop where
  len : ms.length ≤ 70
  mods : ∀ m ∈ ms, MoFit m
def FitsRet (w : World) (ms : List Mo) (e : Ending) (w' : World) : Prop := ∃ b : Bool, e = .returned (.bool b) ∧ (b = true → DsFit ms) ∧ Gr w w'

theorem ExAll.imp {p q : Hd → Prop} (hpq : ∀ h, p h → q h) {t : Ex} (h : ExAll p t) : ExAll q t := by
  induction h with
  | mk h ks hp _ ih => exact .mk h ks (hpq h hp) ih
theorem itok_of_fit {x : It} (h : ItFit x) : ItOk x := by
  have key : ∀ t ∈ exprsOf x, ExFit t := fun t ht => by
    unfold exprsOf at ht
    split at ht
    · simp only [List.mem_cons, List.not_mem_nil, or_false] at ht
      rcases ht with rfl | rfl | rfl
      · exact h.at_
      · exact h.e
      · exact h.if_
    · split at ht
      · obtain ⟨b, hb, rfl⟩ := List.mem_map.1 ht
        exact h.binds b hb
      · split at ht
        · cases ht
        · simp only [List.mem_singleton] at ht
          subst ht
          exact h.e
  exact ⟨fun t ht => (key t ht).1.imp (fun d hd => by have := hd.1; unfold SmallName; omega), fun t ht => Nat.le_trans (key t ht).2 (by omega), Nat.le_trans h.blen (by omega)⟩
theorem dsok_of_fit {ms : List Mo} (h : DsFit ms) : DsOk ms :=
  ⟨Nat.le_trans h.len (by omega), fun m hm => by have := (h.mods m hm).params; have := (h.mods m hm).ports; omega, fun m hm => Nat.le_trans (h.mods m hm).items (by omega), fun m hm x hx => itok_of_fit ((h.mods m hm).its x hx)⟩

set_option maxRecDepth 100000 in
set_option maxHeartbeats 4000000 in
theorem Fits_any (ms : List Mo) (mA : Option Addr) (mC : Nat) (w : World) (hs : Hid (∀ m ∈ ms, MoStr m)) (hms : Hid (ModsAt w ms (.slice mA ms.length mC))) :
    Calls Try.prog 12 #[.agg #[.slice mA ms.length mC]] w (FitsRet w ms) := by
  have hlen : ms.length ≤ 9223372036854775807 := by
    obtain ⟨css, h1, h2, _⟩ := hms.out
    have := h1.1
    rw [h2] at this
    exact this
  go_enter Try.func12, Try.ntmps12
  go_wp2_with fail
  obtain ⟨W, eW, GW, B⟩ : ∃ W, w.alloc (.cells #[.slice mA ms.length mC] 24) = W ∧ Hid (Gr w W) ∧ Hid (W.heap[w.heap.size]? = some (.cells #[.slice mA ms.length mC] 24 (0, 0))) := ⟨_, rfl, Lib.hid (Gr.alloc _ _), Lib.hid (new_at _ _)⟩
  rw [eW]
  clear eW
  have HAT := Lib.hid (show ∀ u, Gr W u → u.cell? ⟨w.heap.size, 0, none⟩ = some (.slice mA ms.length mC) from fun u hu => by rw [cell_at (hu.keep B.out)]; rfl)
  go_loopg [4, 3] (ms.length + 1) (fun g y z wr => ∃ (k n : Nat), k + g = ms.length + 1 ∧ 0 < g ∧ y = .int .i64 (k : Nat) ∧ z = .int .i64 (n : Nat) ∧ n ≤ 3000 ∧ Hid (0 < n → ∀ m ∈ ms.take k, ms.length ≤ 70 ∧ MoFit m) ∧ Hid (Gr W wr))
  case atStart => exact ⟨0, 3000, by omega, by omega, rfl, rfl, Nat.le_refl _, Lib.hid (fun _ => by simp), Lib.hid (Gr.refl _)⟩
  case round =>
    obtain ⟨k, n, hkg, hg0, rfl, rfl, hn, HN, HG⟩ := hrel
    obtain ⟨wo, rfl⟩ : ∃ x, x = wr := ⟨_, rfl⟩
    have HK := Lib.hid hkg
    have hkl : k ≤ ms.length := by omega
    clear hkg hg0
    have a0 := HAT.out wo HG.out
    by_cases hlt : k < ms.length
    · have hd1 : (k : Int) < (ms.length : Int) := by omega
      have hd0 : (0 : Int) ≤ (k : Int) := by omega
      by_cases hz : 0 < n
      · have hz1 : (0 : Int) < (n : Int) := by omega
        obtain ⟨md, hmd⟩ : ∃ md, ms[k]? = some md := ⟨_, List.getElem?_eq_getElem hlt⟩
        obtain ⟨g, o, pA, pC, qA, qC, iA, iC, rfl, _, hg, hr, hmo⟩ := mod_cells hms.out hmd
        have hr' := range_gr hr hg (GW.out.trans HG.out)
        have c0 := hr' 0 _ rfl
        have c1 := hr' 1 _ rfl
        have c2 := hr' 2 _ rfl
        have c3 := hr' 3 _ rfl
        rw [Nat.add_zero] at c0
        have HMK := Lib.hid hmd
        have HMO := Lib.hid hmo
        have HST := Lib.hid (hs.out md (List.mem_of_getElem? hmd))
        clear hr hr' hg hmo hmd
        go_upto_region 6 with fail
        obtain ⟨V, eV, G2, B2⟩ : ∃ V, wo.alloc (.cells #[.string md.name, .slice pA md.params.length pC, .slice qA md.ports.length qC, .slice iA md.items.length iC] 34) = V ∧ Hid (Gr wo V) ∧ Hid (V.heap[wo.heap.size]? = some (.cells #[.string md.name, .slice pA md.params.length pC, .slice qA md.ports.length qC, .slice iA md.items.length iC] 34 (0, 0))) := ⟨_, rfl, Lib.hid (Gr.alloc _ _), Lib.hid (new_at _ _)⟩
        rw [eV]
        clear eV c0 c1 c2 c3 a0
        have HA2 := Lib.hid (show ∀ u, Gr V u → u.cell? ⟨wo.heap.size, 0, none⟩ = some (.string md.name) ∧ u.cell? ⟨wo.heap.size, 1, none⟩ = some (.slice pA md.params.length pC) ∧ u.cell? ⟨wo.heap.size, 2, none⟩ = some (.slice qA md.ports.length qC) ∧ u.cell? ⟨wo.heap.size, 3, none⟩ = some (.slice iA md.items.length iC) from fun u hu => ⟨by rw [cell_at (hu.keep B2.out)]; rfl, by rw [cell_at (hu.keep B2.out)]; rfl, by rw [cell_at (hu.keep B2.out)]; rfl, by rw [cell_at (hu.keep B2.out)]; rfl⟩)
        have a0 := HAT.out V (HG.out.trans G2.out)
        obtain ⟨e0, e1, e2, e3⟩ := HA2.out V (Gr.refl V)
        by_cases f0 : ms.length ≤ 70
        case neg =>
          have df0 : (70 : Int) < (ms.length : Int) := by omega
          go_wp2_with fail
          go_ret
          exact ⟨false, rfl, fun h => (by cases h), GW.out.trans (HG.out.trans G2.out)⟩
        have df0 : ¬ (70 : Int) < (ms.length : Int) := by omega
        by_cases f1 : md.name.size ≤ 60
        case neg =>
          have df1 : (60 : Int) < (md.name.size : Int) := by omega
          go_wp2_with fail
          go_ret
          exact ⟨false, rfl, fun h => (by cases h), GW.out.trans (HG.out.trans G2.out)⟩
        have df1 : ¬ (60 : Int) < (md.name.size : Int) := by omega
        by_cases f2 : md.params.length ≤ 70
        case neg =>
          have df2 : (70 : Int) < (md.params.length : Int) := by omega
          go_wp2_with fail
          go_ret
          exact ⟨false, rfl, fun h => (by cases h), GW.out.trans (HG.out.trans G2.out)⟩
        have df2 : ¬ (70 : Int) < (md.params.length : Int) := by omega
        by_cases f3 : md.ports.length ≤ 70
        case neg =>
          have df3 : (70 : Int) < (md.ports.length : Int) := by omega
          go_wp2_with fail
          go_ret
          exact ⟨false, rfl, fun h => (by cases h), GW.out.trans (HG.out.trans G2.out)⟩
        have df3 : ¬ (70 : Int) < (md.ports.length : Int) := by omega
        by_cases f4 : md.items.length ≤ 70
        case neg =>
          have df4 : (70 : Int) < (md.items.length : Int) := by omega
          go_wp2_with fail
          go_ret
          exact ⟨false, rfl, fun h => (by cases h), GW.out.trans (HG.out.trans G2.out)⟩
        have df4 : ¬ (70 : Int) < (md.items.length : Int) := by omega
        go_upto_region 8 with fail
        clear df0 df1 df2 df3 df4 a0 e0 e1 e2 e3
        go_wp2_with fail
        go_loopg [6] md.params.length (fun g y wr => ∃ j : Nat, j + g = md.params.length ∧ y = .int .i64 (j : Nat) ∧ Hid (Gr V wr))
        case atStart => exact ⟨0, by omega, rfl, Lib.hid (Gr.refl _)⟩
        case round =>
          obtain ⟨j, hjg, rfl, HL⟩ := hrel
          obtain ⟨wp, rfl⟩ : ∃ x, x = wr := ⟨_, rfl⟩
          have HJ := Lib.hid hjg
          have hjl : j ≤ md.params.length := by omega
          clear hjg
          obtain ⟨e0, e1, e2, e3⟩ := HA2.out wp HL.out
          by_cases hl2 : j < md.params.length
          · obtain ⟨a, ha⟩ : ∃ a, md.params[j]? = some a := ⟨_, List.getElem?_eq_getElem hl2⟩
            obtain ⟨_, _, _, eM, m1, _, _⟩ := HMO.out
            simp at eM
            obtain ⟨rfl, rfl, rfl⟩ := eM
            have m1' : RowC w 1 (.slice pA (md.params.map fun s => [Value.string s]).length pC) (md.params.map fun s => [Value.string s]) := by rw [List.length_map]; exact m1
            obtain ⟨g2, o2, rfl, hg2, hr2⟩ := m1'.at (show (md.params.map fun s => [Value.string s])[j]? = some [Value.string a] by rw [List.getElem?_map, ha]; rfl)
            have hd1 : (j : Int) < (md.params.length : Int) := by omega
            have hd0 : (0 : Int) ≤ (j : Int) := by omega
            have z0 := (range_gr hr2 hg2 (GW.out.trans (HG.out.trans (G2.out.trans HL.out)))) 0 (.string a) rfl
            rw [Nat.add_zero, Nat.mul_one] at z0
            clear hr2 hg2 ha m1 m1'
            by_cases ca1 : a.size ≤ 60
            · have d1 : ¬ ((60 : Int) < (a.size : Int)) := by omega
              go_wp2_with fail
              go_roundg (md.params.length - j - 1)
              case measure => have := HJ.out; omega
              case rel => exact ⟨j + 1, by omega, by go_num, HL⟩
            · have d1 : (60 : Int) < (a.size : Int) := by omega
              go_wp2_with fail
              go_ret
              exact ⟨false, rfl, fun h => (by cases h), GW.out.trans (HG.out.trans (G2.out.trans HL.out))⟩
          · obtain rfl : j = md.params.length := by omega
            have hd1 : ¬ ((md.params.length : Int) < (md.params.length : Int)) := by omega
            clear hl2 hjl HJ
            go_wp2_with fail
            go_loopg [7] md.ports.length (fun g y wr => ∃ j : Nat, j + g = md.ports.length ∧ y = .int .i64 (j : Nat) ∧ Hid (Gr wp wr))
            case atStart => exact ⟨0, by omega, rfl, Lib.hid (Gr.refl _)⟩
            case round =>
              obtain ⟨j, hjg, rfl, HP⟩ := hrel
              obtain ⟨wq, rfl⟩ : ∃ x, x = wr := ⟨_, rfl⟩
              have HJ := Lib.hid hjg
              have hjl : j ≤ md.ports.length := by omega
              clear hjg e0 e1 e2 e3
              obtain ⟨e0, e1, e2, e3⟩ := HA2.out wq (HL.out.trans HP.out)
              by_cases hl2 : j < md.ports.length
              · obtain ⟨a, ha⟩ : ∃ a, md.ports[j]? = some a := ⟨_, List.getElem?_eq_getElem hl2⟩
                obtain ⟨_, _, _, eM, _, m2, _⟩ := HMO.out
                simp at eM
                obtain ⟨rfl, rfl, rfl⟩ := eM
                have m2' : RowC w 4 (.slice qA (md.ports.map portCells).length qC) (md.ports.map portCells) := by rw [List.length_map]; exact m2
                obtain ⟨g2, o2, rfl, hg2, hr2⟩ := m2'.at (show (md.ports.map portCells)[j]? = some (portCells a) by rw [List.getElem?_map, ha]; rfl)
                have hd1 : (j : Int) < (md.ports.length : Int) := by omega
                have hd0 : (0 : Int) ≤ (j : Int) := by omega
                have hr3 := range_gr hr2 hg2 (GW.out.trans (HG.out.trans (G2.out.trans (HL.out.trans HP.out))))
                have z1 := hr3 1 (.string a.2.1) rfl
                have z2 := hr3 2 (.string a.2.2.1) rfl
                have b1 := (HST.out.ports a (List.mem_of_getElem? ha)).1
                have b2 := (HST.out.ports a (List.mem_of_getElem? ha)).2
                unfold reachBytes at b1 b2
                clear hr2 hr3 hg2 ha m2 m2'
                by_cases ca1 : a.2.1.size + a.2.2.1.size ≤ 120
                · have d1 : ¬ ((120 : Int) < (a.2.1.size : Int) + a.2.2.1.size) := by omega
                  go_wp2_with fail
                  go_quiet (fail)
                  go_wp2_with fail
                  go_roundg (md.ports.length - j - 1)
                  case measure => have := HJ.out; omega
                  case rel => exact ⟨j + 1, by omega, by go_num, Lib.hid (HP.out.trans (Gr.drewN _ _))⟩
                · have d1 : (120 : Int) < (a.2.1.size : Int) + a.2.2.1.size := by omega
                  go_wp2_with fail
                  go_quiet (fail)
                  go_wp2_with fail
                  go_ret
                  exact ⟨false, rfl, fun h => (by cases h), (GW.out.trans (HG.out.trans (G2.out.trans (HL.out.trans HP.out)))).trans (Gr.drewN _ _)⟩
              · obtain rfl : j = md.ports.length := by omega
                have hd1 : ¬ ((md.ports.length : Int) < (md.ports.length : Int)) := by omega
                clear hl2 hjl HJ
                go_wp2_with fail
                go_loopg [8, 3] (md.items.length + 1) (fun g y z wr => ∃ (j n2 : Nat), j + g = md.items.length + 1 ∧ 0 < g ∧ y = .int .i64 (j : Nat) ∧ z = .int .i64 (n2 : Nat) ∧ n2 ≤ 3000 ∧ Hid ((0 < n2 → 0 < n ∧ ∀ x ∈ md.items.take j, ItFit x)) ∧ Hid (Gr wq wr))
                case atStart => exact ⟨0, n, by omega, by omega, rfl, rfl, hn, Lib.hid (fun h => ⟨h, by simp⟩), Lib.hid (Gr.refl _)⟩
                case round =>
                  obtain ⟨j, n2, hjg, hj0, rfl, rfl, hn2, HN2, HQ⟩ := hrel
                  obtain ⟨wx, rfl⟩ : ∃ x, x = wr := ⟨_, rfl⟩
                  have HJ := Lib.hid hjg
                  have hjl : j ≤ md.items.length := by omega
                  clear hjg hj0 e0 e1 e2 e3
                  obtain ⟨e0, e1, e2, e3⟩ := HA2.out wx (HL.out.trans (HP.out.trans HQ.out))
                  by_cases hl2 : j < md.items.length
                  · have hd1 : (j : Int) < (md.items.length : Int) := by omega
                    have hd0 : (0 : Int) ≤ (j : Int) := by omega
                    by_cases hz2 : 0 < n2
                    · have hz3 : (0 : Int) < (n2 : Int) := by omega
                      obtain ⟨x, hx⟩ : ∃ x, md.items[j]? = some x := ⟨_, List.getElem?_eq_getElem hl2⟩
                      obtain ⟨_, _, _, eM, _, _, css, m3, hcl, hcs⟩ := HMO.out
                      simp at eM
                      obtain ⟨rfl, rfl, rfl⟩ := eM
                      obtain ⟨cs, q1, hit⟩ := hcs j x hx
                      have m3' : RowC w 42 (.slice iA css.length iC) css := by rw [hcl]; exact m3
                      obtain ⟨g2, o2, rfl, hg2, hr2⟩ := m3'.at q1
                      have GI := Lib.hid (GW.out.trans (HG.out.trans (G2.out.trans (HL.out.trans (HP.out.trans HQ.out)))))
                      have HRI := Lib.hid (range_gr hr2 hg2 GI.out)
                      have HS := Lib.hid (show (Try.prog.info? 49).map (·.size) = some cs.length by rw [size49, it_len hit])
                      have HM := Lib.hid (List.mem_of_getElem? hx)
                      have S4 := Lib.hid (fitem_any (Lib.hid (hit.gr GI.out)) (Lib.hid (HST.out.items x HM.out)) n2 hz2 hn2)
                      have HX := Lib.hid hx
                      clear hx m3 m3' hcl hcs q1 hit hr2 hg2
                      go_upto_region 20 with (first
                        | (refine wpList_load_mid (by rfl) 49 _ rfl g2 (o2 + j * 42) rfl cs _ HRI.out Try.underlying49 rfl HS.out ?_)
                        | (go_at_call 25; refine S4.out.mono ?_; rintro e w5 ⟨n5, rfl, hn5, hk5, hg5⟩; have G5 := Lib.hid (HQ.out.trans hg5); have K5 := Lib.hid hk5; clear hk5 hg5))
                      go_wp2_with fail
                      go_roundg (md.items.length - j)
                      case measure => have := HJ.out; omega
                      case rel => exact ⟨j + 1, n5, by omega, by omega, by go_num, rfl, by omega, Lib.hid (fun hp => ⟨(HN2.out hz2).1, fun y hy => by
                        rw [List.take_add_one, HX.out] at hy
                        simp only [Option.toList_some, List.mem_append, List.mem_singleton] at hy
                        rcases hy with hy | rfl
                        · exact (HN2.out hz2).2 y hy
                        · exact K5.out hp⟩), G5⟩
                    · obtain rfl : n2 = 0 := by omega
                      go_wp2_with fail
                      go_roundg (ms.length - k)
                      case measure => have := HK.out; omega
                      case rel => exact ⟨k + 1, 0, by omega, by omega, by go_num, rfl, by omega, Lib.hid (fun h => absurd h (by omega)), Lib.hid (HG.out.trans (G2.out.trans (HL.out.trans (HP.out.trans HQ.out))))⟩
                  · obtain rfl : j = md.items.length := by omega
                    have hd1 : ¬ ((md.items.length : Int) < (md.items.length : Int)) := by omega
                    clear hl2 hjl HJ
                    go_wp2_with fail
                    go_roundg (ms.length - k)
                    case measure => have := HK.out; omega
                    case rel => exact ⟨k + 1, n2, by omega, by omega, by go_num, rfl, by omega, Lib.hid (fun h m hm => by
                      rw [List.take_add_one, HMK.out] at hm
                      simp only [Option.toList_some, List.mem_append, List.mem_singleton] at hm
                      rcases hm with hm | rfl
                      · exact HN.out hz m hm
                      · have h5 := (HN2.out h).2
                        rw [List.take_length] at h5
                        exact ⟨f0, f2, f3, f4, h5⟩), Lib.hid (HG.out.trans (G2.out.trans (HL.out.trans (HP.out.trans HQ.out))))⟩
      · obtain rfl : n = 0 := by omega
        go_wp2_with fail
        go_ret
        exact ⟨false, rfl, fun h => (by cases h), GW.out.trans HG.out⟩
    · obtain rfl : k = ms.length := by omega
      have hd1 : ¬ ((ms.length : Int) < (ms.length : Int)) := by omega
      clear hlt hkl
      by_cases hz : 0 < n
      · have hz1 : (0 : Int) < (n : Int) := by omega
        go_wp2_with fail
        go_ret
        exact ⟨true, rfl, fun _ => by
          have h := HN.out hz
          rw [List.take_length] at h
          exact ⟨by
            rcases Nat.eq_zero_or_pos ms.length with h0 | h0
            · omega
            · exact (h (ms[0]) (List.getElem_mem _)).1, fun m hm => (h m hm).2⟩, GW.out.trans HG.out⟩
      · obtain rfl : n = 0 := by omega
        go_wp2_with fail
        go_ret
        exact ⟨false, rfl, fun h => (by cases h), GW.out.trans HG.out⟩
end Go.Proofs.Ytjkaeabnjkhllaa
