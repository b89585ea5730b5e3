/-
  The checker's module, WALKED.
-/
import Derived.Test.YtjkaeabnjkhllaaScTwc
namespace Go.Proofs.Ytjkaeabnjkhllaa
open Go.RowKit

theorem modAt_some : ∀ {ms : List Mo} {i : Nat} {m : Mo}, ms[i]? = some m → ∃ j, modAt ms m.name = some j ∧ j ≤ i
  | [], i, m, h => by simp at h
  | x :: r, 0, m, h => by
    simp at h
    subst h
    exact ⟨0, by rw [modAt, if_pos rfl], Nat.le_refl _⟩
  | x :: r, i + 1, m, h => by
    rw [modAt]
    split
    · exact ⟨0, rfl, Nat.zero_le _⟩
    · obtain ⟨j, h1, h2⟩ := modAt_some (ms := r) (i := i) (m := m) (by simpa using h)
      exact ⟨j + 1, by rw [h1]; rfl, by omega⟩
/-- a module's cells, where it stands -/
theorem mod_cells {w : World} {ms : List Mo} {A : Option Addr} {n c : Nat} (h : ModsAt w ms (.slice A n c)) {i : Nat} {m : Mo} (hm : ms[i]? = some m) : ∃ g o pA pC qA qC iA iC, A = some ⟨g, o, none⟩ ∧ n = ms.length ∧ g < w.heap.size ∧ w.rangeAt g (o + i * 4) [.string m.name, .slice pA m.params.length pC, .slice qA m.ports.length qC, .slice iA m.items.length iC] ∧ MoAt w m [.string m.name, .slice pA m.params.length pC, .slice qA m.ports.length qC, .slice iA m.items.length iC] := by
  obtain ⟨css, hr, hl, hcs⟩ := h
  obtain ⟨cs, h1, h2⟩ := hcs i m hm
  obtain ⟨g, o, e, hg, hrg⟩ := hr.at h1
  obtain ⟨A', cap', e'⟩ := hr.form
  injection e' with _ en _
  have h2' := h2
  obtain ⟨pv, qv, iv, rfl, m1, m2, m3⟩ := h2'
  obtain ⟨pA, pC, rfl⟩ := m1.form
  obtain ⟨qA, qC, rfl⟩ := m2.form
  obtain ⟨css3, m3r, m3l, _⟩ := m3
  obtain ⟨iA, iC, rfl⟩ := m3r.form
  simp only [List.length_map] at hrg h2
  rw [m3l] at hrg h2
  exact ⟨g, o, pA, pC, qA, qC, iA, iC, e, by rw [en, hl], hg, hrg, h2⟩

set_option maxRecDepth 100000 in
set_option maxHeartbeats 4000000 in
theorem module_any (ms : List Mo) (i : Nat) (m : Mo) (mA fA : Option Addr) (mn mC fn fC fb tb : Nat) (w : World) (hb : m.params.length + m.ports.length ≤ 1000) (hm : Hid (ms[i]? = some m)) (hck : Hid (CkAt w ms (.slice mA mn mC) fb (.slice fA fn fC) tb)) :
    Calls Try.prog 27 #[.agg #[.slice mA mn mC, .map (some fb), .slice fA fn fC, .map (some tb)], .int .i64 (i : Nat)] w fun e w' => e = .returned (.int .i64 (modErr ms i m : Nat)) ∧ Gr w w' := by
  obtain ⟨g, o, pA, pC, qA, qC, iA, iC, rfl, hn, hg, hr, hmo⟩ := mod_cells hck.out.mods hm.out
  have him : i < ms.length := (List.getElem?_eq_some_iff.1 hm.out).1
  have hnm : mn ≤ maxLen := by
    obtain ⟨css, hrr, hl, _⟩ := hck.out.mods
    have := hrr.1
    rw [hn, ← hl]
    exact this
  unfold maxLen at hnm
  have c0 := hr 0 _ rfl
  have c1 := hr 1 _ rfl
  have c2 := hr 2 _ rfl
  have c3 := hr 3 _ rfl
  rw [Nat.add_zero] at c0
  have HMO := Lib.hid hmo
  have HN := Lib.hid hn
  have hi1 : (i : Int) < (mn : Int) := by omega
  have hi0 : (0 : Int) ≤ (i : Int) := by omega
  clear hr hmo hn
  go_enter Try.func27, Try.ntmps27
  go_upto_region 2 with fail
  obtain ⟨W, eW, GW, B0, B1⟩ : ∃ W, (w.alloc (.cells #[.slice (some ⟨g, o, none⟩) mn mC, .map (some fb), .slice fA fn fC, .map (some tb)] 70)).alloc (.cells #[.string m.name, .slice pA m.params.length pC, .slice qA m.ports.length qC, .slice iA m.items.length iC] 34) = W ∧ Hid (Gr w W) ∧ Hid (W.heap[w.heap.size]? = some (.cells #[.slice (some ⟨g, o, none⟩) mn mC, .map (some fb), .slice fA fn fC, .map (some tb)] 70 (0, 0))) ∧ Hid (W.heap[w.heap.size + 1]? = some (.cells #[.string m.name, .slice pA m.params.length pC, .slice qA m.ports.length qC, .slice iA m.items.length iC] 34 (0, 0))) := by
    refine ⟨_, rfl, Lib.hid ((Gr.alloc _ _).trans (Gr.alloc _ _)), Lib.hid ((Gr.alloc _ _).keep (new_at w _)), Lib.hid ?_⟩
    have h := new_at (w.alloc (.cells #[.slice (some ⟨g, o, none⟩) mn mC, .map (some fb), .slice fA fn fC, .map (some tb)] 70)) (.cells #[.string m.name, .slice pA m.params.length pC, .slice qA m.ports.length qC, .slice iA m.items.length iC] 34)
    rw [World.size_alloc] at h
    exact h
  rw [eW]
  clear eW c0 c1 c2 c3
  have AT := Lib.hid (show ∀ u, Gr W u → ((u.cell? ⟨w.heap.size, 0, none⟩ = some (.slice (some ⟨g, o, none⟩) mn mC) ∧ u.cell? ⟨w.heap.size, 1, none⟩ = some (.map (some fb)) ∧ u.cell? ⟨w.heap.size, 2, none⟩ = some (.slice fA fn fC) ∧ u.cell? ⟨w.heap.size, 3, none⟩ = some (.map (some tb))) ∧ (u.cell? ⟨w.heap.size + 1, 0, none⟩ = some (.string m.name) ∧ u.cell? ⟨w.heap.size + 1, 1, none⟩ = some (.slice pA m.params.length pC) ∧ u.cell? ⟨w.heap.size + 1, 2, none⟩ = some (.slice qA m.ports.length qC) ∧ u.cell? ⟨w.heap.size + 1, 3, none⟩ = some (.slice iA m.items.length iC))) from fun u hu => by
    have a := hu.keep B0.out
    have b := hu.keep B1.out
    refine ⟨⟨?_, ?_, ?_, ?_⟩, ?_, ?_, ?_, ?_⟩ <;> first | (rw [cell_at a]; rfl) | (rw [cell_at b]; rfl))
  obtain ⟨j, hj, hji⟩ := modAt_some hm.out
  obtain ⟨l, hl1, hl2⟩ := hck.out.first
  have hlk := look_str Try.underlying66 Try.zeroValue3 (hl1.gr GW.out) m.name false
  rw [hl2, hj] at hlk
  simp only [Option.map_some, Option.getD_some, Bool.false_eq_true, if_false, intV] at hlk
  have HJ := Lib.hid hj
  clear hj hl1 hl2
  obtain ⟨⟨x0, x1, x2, x3⟩, y0, y1, y2, y3⟩ := AT.out W (Gr.refl _)
  by_cases hij : j = i
  case neg =>
    have q : ((j : Int) != (i : Int)) = true := by simp; omega
    have HE := Lib.hid (show modErr ms i m = 50 by rw [modErr, if_pos (.inl (by rw [HJ.out]; simpa using hij))])
    clear hij
    go_wp2_with fail
    go_ret
    exact ⟨by rw [HE.out]; rfl, GW.out⟩
  subst hij
  have HT := Lib.hid (headTwice_any m pA qA iA pC qC iC W hb (Lib.hid (HMO.out.gr GW.out)))
  rcases hnd : nodup (headNames m) with _ | _
  · rw [hnd] at HT
    have HE := Lib.hid (show modErr ms j m = 50 by rw [modErr, if_pos (.inr hnd)])
    clear hnd
    go_wp2_with (go_at_call 38; refine HT.out.mono ?_; rintro e w2 ⟨rfl, hg2⟩; have G2 := Lib.hid hg2; clear hg2)
    go_ret
    exact ⟨by rw [HE.out]; rfl, GW.out.trans G2.out⟩
  rw [hnd] at HT
  have HND := Lib.hid hnd
  clear hnd
  go_upto_region 4 with (go_at_call 38; refine HT.out.mono ?_; rintro e w2 ⟨rfl, hg2⟩; have G2 := Lib.hid hg2; clear hg2)
  clear x0 x1 x2 x3 y0 y1 y2 y3 hlk HT
  obtain ⟨⟨x0, x1, x2, x3⟩, y0, y1, y2, y3⟩ := AT.out _ G2.out
  by_cases hlast : j + 1 = ms.length ∧ 0 < m.params.length
  · have HE := Lib.hid (show modErr ms j m = 1 by rw [modErr, if_neg (by rw [HJ.out, HND.out]; simp), if_pos hlast])
    have q1 : ((j : Int) == (mn : Int) - 1) = true := by have := HN.out; have := hlast.1; simp; omega
    have q2 : (0 : Int) < (m.params.length : Int) := by have := hlast.2; omega
    clear hlast
    go_wp2_with fail
    go_ret
    exact ⟨by rw [HE.out]; rfl, GW.out.trans G2.out⟩
  have HEN := Lib.hid (show modErr ms j m = if m.ports.any (fun p => lacks m p.2.2) then 40 else 0 by rw [modErr, if_neg (by rw [HJ.out, HND.out]; simp), if_neg hlast])
  go_cut [35] from 24 to 35 (fun s35 wx => s35 = .bool false ∧ w2 = wx)
  case first =>
    by_cases hl1 : j + 1 = ms.length
    · have q1 : ((j : Int) == (mn : Int) - 1) = true := by have := HN.out; simp; omega
      have HQ := Lib.hid (show m.params.length = 0 by rcases Nat.eq_zero_or_pos m.params.length with h | h; · exact h
                                                      · exact absurd ⟨hl1, h⟩ hlast)
      clear hlast hl1
      go_wp2_with fail
      go_meet
      exact ⟨by rw [HQ.out]; rfl, rfl⟩
    · have q1 : ((j : Int) == (mn : Int) - 1) = false := by have := HN.out; simp; omega
      clear hlast hl1
      go_wp2_with fail
      go_meet
      exact ⟨rfl, rfl⟩
  case rest =>
    obtain ⟨rfl, rfl⟩ := hcut
    clear hlast
    obtain ⟨p, q, i, e, m1, m2, _⟩ := HMO.out
    simp at e
    obtain ⟨rfl, rfl, rfl⟩ := e
    have HM2 := Lib.hid m2
    clear m1 m2
    obtain ⟨zz, hz1⟩ : ∃ i0, Try.prog.info? 42 = some i0 := ⟨_, rfl⟩
    clear hz1 zz
    go_wp2_with fail
    clear x0 x1 x2 x3 y0 y1 y2 y3
    go_loopg [39] m.ports.length (fun g x wr => ∃ k : Nat, k + g = m.ports.length ∧ x = .int .i64 (k : Nat) ∧ Hid (Gr w2 wr) ∧ Hid (∀ (a : Nat) (p : Bool × ByteArray × Dm), a < k → m.ports[a]? = some p → lacks m p.2.2 = false))
    case atStart => exact ⟨0, by omega, rfl, Lib.hid (Gr.refl _), Lib.hid (by omega)⟩
    case round =>
      obtain ⟨k, hkg, rfl, GR, HNO⟩ := hrel
      have HK := Lib.hid hkg
      have hkl : k ≤ m.ports.length := by omega
      clear hkg
      have GG := Lib.hid (G2.out.trans GR.out)
      have GA := Lib.hid (GW.out.trans GG.out)
      by_cases hlt : k < m.ports.length
      · obtain ⟨p, hp⟩ : ∃ p, m.ports[k]? = some p := ⟨_, List.getElem?_eq_getElem hlt⟩
        obtain ⟨g2, o2, rfl, _, hr⟩ := (HM2.out.gr GA.out).at (j := k) (c := portCells p) (by simp [hp])
        have c0 := hr 0 _ rfl
        have c1 := hr 1 _ rfl
        have c2 := hr 2 _ rfl
        have c3 := hr 3 _ rfl
        rw [Nat.add_zero] at c0
        have HP := Lib.hid hp
        clear hp hr
        have hd1 : (k : Int) < (m.ports.length : Int) := by omega
        have hd0 : (0 : Int) ≤ (k : Int) := by omega
        obtain ⟨⟨x0, x1, x2, x3⟩, y0, y1, y2, y3⟩ := AT.out _ GG.out
        have lt0 : w.heap.size < wr.heap.size := World.block_lt_of_cell? _ _ x0
        clear y0 y1 y2 y3
        go_upto_region 9 with fail
        obtain ⟨V, hV⟩ : ∃ V, (wr.alloc (.cells #[.bool p.1, .string p.2.1, .string p.2.2.1, .int .i64 p.2.2.2] 59)).alloc (.cells #[.string p.2.2.1, .int .i64 p.2.2.2] 42) = V := ⟨_, rfl⟩
        have GV := Lib.hid (show Gr wr V from by rw [← hV]; exact (Gr.alloc _ _).trans (Gr.alloc _ _))
        have RV := Lib.hid (show RowC V 2 (.slice (some ⟨wr.heap.size + 1, 0, none⟩) [p.2.2].length 1) ([p.2.2].map dmCells) from by
          have hn := new_at (wr.alloc (.cells #[.bool p.1, .string p.2.1, .string p.2.2.1, .int .i64 p.2.2.2] 59)) (.cells #[.string p.2.2.1, .int .i64 p.2.2.2] 42)
          rw [World.size_alloc, hV] at hn
          refine ⟨by unfold maxLen; simp, by simp [dmCells], _, 1, rfl, by simp, fun a c hc => ?_, unf_new hn⟩
          have ha : a = 0 := by
            rcases Nat.eq_zero_or_pos a with h | h
            · exact h
            · rw [List.getElem?_eq_none (by simp; omega)] at hc; cases hc
          subst ha
          obtain rfl : dmCells p.2.2 = c := by simpa using hc
          exact ⟨_, _, rfl, heap_lt hn, fun b u hu => by rw [Nat.zero_mul, Nat.zero_add, cell_at hn]; simpa [dmCells] using hu⟩)
        have LP := Lib.hid (lacksParam_any ms j m [p.2.2] _ _ _ _ _ _ _ _ _ _ V hm (Lib.hid (hck.out.gr (GA.out.trans GV.out))) RV)
        have LP2 := Lib.hid (show Calls Try.prog 39 #[.agg #[.slice (some ⟨g, o, none⟩) mn mC, .map (some fb), .slice fA fn fC, .map (some tb)], .int .i64 (j : Nat), .slice (some ⟨wr.heap.size + 1, 0, none⟩) 1 1] ((wr.alloc (.cells #[.bool p.1, .string p.2.1, .string p.2.2.1, .int .i64 p.2.2.2] 59)).alloc (.cells #[.string p.2.2.1, .int .i64 p.2.2.2] 42)) (fun e w' => e = .returned (.bool (lacks m p.2.2)) ∧ Gr wr w') from by
          rw [hV]
          exact LP.out.mono fun e w' h => ⟨by have := h.1; simpa using this, GV.out.trans h.2⟩)
        clear hV LP RV GV V
        rcases hl : lacks m p.2.2 with _ | _
        · rw [hl] at LP2
          have HL := Lib.hid hl
          clear hl
          go_wp2_with (go_at_call 39; refine LP2.out.mono ?_; rintro e w5 ⟨rfl, hg5⟩; have G5 := Lib.hid hg5; clear hg5)
          go_roundg (gk - 1)
          case measure => have := HK.out; omega
          case rel => exact ⟨k + 1, by have := HK.out; omega, by go_num, Lib.hid (GR.out.trans G5.out), Lib.hid (fun a p' ha hp' => by
            rcases Nat.lt_or_ge a k with h | h
            · exact HNO.out a p' h hp'
            · obtain rfl : a = k := by omega
              rw [HP.out] at hp'
              obtain rfl := Option.some.inj hp'
              exact HL.out)⟩
        · rw [hl] at LP2
          have HL := Lib.hid hl
          clear hl
          go_wp2_with (go_at_call 39; refine LP2.out.mono ?_; rintro e w5 ⟨rfl, hg5⟩; have G5 := Lib.hid hg5; clear hg5)
          go_ret
          refine ⟨?_, GA.out.trans G5.out⟩
          have : m.ports.any (fun p => lacks m p.2.2) = true := List.any_eq_true.2 ⟨p, List.mem_of_getElem? HP.out, HL.out⟩
          rw [HEN.out, this]
          rfl
      · have hd1 : ¬ ((k : Int) < (m.ports.length : Int)) := by omega
        go_wp2_with fail
        go_ret
        refine ⟨?_, GA.out⟩
        have : m.ports.any (fun p => lacks m p.2.2) = false := by
          rw [List.any_eq_false]
          intro p hp
          obtain ⟨a, ha⟩ := List.getElem?_of_mem hp
          rw [HNO.out a p (by have := (List.getElem?_eq_some_iff.1 ha).1; omega) ha]
          simp
        rw [HEN.out, this]
        rfl
end Go.Proofs.Ytjkaeabnjkhllaa
