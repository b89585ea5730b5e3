/-
  proofmarklaw05.ScopeTwice, WALKED.
-/
import Derived.Test.YtjkaeabnjkhllaaScTwb
namespace Go.Proofs.Ytjkaeabnjkhllaa
open Go.RowKit

set_option maxRecDepth 100000 in
set_option maxHeartbeats 16000000 in
theorem twice_law (ms : List Mo) (mA : Option Addr) (mC a0 a1 tb : Nat) (w : World) (ha0 : a0 < 256) (ha1 : a1 < 256) (htb : tb < 256) (hs : Hid (∀ m ∈ ms, MoStr m)) (hms : Hid (ModsAt w ms (.slice mA ms.length mC))) (hml : Hid (∃ z : Int, w.cell? ⟨0, 0, none⟩ = some (.int .i64 z))) :
    Calls Try.prog 10 #[.agg #[.slice mA ms.length mC], .agg #[.int .u8 (a0 : Nat), .int .u8 (a1 : Nat)], .int .u8 (tb : Nat)] w (UpRet w) := by
  have ML := Lib.hid (fun (u : World) (hu : Gr w u) => (show ∃ z : Int, u.cell? ⟨0, 0, none⟩ = some (.int .i64 z) from by
    obtain ⟨z, hz⟩ := hml.out
    exact ⟨z, gr_cell hu (World.block_lt_of_cell? _ _ hz) hz⟩))
  clear hml
  obtain ⟨i0, hi0, hz0, hz1, hz2⟩ := info_parts info9
  have HI0 := Lib.hid (And.intro hi0 (And.intro hz0 (And.intro hz1 hz2)))
  clear hi0 hz0 hz1 hz2
  obtain ⟨i1, hi0, hz0, hz1, hz2⟩ := info_parts info49
  have HI1 := Lib.hid (And.intro hi0 (And.intro hz0 (And.intro hz1 hz2)))
  clear hi0 hz0 hz1 hz2
  have hlen : ms.length ≤ 9223372036854775807 := by
    obtain ⟨css, h1, h2, _⟩ := hms.out
    have := h1.1
    rw [h2] at this
    exact this
  have hw0 := wrap5 (a := a0) (by omega)
  have hw1 := wrap5 (a := a1) (by omega)
  have hwt := wrap5 (a := tb) (by omega)
  go_enter Try.func10, Try.ntmps10
  go_upto_region 1 with fail
  refine wp_name fun V hV => ?_
  have VV := Lib.hid (show V.heap[w.heap.size]? = some (.cells #[.slice mA ms.length mC] 24 (0, 0)) ∧ (∃ t, V.heap[w.heap.size + 1]? = some (.cells #[.int .u8 (a0 : Nat), .int .u8 (a1 : Nat)] t (0, 0))) ∧ Gr w V from by
    rw [hV]
    exact ⟨heap_alloc2_old _ _ _, ⟨_, heap_alloc2_new _ _ _⟩, (Gr.alloc _ _).trans (Gr.alloc _ _)⟩)
  clear hV
  have KB := Lib.hid (fun (u : World) (hu : Gr V u) => (show u.cell? ⟨w.heap.size, 0, none⟩ = some (.slice mA ms.length mC) ∧ u.cell? ⟨w.heap.size + 1, 0, none⟩ = some (.int .u8 (a0 : Nat)) ∧ u.cell? ⟨w.heap.size + 1, 1, none⟩ = some (.int .u8 (a1 : Nat)) from by
    obtain ⟨t, ht⟩ := VV.out.2.1
    refine ⟨?_, ?_, ?_⟩
    · rw [cell_at (hu.keep VV.out.1)]; rfl
    · rw [cell_at (hu.keep ht)]; rfl
    · rw [cell_at (hu.keep ht)]; rfl))
  have HD := Lib.hid (Lhead_any V (Lib.hid (ML.out _ VV.out.2.2)))
  go_upto_region 3 with (first
    | (go_at_call 11; refine HD.out.mono ?_; rintro e w1 ⟨rfl, hg⟩; have G1 := Lib.hid hg; clear hg; obtain ⟨c0, -, -⟩ := KB.out _ G1.out; have FI := Lib.hid (Fits_any ms mA mC w1 hs (Lib.hid (hms.out.gr (VV.out.2.2.trans G1.out)))))
    | (go_at_call 12; refine FI.out.mono ?_; rintro e w2 ⟨b, rfl, hb, hg⟩; have G2 := Lib.hid (G1.out.trans hg); have HB := Lib.hid hb; clear hg hb))
  clear FI HD c0
  have GW2 := Lib.hid (VV.out.2.2.trans G2.out)
  cases b
  · go_wp2_with fail
    go_ret
    exact ⟨rfl, GW2.out⟩
  have HOK := Lib.hid (dsok_of_fit (HB.out rfl))
  have hl100 := HOK.out.len
  obtain ⟨c0, -, -⟩ := KB.out _ G2.out
  rcases Nat.eq_zero_or_pos ms.length with hz | hpos
  · have q0 : ((ms.length : Int) == 0) = true := by rw [beq_iff_eq]; omega
    clear hz
    go_wp2_with fail
    go_ret
    exact ⟨rfl, GW2.out⟩
  have q0 : ((ms.length : Int) == 0) = false := by rw [beq_eq_false_iff_ne]; omega
  have CK := Lib.hid (Check_any ms mA mC w2 HOK (Lib.hid (hms.out.gr GW2.out)) (Lib.hid (ML.out _ GW2.out)))
  go_upto_if 38 with (go_at_call 14; refine CK.out.mono ?_; rintro e w3 ⟨lA, lc, fs, rfl, -, -, hg⟩; have G3 := Lib.hid (G2.out.trans hg); clear hg)
  clear CK c0 HB
  have GW3 := Lib.hid (VV.out.2.2.trans G3.out)
  by_cases hf : 0 < fs.length
  · have q1 : decide ((0 : Int) < (fs.length : Int)) = true := decide_eq_true (by omega)
    have q2 : decide (0 < fs.length) = true := decide_eq_true hf
    have q3 : (0 : Int) < (fs.length : Int) := by omega
    go_wp2_with fail
    go_ret
    exact ⟨rfl, GW3.out⟩
  have q1 : decide ((0 : Int) < (fs.length : Int)) = false := decide_eq_false (by omega)
  have q2 : decide (0 < fs.length) = false := decide_eq_false hf
  have q3 : ¬ (0 : Int) < (fs.length : Int) := by omega
  obtain ⟨i, hi⟩ : ∃ i : Nat, a0 % ms.length = i := ⟨_, rfl⟩
  have hil : i < ms.length := by rw [← hi]; exact Nat.mod_lt _ hpos
  have htm : Int.tmod (a0 : Int) (ms.length : Int) = (i : Int) := by rw [Int.tmod_eq_emod_of_nonneg (by omega), ← Int.natCast_emod, hi]
  have hnz : ¬ (ms.length : Int) = 0 := by omega
  have hm : ms[i]? = some ms[i] := List.getElem?_eq_getElem hil
  generalize ms[i] = m at hm
  have HM := Lib.hid hm
  have him := HOK.out.items m (List.mem_of_getElem? hm)
  have hhm := HOK.out.heads m (List.mem_of_getElem? hm)
  obtain ⟨g, o, pA, pC, qA, qC, iA, iC, rfl, -, hg, hr, hma⟩ := mod_cells hms.out hm
  have hrr := range_gr hr hg GW3.out
  have m0 := hrr 0 _ rfl
  have m1 := hrr 1 _ rfl
  have m2 := hrr 2 _ rfl
  have m3 := hrr 3 _ rfl
  simp only [Nat.add_zero] at m0
  obtain ⟨c0, c1, c2⟩ := KB.out _ G3.out
  have j1 : (i : Int) < (ms.length : Int) := by omega
  have j2 : (0 : Int) ≤ (i : Int) := by omega
  clear hm hr hrr hg hi
  go_upto_region 7 with fail
  clear m0 m1 m2 m3 c0 c1 c2 q0 q1 q2 q3 htm hnz hf
  refine wp_name fun X hX => ?_
  have XX := Lib.hid (show X.heap[w3.heap.size]? = some (.cells #[.string m.name, .slice pA m.params.length pC, .slice qA m.ports.length qC, .slice iA m.items.length iC] 34 (0, 0)) ∧ Gr w3 X from by
    rw [hX]
    exact ⟨new_at _ _, Gr.alloc _ _⟩)
  clear hX
  have GX := Lib.hid (show Gr V X from G3.out.trans XX.out.2)
  obtain ⟨bm, hbm⟩ : ∃ bm, w3.heap.size = bm := ⟨_, rfl⟩
  rw [hbm] at XX ⊢
  clear hbm
  have KM := Lib.hid (fun (u : World) (hu : Gr X u) => (show u.cell? ⟨bm, 0, none⟩ = some (.string m.name) ∧ u.cell? ⟨bm, 1, none⟩ = some (.slice pA m.params.length pC) ∧ u.cell? ⟨bm, 2, none⟩ = some (.slice qA m.ports.length qC) ∧ u.cell? ⟨bm, 3, none⟩ = some (.slice iA m.items.length iC) from by
    have h := hu.keep XX.out.1
    refine ⟨?_, ?_, ?_, ?_⟩
    all_goals (rw [cell_at h]; rfl)))
  have GWX := Lib.hid (show Gr w X from VV.out.2.2.trans GX.out)
  obtain ⟨pv, qv, iv, hee, hp, hq, css, hir, hisl, hit⟩ := hma
  simp only [List.cons.injEq, and_true, true_and] at hee
  obtain ⟨rfl, rfl, rfl⟩ := hee
  have HP := Lib.hid hp
  have HQ := Lib.hid hq
  have HIR := Lib.hid hir
  have HSL := Lib.hid hisl
  have HIT := Lib.hid hit
  clear hp hq hir hisl hit
  obtain ⟨k0, k1, k2, k3⟩ := KM.out _ (Gr.refl X)
  rcases Nat.eq_zero_or_pos m.items.length with hz | hip
  · have q0 : ((m.items.length : Int) == 0) = true := by rw [beq_iff_eq]; omega
    clear hz
    go_wp2_with fail
    go_ret
    exact ⟨rfl, GWX.out⟩
  have q0 : ((m.items.length : Int) == 0) = false := by rw [beq_eq_false_iff_ne]; omega
  obtain ⟨k, hk⟩ : ∃ k : Nat, tb % m.items.length = k := ⟨_, rfl⟩
  have hkl : k < m.items.length := by rw [← hk]; exact Nat.mod_lt _ hip
  have htm : Int.tmod (tb : Int) (m.items.length : Int) = (k : Int) := by rw [Int.tmod_eq_emod_of_nonneg (by omega), ← Int.natCast_emod, hk]
  have hnz : ¬ (m.items.length : Int) = 0 := by omega
  clear hk
  have HPL := Lib.hid (show m.params.length ≤ 1000 by omega)
  have HQL := Lib.hid (show m.ports.length ≤ 1000 by omega)
  go_upto_region 12 with (at_builtin; refine app_strs X rfl _ _ rfl X.heap.size (.slice none 0 0) 0 [] rfl (World.ownsRow_nil _ _ _ _) pA pC m.params rfl (HP.out.gr GWX.out) (by have := HPL.out; omega) (Nat.le_refl _) ?_; intro v5 w5 hown hb5; have T5 := Lib.hid (show TwP X v5 m.params w5 from ⟨gr_of hb5, by simpa using hown⟩); clear hown hb5)
  clear k0 k1 k2 k3 q0 htm hnz
  go_wp2_with fail
  go_loopg [12, 13] m.ports.length (fun gq x12 y wr => ∃ (v : Value) (j : Nat), v = x12 ∧ j + gq = m.ports.length ∧ y = .int .i64 j ∧ Hid (TwP X v (m.params ++ (m.ports.take j).map (·.2.1)) wr))
  case atStart => exact ⟨_, 0, rfl, by omega, rfl, Lib.hid (by simpa using T5.out)⟩
  case round =>
    obtain ⟨v, j, rfl, hjg, rfl, HT⟩ := hrel
    obtain ⟨wo, rfl⟩ : ∃ x, x = wr := ⟨_, rfl⟩
    have HJ := Lib.hid hjg
    have hjl : j ≤ m.ports.length := by omega
    clear hjg
    obtain ⟨k0, k1, k2, k3⟩ := KM.out _ HT.out.1
    by_cases hlt : j < m.ports.length
    · have hn : m.ports[j]? = some m.ports[j] := List.getElem?_eq_getElem hlt
      generalize m.ports[j] = p at hn
      obtain ⟨g', o', rfl, hg, hr⟩ := HQ.out.at (j := j) (c := portCells p) (by rw [List.getElem?_map, hn]; rfl)
      have d1 := range_gr hr hg (GWX.out.trans HT.out.1) 1 _ rfl
      have HST := Lib.hid (show m.params ++ (m.ports.take (j + 1)).map (·.2.1) = m.params ++ (m.ports.take j).map (·.2.1) ++ [p.2.1] from by rw [List.take_add_one, hn]; simp)
      have i1 : (j : Int) < (m.ports.length : Int) := by omega
      have i2 : (0 : Int) ≤ (j : Int) := by omega
      have HLB := Lib.hid (show (m.params ++ (m.ports.take j).map (·.2.1)).length ≤ 2000 from by
        have h8 := HPL.out
        have h9 := HQL.out
        rw [List.length_append, List.length_map, List.length_take]
        omega)
      clear hn hr hg
      generalize m.params ++ (m.ports.take j).map (·.2.1) = L at HT HST HLB
      have HA := Lib.hid (HT.out.gr (Gr.alloc wo (.cells #[.string p.2.1] 9)))
      go_wp2_with (at_builtin; refine wpList_append_lies _ rfl _ _ 30 rfl X.heap.size 9 i0 _ 1 16 Try.underlying30 HI0.out.1 HI0.out.2.1 HI0.out.2.2.1 HI0.out.2.2.2 rfl (by decide) v L.length (strC L) rfl HA.out.2 ⟨wo.heap.size, 0, none⟩ 1 1 [.string p.2.1] rfl rfl (World.news_of_block (new_at wo _)) (by simp [Value.oneCell']) (by decide) (by have := HLB.out; unfold maxLen; omega) (by have := HLB.out; omega) HA.out.1.size _ rfl ?_; intro gz cz w7 hown hgrow hor hlt3; have HW := Lib.hid (tw_step HA.out hgrow hown); clear hown hgrow hor hlt3)
      go_roundg (gk - 1)
      case measure => have := HJ.out; omega
      case rel =>
        refine ⟨_, j + 1, rfl, by have := HJ.out; omega, by go_num, Lib.hid ?_⟩
        rw [HST.out]
        exact HW.out
    · obtain rfl : j = m.ports.length := by omega
      have i1 : ¬ (m.ports.length : Int) < (m.ports.length : Int) := by omega
      have HT0 := Lib.hid (show TwP X v (aheadNames m 0) wo from by
        have h := HT.out
        rw [List.take_length] at h
        simpa [aheadNames, headNames] using h)
      clear HT HJ hlt hjl
      go_wp2_with fail
      clear k0 k1 k2 k3 i1
      go_loopg [12, 14] k (fun gq x12 y wr => ∃ (v : Value) (j : Nat), v = x12 ∧ j + gq = k ∧ y = .int .i64 j ∧ Hid (TwP X v (aheadNames m j) wr))
      case atStart => exact ⟨_, 0, rfl, by omega, rfl, HT0⟩
      case round =>
        obtain ⟨v, j, rfl, hjg, rfl, HT⟩ := hrel
        obtain ⟨wo2, rfl⟩ : ∃ x, x = wr := ⟨_, rfl⟩
        have HJ := Lib.hid hjg
        have hjl : j ≤ k := by omega
        clear hjg
        obtain ⟨k0, k1, k2, k3⟩ := KM.out _ HT.out.1
        have HLB := Lib.hid (show (aheadNames m j).length ≤ 2200 from by
          have h8 := HPL.out
          have h9 := HQL.out
          have h10 : ((m.items.take j).filter (fun x => named x.kind)).length ≤ (m.items.take j).length := List.length_filter_le _ _
          rw [List.length_take] at h10
          simp only [aheadNames, headNames, List.length_append, List.length_map]
          omega)
        by_cases hlt : j < k
        · have hn : m.items[j]? = some m.items[j] := List.getElem?_eq_getElem (by omega)
          generalize m.items[j] = x at hn
          obtain ⟨cs, hcs, hia⟩ := HIT.out j x hn
          obtain ⟨g', o', rfl, hg, hr⟩ := HIR.out.at hcs
          have d0 := range_gr hr hg (GWX.out.trans HT.out.1) 0 _ (it_nk hia).2
          have d1 := range_gr hr hg (GWX.out.trans HT.out.1) 1 _ (it_nk hia).1
          simp only [Nat.add_zero] at d0
          have HAS := Lib.hid (ahead_succ hn)
          have i1 : (j : Int) < (k : Int) := by omega
          have i2 : (0 : Int) ≤ (j : Int) := by omega
          have i3 : (j : Int) < (m.items.length : Int) := by omega
          obtain ⟨nb, hnb⟩ : ∃ nb, named x.kind = nb := ⟨_, rfl⟩
          have NM := Lib.hid (Named_any x.kind wo2)
          rw [hnb] at NM HAS
          have HNX := Lib.hid hn
          clear hn hr hg hcs hia hnb
          go_upto_if 95 with (go_at_call 23; refine NM.out.mono ?_; rintro e w6 ⟨rfl, hg6⟩; have G6 := Lib.hid hg6; clear hg6)
          clear k0 k1 k2 k3 d0 d1 NM
          cases nb with
          | false =>
            go_wp2_with fail
            go_roundg (gk - 1)
            case measure => have := HJ.out; omega
            case rel =>
              refine ⟨_, j + 1, rfl, by have := HJ.out; omega, by go_num, Lib.hid ?_⟩
              rw [HAS.out]
              exact HT.out.gr G6.out
          | true =>
            obtain ⟨cs, hcs, hia⟩ := HIT.out j x HNX.out
            obtain ⟨g'', o'', e'', hg, hr⟩ := HIR.out.at hcs
            simp only [Option.some.injEq, Addr.mk.injEq, and_true] at e''
            obtain ⟨rfl, rfl⟩ := e''
            have d1 := range_gr hr hg (GWX.out.trans (HT.out.1.trans G6.out)) 1 _ (it_nk hia).1
            obtain ⟨k0, k1, k2, k3⟩ := KM.out _ (HT.out.1.trans G6.out)
            clear hr hg hcs hia
            have HA := Lib.hid (HT.out.gr (G6.out.trans (Gr.alloc w6 (.cells #[.string x.name] 9))))
            go_wp2_with (at_builtin; refine wpList_append_lies _ rfl _ _ 30 rfl X.heap.size 9 i0 _ 1 16 Try.underlying30 HI0.out.1 HI0.out.2.1 HI0.out.2.2.1 HI0.out.2.2.2 rfl (by decide) v (aheadNames m j).length (strC (aheadNames m j)) rfl HA.out.2 ⟨w6.heap.size, 0, none⟩ 1 1 [.string x.name] rfl rfl (World.news_of_block (new_at w6 _)) (by simp [Value.oneCell']) (by decide) (by have := HLB.out; unfold maxLen; omega) (by have := HLB.out; omega) HA.out.1.size _ rfl ?_; intro gz cz w7 hown hgrow hor hlt3; have HW := Lib.hid (tw_step HA.out hgrow hown); clear hown hgrow hor hlt3)
            go_roundg (gk - 1)
            case measure => have := HJ.out; omega
            case rel =>
              refine ⟨_, j + 1, rfl, by have := HJ.out; omega, by go_num, Lib.hid ?_⟩
              rw [HAS.out]
              exact HW.out
        · obtain rfl : j = k := by omega
          have i1 : ¬ (j : Int) < (j : Int) := by omega
          clear HJ hlt hjl
          have hnx : m.items[j]? = some m.items[j] := List.getElem?_eq_getElem hkl
          generalize m.items[j] = x at hnx
          obtain ⟨cs, hcs, hia⟩ := HIT.out j x hnx
          obtain ⟨g', o', rfl, hg, hr⟩ := HIR.out.at hcs
          have d0 := range_gr hr hg (GWX.out.trans HT.out.1) 0 _ (it_nk hia).2
          simp only [Nat.add_zero] at d0
          have HNX := Lib.hid hnx
          have HCS := Lib.hid hcs
          have HIA := Lib.hid hia
          have i2 : (0 : Int) ≤ (j : Int) := by omega
          have i3 : (j : Int) < (m.items.length : Int) := by omega
          obtain ⟨nb, hnb⟩ : ∃ nb, named x.kind = nb := ⟨_, rfl⟩
          have NM := Lib.hid (Named_any x.kind wo2)
          rw [hnb] at NM
          have HNB := Lib.hid hnb
          clear hnx hr hg hcs hia hnb
          go_upto_region 23 with (go_at_call 23; refine NM.out.mono ?_; rintro e wa ⟨rfl, hga⟩; have GA := Lib.hid hga; clear hga)
          clear k0 k1 k2 k3 d0 NM i1
          have GWA := Lib.hid (show Gr w wa from GWX.out.trans (HT.out.1.trans GA.out))
          cases nb with
          | false =>
            go_wp2_with fail
            go_ret
            exact ⟨rfl, GWA.out⟩
          | true =>
          obtain ⟨L, hL⟩ : ∃ L, aheadNames m j = L := ⟨_, rfl⟩
          rw [hL] at HT HLB
          have HLL := Lib.hid hL
          clear hL
          have HTA := Lib.hid (HT.out.gr GA.out)
          clear HT
          rcases Nat.eq_zero_or_pos L.length with hz | hlp
          · have q0 : ((0 : Int) == 0) = true := rfl
            rcases HTA.out.2.2 with ⟨rfl, -⟩ | ⟨g12, c12, cur, rfl, -⟩
            · go_wp2_with fail
              go_ret
              exact ⟨rfl, GWA.out⟩
            · rw [hz]
              go_wp2_with fail
              go_ret
              exact ⟨rfl, GWA.out⟩
          have q0 : ((L.length : Int) == 0) = false := by rw [beq_eq_false_iff_ne]; omega
          obtain ⟨g12, c12, rfl, hb12, -⟩ := HTA.out.2.form hlp
          obtain ⟨k0, k1, k2, k3⟩ := KM.out (wa.alloc (.cells #[] 49)) (HTA.out.1.trans (Gr.alloc _ _))
          have HON := Lib.hid (items_one HSL.out HIT.out)
          go_upto_region 26 with (at_builtin; refine app_items (wa.alloc (.cells #[] 49)) rfl _ _ rfl wa.heap.size (.slice (some ⟨wa.heap.size, 0, none⟩) 0 0) [] rfl (own_mt wa) (some ⟨g', o', none⟩) iC m.items.length css HSL.out rfl (HIR.out.gr (GWA.out.trans (Gr.alloc _ _))) HON.out (by omega) (by simp) ?_; intro v17 w8 hown hb8; obtain ⟨g3, c3, rfl, hg3, hg3'⟩ := hown.form (by omega); have O8 := Lib.hid (show w8.ownsRow wa.heap.size 49 42 (.slice (some ⟨g3, 0, none⟩) m.items.length c3) m.items.length css.flatten from by simpa using hown); have G8 := Lib.hid (show Gr wa w8 from gr_of (((Below.refl _ _).alloc (Nat.le_refl _) _).trans hb8)); have HG3 := Lib.hid (And.intro hg3 hg3'); clear hown hb8 hg3 hg3')
          clear k0 k1 k2 k3
          have HRO := Lib.hid (own_rowc O8.out HIR.out.2.1 HSL.out (by unfold maxLen; omega))
          obtain ⟨g4, o4, e4, hg4, hr4⟩ := HRO.out.at HCS.out
          simp only [Option.some.injEq, Addr.mk.injEq, and_true] at e4
          obtain ⟨rfl, rfl⟩ := e4
          rw [Nat.zero_add] at hr4
          have HR4 := Lib.hid hr4
          have HS := Lib.hid (show (Try.prog.info? 49).map (·.size) = some cs.length by rw [size49, it_len HIA.out])
          have HS' := Lib.hid (show (Try.prog.info? 49).map (·.size) = some cs.toArray.size by rw [size49, List.size_toArray, it_len HIA.out])
          have HO1 := Lib.hid (it_one HIA.out)
          have HL1 := Lib.hid (it_len HIA.out)
          clear hr4 hg4
          go_upto_region 27 with (first
            | (refine wpList_load_mid (by rfl) 49 _ rfl g3 (j * 42) rfl cs _ HR4.out Try.underlying49 rfl HS.out ?_)
            | (refine wpList_store_new (by rfl) 49 _ _ rfl cs rfl rfl HL1.out.symm HS'.out HO1.out ?_; intro Y hGV hCV; have GY := Lib.hid hGV; have CY := Lib.hid hCV; clear hGV hCV))
          try simp only [Act.put]
          obtain ⟨bx, hbx⟩ : ∃ bx, w8.heap.size = bx := ⟨_, rfl⟩
          rw [hbx] at CY ⊢
          have HBX := Lib.hid hbx
          clear hbx
          have GVY := Lib.hid (show Gr V Y from GX.out.trans (HTA.out.1.trans (G8.out.trans GY.out)))
          have T8 := Lib.hid (HTA.out.gr (G8.out.trans GY.out))
          obtain ⟨q, hq⟩ : ∃ q : Nat, a1 % L.length = q := ⟨_, rfl⟩
          have hql : q < L.length := by rw [← hq]; exact Nat.mod_lt _ hlp
          have htm : Int.tmod (a1 : Int) (L.length : Int) = (q : Int) := by rw [Int.tmod_eq_emod_of_nonneg (by omega), ← Int.natCast_emod, hq]
          have hnz : ¬ (L.length : Int) = 0 := by omega
          have hsl : L[q]? = some L[q] := List.getElem?_eq_getElem hql
          have hmem : L[q] ∈ L := List.getElem_mem hql
          generalize L[q] = s at hsl hmem
          have HMEM := Lib.hid hmem
          obtain ⟨c0, c1, c2⟩ := KB.out _ GVY.out
          have y12 : Y.cell? ⟨g12, q, none⟩ = some (.string s) := by
            rw [T8.out.2.cellAt q (by omega)]
            exact strC_at hsl
          have z0 : Y.frozen? ⟨bx, 1, none⟩ = false := frozen_at CY.out
          have z1 : Y.cell? ⟨bx, 1, none⟩ = some (.string x.name) := by rw [cell_at CY.out]; simpa using (it_nk HIA.out).1
          have i4 : (q : Int) < (L.length : Int) := by omega
          have i5 : (0 : Int) ≤ (q : Int) := by omega
          clear hq hsl hmem
          go_upto_region 28 with fail
          clear c0 c1 c2 y12 z0 z1 htm hnz
          refine wp_name fun Y2 hY => ?_
          have Y2Y := Lib.hid (show Y2.heap[bx]? = some (.cells (cs.set 1 (.string s)).toArray 49 (0, 0)) ∧ Gr w8 Y2 from by
            rw [hY]
            refine ⟨put_in (vs := [.string s]) (o := 1) CY.out (by have := HL1.out; simp; omega) ?_, gr_set GY.out (by have := HBX.out; omega)⟩
            show (cs.set 1 (.string s)) = _
            rw [List.set_eq_take_append_cons_drop, if_pos (by have := HL1.out; omega)]
            simp)
          clear hY CY
          have HR2 := Lib.hid (range_of Y2Y.out.1)
          have HSc := Lib.hid (show (Try.prog.info? 49).map (·.size) = some (cs.set 1 (.string s)).length by rw [size49, List.length_set, it_len HIA.out])
          have HSc' := Lib.hid (show (Try.prog.info? 49).map (·.size) = some (cs.set 1 (.string s)).toArray.size by rw [size49, List.size_toArray, List.length_set, it_len HIA.out])
          have HOc := Lib.hid (it_one (reC HIA.out s))
          have HCU := Lib.hid (show ∃ cur, Y2.heap[g3]? = some (.cells cur 49 (0, 0)) ∧ m.items.length * 42 ≤ cur.size from by
            rcases O8.out.2 with ⟨e, -⟩ | ⟨g5, c5, cur, e, -, hh, hnc, -, hcs5, -⟩
            · simp at e
            · simp only [Value.slice.injEq, Option.some.injEq, Addr.mk.injEq, and_true, true_and] at e
              obtain ⟨rfl, rfl⟩ := e
              refine ⟨cur, Y2Y.out.2.keep hh, ?_⟩
              rw [hcs5]
              exact Nat.mul_le_mul_right _ hnc)
          have TH := Lib.hid (show Y2.there g3 (j * 42) (cs.set 1 (.string s)).toArray.size from by
            obtain ⟨cur, h1, h2⟩ := HCU.out
            refine there_in h1 ?_
            rw [List.size_toArray, List.length_set, HL1.out]
            have : (j + 1) * 42 ≤ m.items.length * 42 := Nat.mul_le_mul_right _ (by omega)
            omega)
          go_upto_region 29 with (first
            | (refine wpList_load_mid (by rfl) 49 _ rfl bx 0 rfl (cs.set 1 (.string s)) _ HR2.out Try.underlying49 rfl HSc.out ?_)
            | (refine wpList_store_mid (by rfl) 49 _ _ rfl g3 (j * 42) (cs.set 1 (.string s)).toArray rfl rfl TH.out HSc'.out HOc.out ?_))
          try simp only [Act.put]
          refine wp_name fun Y3 hY => ?_
          have GVW : Gr V wa := GX.out.trans HTA.out.1
          have hgv3 : V.heap.size ≤ g3 := by have h8 := GVW.size; have h9 := HG3.out.1; omega
          have GV3 := Lib.hid (show Gr V Y3 from by
            rw [hY]
            exact gr_sets hgv3 _ _ _ (GVW.trans (G8.out.trans Y2Y.out.2)))
          have IT3 := Lib.hid (show ItemsAt Y3 (m.items.set j (reName x s)) (.slice (some ⟨g3, 0, none⟩) m.items.length c3) from by
            rw [hY]
            exact items_set (HRO.out.gr Y2Y.out.2) HCU.out HSL.out HIT.out HNX.out HCS.out (by have h8 := VV.out.2.2.size; omega) (GWA.out.trans (G8.out.trans Y2Y.out.2)))
          clear hY TH HOc HSc HSc' HR2 HCU
          have GW3 := Lib.hid (VV.out.2.2.trans GV3.out)
          have WA := Lib.hid (show Calls Try.prog 21 #[.agg #[.slice (some ⟨g, o, none⟩) ms.length mC], .int .i64 (i : Nat), .slice (some ⟨g3, 0, none⟩) m.items.length c3] Y3 (WithRet Y3 (ms.set i (reItem m j x s)) ms.length) from by
            have h := with_any ms (some ⟨g, o, none⟩) mC i m (m.items.set j (reName x s)) (some ⟨g3, 0, none⟩) c3 Y3 hl100 (Lib.hid (hms.out.gr GW3.out)) HM (Lib.hid (by rw [List.length_set]; exact IT3.out))
            rw [List.length_set] at h
            exact h)
          have HDS := Lib.hid (dsok_set HOK.out HM.out HNX.out s)
          obtain ⟨c0, c1, c2⟩ := KB.out _ GV3.out
          have CK2 := Lib.hid (fun (A : Option Addr) (c : Nat) (u : World) (hu : Gr Y3 u) (h : ModsAt u (ms.set i (reItem m j x s)) (.slice A ms.length c)) => (show Calls Try.prog 14 #[.agg #[.slice A ms.length c]] u (ChkRet u (ms.set i (reItem m j x s))) from by
            have h9 := Check_any (ms.set i (reItem m j x s)) A c u HDS (Lib.hid (by rw [List.length_set]; exact h)) (Lib.hid (ML.out _ (GW3.out.trans hu)))
            rw [List.length_set] at h9
            exact h9))
          go_upto_region 30 with (first
            | (go_at_call 21; refine WA.out.mono ?_; rintro e w9 ⟨A9, c9, rfl, hm9, hg9⟩; have G9 := Lib.hid hg9; have C9 := Lib.hid (CK2.out A9 c9 w9 G9.out hm9); clear hm9 hg9)
            | (go_at_call 14; refine C9.out.mono ?_; rintro e w10 ⟨lB, lD, fb, rfl, hrb, hfb, hg10⟩; have G10 := Lib.hid (G9.out.trans hg10); have RB := Lib.hid hrb; have FB := Lib.hid hfb; clear hrb hfb hg10))
          clear c0 c1 c2 WA CK2 C9
          have hset : (ms.set i (reItem m j x s)).length = ms.length := List.length_set
          have HIN := Lib.hid (show (50, i, (j : Int)) ∈ fb from by
            rcases FB.out with ⟨h, -⟩ | ⟨-, h⟩
            · omega
            · exact mout_set HM.out HNX.out HNB.out (by rw [HLL.out]; exact HMEM.out) h)
          have HFL : fb.length ≤ 60000 := by
            rcases FB.out with ⟨_, rfl⟩ | ⟨_, h⟩
            · simp
            · have h1 := mout_len h HDS.out.items
              rw [hset] at h1
              omega
          clear FB HDS hset
          have GWF := Lib.hid (GW3.out.trans G10.out)
          go_wp2_with fail
          go_loopg [20, 21] fb.length (fun gq f20 y wr => ∃ (b : Bool) (n : Nat), f20 = .bool b ∧ n + gq = fb.length ∧ y = .int .i64 n ∧ Hid ((b = true ↔ (50, i, (j : Int)) ∈ fb.take n) ∧ Gr w10 wr))
          case atStart => exact ⟨false, 0, rfl, by omega, rfl, Lib.hid ⟨by simp, Gr.refl _⟩⟩
          case round =>
            obtain ⟨b, n, rfl, hjg, rfl, HB3⟩ := hrel
            have HJ := Lib.hid hjg
            have hjl : n ≤ fb.length := by omega
            clear hjg
            by_cases hlt : n < fb.length
            · obtain ⟨⟨fe, fm, fi⟩, hf⟩ : ∃ f, fb[n]? = some f := ⟨_, List.getElem?_eq_getElem hlt⟩
              obtain ⟨gf, of', rfl, -, r0, r1, r2, r3⟩ := ft_row (RB.out.gr HB3.out.2) hf
              have HT9 := Lib.hid (show (50, i, (j : Int)) ∈ fb.take (n + 1) ↔ (50, i, (j : Int)) ∈ fb.take n ∨ (fe, fm, fi) = (50, i, (j : Int)) from by
                rw [List.take_add_one, hf]
                simp [eq_comm])
              have i1 : (n : Int) < (fb.length : Int) := by omega
              have i2 : (0 : Int) ≤ (n : Int) := by omega
              clear hf
              cases b with
              | true =>
                go_wp2_with fail
                go_roundg (gk - 1)
                case measure => have := HJ.out; omega
                case rel => exact ⟨true, n + 1, rfl, by have := HJ.out; omega, by go_num, Lib.hid ⟨⟨fun _ => HT9.out.2 (.inl (HB3.out.1.1 (by first | rfl | trivial))), fun _ => rfl⟩, HB3.out.2⟩⟩
              | false =>
                by_cases hE : (fe, fm, fi) = (50, i, (j : Int))
                · have HEE := Lib.hid hE
                  simp only [Prod.mk.injEq] at hE
                  obtain ⟨rfl, rfl, rfl⟩ := hE
                  go_wp2_with fail
                  go_roundg (gk - 1)
                  case measure => have := HJ.out; omega
                  case rel => exact ⟨true, n + 1, rfl, by have := HJ.out; omega, by go_num, Lib.hid ⟨⟨fun _ => HT9.out.2 (.inr HEE.out), fun _ => rfl⟩, HB3.out.2⟩⟩
                · have HNE := Lib.hid hE
                  by_cases e1 : fe = 50
                  · subst e1
                    by_cases e2 : fm = i
                    · subst e2
                      have e3 : fi ≠ (j : Int) := fun e => HNE.out (by rw [e])
                      have u3 : (fi == (j : Int)) = false := beq_eq_false_iff_ne.2 e3
                      clear e3
                      go_wp2_with fail
                      go_roundg (gk - 1)
                      case measure => have := HJ.out; omega
                      case rel => exact ⟨false, n + 1, rfl, by have := HJ.out; omega, by go_num, Lib.hid ⟨⟨fun h => Bool.noConfusion h, fun h => (HT9.out.1 h).elim (fun h1 => HB3.out.1.2 h1) (fun h2 => absurd h2 HNE.out)⟩, HB3.out.2⟩⟩
                    · have u2 : ((fm : Int) == (i : Int)) = false := beq_eq_false_iff_ne.2 (by omega)
                      clear e2
                      go_wp2_with fail
                      go_roundg (gk - 1)
                      case measure => have := HJ.out; omega
                      case rel => exact ⟨false, n + 1, rfl, by have := HJ.out; omega, by go_num, Lib.hid ⟨⟨fun h => Bool.noConfusion h, fun h => (HT9.out.1 h).elim (fun h1 => HB3.out.1.2 h1) (fun h2 => absurd h2 HNE.out)⟩, HB3.out.2⟩⟩
                  · have u1 : ((fe : Int) == 50) = false := beq_eq_false_iff_ne.2 (by omega)
                    clear e1
                    go_wp2_with fail
                    go_roundg (gk - 1)
                    case measure => have := HJ.out; omega
                    case rel => exact ⟨false, n + 1, rfl, by have := HJ.out; omega, by go_num, Lib.hid ⟨⟨fun h => Bool.noConfusion h, fun h => (HT9.out.1 h).elim (fun h1 => HB3.out.1.2 h1) (fun h2 => absurd h2 HNE.out)⟩, HB3.out.2⟩⟩
            · obtain rfl : n = fb.length := by omega
              have i1 : ¬ (fb.length : Int) < (fb.length : Int) := by omega
              obtain rfl : b = true := HB3.out.1.2 (by rw [List.take_length]; exact HIN.out)
              go_wp2_with fail
              go_ret
              exact ⟨rfl, GWF.out.trans HB3.out.2⟩
end Go.Proofs.Ytjkaeabnjkhllaa
