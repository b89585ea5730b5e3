/-
  proofmarklaw05.Fits, WALKED: item.
-/
import Derived.Test.YtjkaeabnjkhllaaScFit
import Derived.Test.YtjkaeabnjkhllaaScMax
namespace Go.Proofs.Ytjkaeabnjkhllaa
open Go.RowKit

structure ItStr (x : It) : Prop where
  name : x.name.size ≤ reachBytes
  mod : x.mod.size ≤ reachBytes
  wid : x.wid.1.size ≤ reachBytes
  val : x.val.1.size ≤ reachBytes
  args : ∀ a ∈ x.args, a.1.size ≤ reachBytes
  binds : ∀ b ∈ x.binds, b.1.size ≤ reachBytes ∧ ExAll StrHd b.2
  e : ExAll StrHd x.e
  at_ : ExAll StrHd x.at_
  if_ : ExAll StrHd x.if_
def ExFit (t : Ex) : Prop := ExAll ShortHd t ∧ exSize t ≤ 3000
structure ItFit (x : It) : Prop where
  e : ExFit x.e
  at_ : ExFit x.at_
  if_ : ExFit x.if_
  binds : ∀ b ∈ x.binds, ExFit b.2
  args : x.args.length ≤ 70
  blen : x.binds.length ≤ 70
def FitRet (w : World) (x : It) (left : Nat) (e : Ending) (w' : World) : Prop := ∃ n : Nat, e = .returned (.int .i64 n) ∧ n ≤ left ∧ (0 < n → ItFit x) ∧ Gr w w'


set_option maxRecDepth 100000 in
set_option maxHeartbeats 4000000 in
theorem fitem_any {w : World} {x : It} {cs : List Value} (hx : Hid (ItAt w x cs)) (hs : Hid (ItStr x)) (left : Nat) (h1 : 0 < left) (h2 : left ≤ 3000) : Calls Try.prog 25 #[.agg cs.toArray, .int .i64 (left : Nat)] w (FitRet w x left) := by
  obtain ⟨av, bv, ce, ca, ci, e0, hA, hB, hE, hT, hI⟩ := hx.out
  have HC := Lib.hid e0
  obtain ⟨aA, aC, ea⟩ := (show RowC w 2 av (x.args.map dmCells) from hA).form
  rw [List.length_map] at ea
  subst ea
  obtain ⟨css, hB1, hB2, hB3⟩ := hB
  obtain ⟨bA, bC, eb⟩ := hB1.form
  rw [hB2] at eb
  subst eb
  have HA := Lib.hid hA
  have HB := Lib.hid (And.intro hB1 (And.intro hB2 hB3))
  have HE := Lib.hid (And.intro hE (And.intro hT hI))
  have l1 := ex_len hE
  have l2 := ex_len hT
  have l3 := ex_len hI
  have hal : x.args.length ≤ maxLen := by have := hA.1; rwa [List.length_map] at this
  have hbl : x.binds.length ≤ maxLen := by have := hB1.1; rwa [hB2] at this
  have hal' : x.args.length ≤ 9223372036854775807 := hal
  have hbl' : x.binds.length ≤ 9223372036854775807 := hbl
  clear hA hB1 hB2 hB3 hE hT hI hal hbl e0
  go_enter Try.func25, Try.ntmps25
  go_upto_region 1 with fail
  obtain ⟨W, eW, GW, B⟩ : ∃ W, w.alloc (.cells cs.toArray 49) = W ∧ Hid (Gr w W) ∧ Hid (W.heap[w.heap.size]? = some (.cells cs.toArray 49 (0, 0))) := ⟨_, rfl, Lib.hid (Gr.alloc _ _), Lib.hid (new_at _ _)⟩
  rw [eW]
  clear eW
  have HAT := Lib.hid (show ∀ u, Gr W u → ∀ (j : Nat) (v : Value), (itCells x (.slice aA x.args.length aC) (.slice bA x.binds.length bC) ce ca ci)[j]? = some v → u.cell? ⟨w.heap.size, j, none⟩ = some v from fun u hu j v hv => by rw [cell_at (hu.keep B.out), HC.out]; simpa using hv)
  have HR := Lib.hid (show ∀ u, Gr W u → u.rangeAt w.heap.size 9 ce ∧ u.rangeAt w.heap.size 20 ca ∧ u.rangeAt w.heap.size 31 ci from fun u hu => by
    have hh := HAT.out u hu
    refine ⟨fun i v hv => hh _ _ ?_, fun i v hv => hh _ _ ?_, fun i v hv => hh _ _ ?_⟩
    · have hi := (List.getElem?_eq_some_iff.1 hv).1
      unfold itCells
      rw [List.getElem?_append_right (by simp), List.getElem?_append_left (by simp; omega)]
      simpa using hv
    · have hi := (List.getElem?_eq_some_iff.1 hv).1
      unfold itCells
      rw [List.getElem?_append_right (by simp; omega), List.getElem?_append_right (by simp; omega), List.getElem?_append_left (by simp; omega)]
      simpa [l1, show 20 + i - 9 - 11 = i by omega] using hv
    · have hi := (List.getElem?_eq_some_iff.1 hv).1
      unfold itCells
      rw [List.getElem?_append_right (by simp; omega), List.getElem?_append_right (by simp; omega), List.getElem?_append_right (by simp; omega)]
      simpa [l1, l2, show 31 + i - 9 - 11 - 11 = i by omega] using hv)
  have HS1 := Lib.hid (show (Try.prog.info? 47).map (·.size) = some ce.length by rw [size47, l1])
  have HS2 := Lib.hid (show (Try.prog.info? 47).map (·.size) = some ca.length by rw [size47, l2])
  have HS3 := Lib.hid (show (Try.prog.info? 47).map (·.size) = some ci.length by rw [size47, l3])
  clear l1 l2 l3
  have hh := HAT.out W (Gr.refl W)
  have a1 := hh 1 (.string x.name) rfl
  have a2 := hh 2 (.string x.wid.1) rfl
  have a4 := hh 4 (.string x.val.1) rfl
  have a6 := hh 6 (.string x.mod) rfl
  have a7 := hh 7 (.slice aA x.args.length aC) rfl
  have a8 := hh 8 (.slice bA x.binds.length bC) rfl
  clear hh
  have b1 := hs.out.name
  have b2 := hs.out.mod
  have b3 := hs.out.wid
  have b4 := hs.out.val
  unfold reachBytes at b1 b2 b3 b4
  by_cases c1 : x.name.size + x.mod.size + x.wid.1.size + x.val.1.size ≤ 240
  case neg =>
    have d1 : (240 : Int) < (x.name.size : Int) + x.mod.size + x.wid.1.size + x.val.1.size := by omega
    go_wp2_with fail
    go_ret
    exact ⟨0, rfl, Nat.zero_le _, fun h => absurd h (by omega), GW.out⟩
  have d1 : ¬ (240 : Int) < (x.name.size : Int) + x.mod.size + x.wid.1.size + x.val.1.size := by omega
  by_cases c2 : x.args.length ≤ 70
  case neg =>
    have d2 : (70 : Int) < (x.args.length : Int) := by omega
    go_wp2_with fail
    go_ret
    exact ⟨0, rfl, Nat.zero_le _, fun h => absurd h (by omega), GW.out⟩
  have d2 : ¬ (70 : Int) < (x.args.length : Int) := by omega
  by_cases c3 : x.binds.length ≤ 70
  case neg =>
    have d3 : (70 : Int) < (x.binds.length : Int) := by omega
    go_wp2_with fail
    go_ret
    exact ⟨0, rfl, Nat.zero_le _, fun h => absurd h (by omega), GW.out⟩
  have d3 : ¬ (70 : Int) < (x.binds.length : Int) := by omega
  go_upto_region 3 with fail
  have S1 := Lib.hid (size_any HE.out.1 hs.out.e left W h1 h2 GW.out)
  have R1 := Lib.hid (HR.out W (Gr.refl W)).1
  clear a1 a2 a4 a6 a7 a8 b1 b2 b3 b4 d1 d2 d3
  go_upto_region 4 with (first
    | (refine wpList_load_mid (by rfl) 47 _ rfl w.heap.size 9 rfl ce _ R1.out Try.underlying47 rfl HS1.out ?_)
    | (go_at_call 35; refine S1.out.mono ?_; rintro e w1 ⟨n1, rfl, hn1, hk1, hg1⟩; have G1 := Lib.hid (GW.out.trans hg1); have K1 := Lib.hid hk1; have H1 := Lib.hid hg1; clear hk1 hg1))
  clear S1 R1
  obtain ⟨m1, hm1, e1⟩ : ∃ m1 : Nat, m1 = max n1 1 ∧ ((m1 : Nat) : Int) = if (1 : Int) > (n1 : Int) then 1 else (n1 : Int) := ⟨_, rfl, by split <;> omega⟩
  have E1 := Lib.hid e1
  have p1 : 0 < m1 := by omega
  have q1 : m1 ≤ 3000 := by omega
  have HM1 := Lib.hid hm1
  clear e1 hm1
  have R2 := Lib.hid (HR.out w1 H1.out).2.1
  have S2 := Lib.hid (size_any HE.out.2.1 hs.out.at_ m1 w1 p1 q1 G1.out)
  go_upto_region 5 with (first
    | (refine wpList_load_mid (by rfl) 47 _ rfl w.heap.size 20 rfl ca _ R2.out Try.underlying47 rfl HS2.out ?_)
    | (refine wpList_max rfl _ _ _ rfl (n1 : Int) 1 rfl rfl (m1 : Nat) E1.out ?_)
    | (go_at_call 35; refine S2.out.mono ?_; rintro e w2 ⟨n2, rfl, hn2, hk2, hg2⟩; have G2 := Lib.hid (G1.out.trans hg2); have K2 := Lib.hid hk2; have H2 := Lib.hid (H1.out.trans hg2); clear hk2 hg2))
  clear S2 R2
  obtain ⟨m2, hm2, e2⟩ : ∃ m2 : Nat, m2 = max n2 1 ∧ ((m2 : Nat) : Int) = if (1 : Int) > (n2 : Int) then 1 else (n2 : Int) := ⟨_, rfl, by split <;> omega⟩
  have E2 := Lib.hid e2
  have p2 : 0 < m2 := by omega
  have q2 : m2 ≤ 3000 := by omega
  have HM2 := Lib.hid hm2
  clear e2 hm2
  have R3 := Lib.hid (HR.out w2 H2.out).2.2
  have S3 := Lib.hid (size_any HE.out.2.2 hs.out.if_ m2 w2 p2 q2 G2.out)
  go_upto_region 6 with (first
    | (refine wpList_load_mid (by rfl) 47 _ rfl w.heap.size 31 rfl ci _ R3.out Try.underlying47 rfl HS3.out ?_)
    | (refine wpList_max rfl _ _ _ rfl (n2 : Int) 1 rfl rfl (m2 : Nat) E2.out ?_)
    | (go_at_call 35; refine S3.out.mono ?_; rintro e w3 ⟨n3, rfl, hn3, hk3, hg3⟩; have G3 := Lib.hid (G2.out.trans hg3); have K3 := Lib.hid hk3; have H3 := Lib.hid (H2.out.trans hg3); clear hk3 hg3))
  clear S3 R3
  have KA := Lib.hid (show n3 < left ∧ (0 < n3 → ExFit x.e ∧ ExFit x.at_ ∧ ExFit x.if_) from by
    have hm1 := HM1.out
    have hm2 := HM2.out
    refine ⟨by omega, fun hp => ?_⟩
    obtain ⟨p3, q3⟩ := K3.out hp
    have hp2 : 0 < n2 := by omega
    obtain ⟨p2, q2⟩ := K2.out hp2
    have hp1 : 0 < n1 := by omega
    obtain ⟨p1, q1⟩ := K1.out hp1
    exact ⟨⟨q1, by omega⟩, ⟨q2, by omega⟩, ⟨q3, by omega⟩⟩)
  clear HM1 HM2 hn1 hn2 hn3 K1 K2 K3 E1 E2 HS1 HS2 HS3
  have hl3 : n3 < left := KA.out.1
  go_wp2_with fail
  go_loopg [6, 5] (x.binds.length + 1) (fun g y z wr => ∃ (k n : Nat), k + g = x.binds.length + 1 ∧ 0 < g ∧ y = .int .i64 (k : Nat) ∧ z = .int .i64 (n : Nat) ∧ n ≤ n3 ∧ Hid (0 < n → ∀ b ∈ x.binds.take k, ExFit b.2) ∧ Hid (Gr w3 wr))
  case atStart => exact ⟨0, n3, by omega, by omega, rfl, rfl, Nat.le_refl _, Lib.hid (fun _ => by simp), Lib.hid (Gr.refl _)⟩
  case round =>
    obtain ⟨k, n, hkg, hg0, rfl, rfl, hn, HN, HG⟩ := hrel
    obtain ⟨wo, rfl⟩ : ∃ x, x = wr := ⟨_, rfl⟩
    have HK := Lib.hid hkg
    have hkl : k ≤ x.binds.length := by omega
    clear hkg hg0
    have a8 := HAT.out wo (H3.out.trans HG.out) 8 (.slice bA x.binds.length bC) rfl
    by_cases hlt : k < x.binds.length
    · have hd1 : (k : Int) < (x.binds.length : Int) := by omega
      have hd0 : (0 : Int) ≤ (k : Int) := by omega
      by_cases hz : 0 < n
      · have hz1 : (0 : Int) < (n : Int) := by omega
        obtain ⟨b, hb⟩ : ∃ b, x.binds[k]? = some b := ⟨_, List.getElem?_eq_getElem hlt⟩
        obtain ⟨ce', hc, hE'⟩ := HB.out.2.2 k b hb
        have hBr := HB.out.1
        rw [← HB.out.2.1] at hBr
        obtain ⟨g, o, rfl, hg', hr'⟩ := hBr.at hc
        have hr2 := range_gr hr' hg' (G3.out.trans HG.out)
        have z0 := hr2 0 (.string b.1) rfl
        rw [Nat.add_zero] at z0
        have HR1 := Lib.hid (show wo.rangeAt g (o + k * 12 + 1) ce' from fun i v hv => by
          have h := hr2 (i + 1) v (by simpa using hv)
          rw [show o + k * 12 + (i + 1) = o + k * 12 + 1 + i by omega] at h
          exact h)
        have HS' := Lib.hid (show (Try.prog.info? 47).map (·.size) = some ce'.length by rw [size47, ex_len hE'])
        have HM := Lib.hid (List.mem_of_getElem? hb)
        have S4 := Lib.hid (size_any hE' (hs.out.binds b HM.out).2 n wo hz (by omega) (G3.out.trans HG.out))
        have HBK := Lib.hid hb
        clear hBr hr' hr2 hg' hc hE' hb
        by_cases cb : b.1.size ≤ 60
        · have d1 : ¬ ((60 : Int) < (b.1.size : Int)) := by omega
          go_upto_region 8 with (first
            | (refine wpList_load_mid (by rfl) 47 _ rfl g (o + k * 12 + 1) rfl ce' _ HR1.out Try.underlying47 rfl HS'.out ?_)
            | (go_at_call 35; refine S4.out.mono ?_; rintro e w5 ⟨n5, rfl, hn5, hk5, hg5⟩; have G5 := Lib.hid (HG.out.trans hg5); have K5 := Lib.hid hk5; clear hk5 hg5))
          go_wp2_with fail
          go_roundg (x.binds.length - k)
          case measure => have := HK.out; omega
          case rel => exact ⟨k + 1, n5, by omega, by omega, by go_num, rfl, by omega, Lib.hid (fun hp y hy => by
            rw [List.take_add_one, HBK.out] at hy
            simp only [Option.toList_some, List.mem_append, List.mem_singleton] at hy
            rcases hy with hy | rfl
            · exact HN.out (by omega) y hy
            · obtain ⟨p5, q5⟩ := K5.out hp
              exact ⟨q5, by omega⟩), G5⟩
        · have d1 : (60 : Int) < (b.1.size : Int) := by omega
          go_wp2_with fail
          go_ret
          exact ⟨0, rfl, Nat.zero_le _, fun h => absurd h (by omega), G3.out.trans HG.out⟩
      · obtain rfl : n = 0 := by omega
        go_wp2_with fail
        go_loopg [7] x.args.length (fun g y wr => ∃ k : Nat, k + g = x.args.length ∧ y = .int .i64 (k : Nat) ∧ Hid (Gr wo wr))
        case atStart => exact ⟨0, by omega, rfl, Lib.hid (Gr.refl _)⟩
        case round =>
          obtain ⟨j, hjg, rfl, HL⟩ := hrel
          obtain ⟨wi, rfl⟩ : ∃ x, x = wr := ⟨_, rfl⟩
          have HJ := Lib.hid hjg
          have hjl : j ≤ x.args.length := by omega
          clear hjg
          have a7 := HAT.out wi (H3.out.trans (HG.out.trans HL.out)) 7 (.slice aA x.args.length aC) rfl
          by_cases hl2 : j < x.args.length
          · obtain ⟨a, ha⟩ : ∃ a, x.args[j]? = some a := ⟨_, List.getElem?_eq_getElem hl2⟩
            obtain ⟨g2, o2, rfl, hg2, hr2⟩ := (show RowC w 2 (.slice aA x.args.length aC) (x.args.map dmCells) from HA.out).at (show (x.args.map dmCells)[j]? = some (dmCells a) by rw [List.getElem?_map, ha]; rfl)
            have hd1 : (j : Int) < (x.args.length : Int) := by omega
            have hd0 : (0 : Int) ≤ (j : Int) := by omega
            have z0 := (range_gr hr2 hg2 (G3.out.trans (HG.out.trans HL.out))) 0 (.string a.1) rfl
            rw [Nat.add_zero] at z0
            clear hr2 hg2 ha
            by_cases ca1 : a.1.size ≤ 60
            · have d1 : ¬ ((60 : Int) < (a.1.size : Int)) := by omega
              go_wp2_with fail
              go_roundg (gk - 1)
              case measure => have := HJ.out; omega
              case rel => exact ⟨j + 1, by have := HJ.out; omega, by go_num, HL⟩
            · have d1 : (60 : Int) < (a.1.size : Int) := by omega
              go_wp2_with fail
              go_ret
              exact ⟨0, rfl, Nat.zero_le _, fun h => absurd h (by omega), G3.out.trans (HG.out.trans HL.out)⟩
          · obtain rfl : j = x.args.length := by omega
            have hd1 : ¬ ((x.args.length : Int) < (x.args.length : Int)) := by omega
            clear hl2 hjl
            go_wp2_with (refine wpList_max rfl _ _ _ rfl (0 : Int) 0 rfl rfl (0 : Int) (by split <;> omega) ?_)
            go_ret
            exact ⟨0, rfl, Nat.zero_le _, fun h => absurd h (by omega), G3.out.trans (HG.out.trans HL.out)⟩
    · obtain rfl : k = x.binds.length := by omega
      have hd1 : ¬ ((x.binds.length : Int) < (x.binds.length : Int)) := by omega
      clear hlt hkl
      go_wp2_with fail
      go_loopg [7] x.args.length (fun g y wr => ∃ k : Nat, k + g = x.args.length ∧ y = .int .i64 (k : Nat) ∧ Hid (Gr wo wr))
      case atStart => exact ⟨0, by omega, rfl, Lib.hid (Gr.refl _)⟩
      case round =>
        obtain ⟨j, hjg, rfl, HL⟩ := hrel
        obtain ⟨wi, rfl⟩ : ∃ x, x = wr := ⟨_, rfl⟩
        have HJ := Lib.hid hjg
        have hjl : j ≤ x.args.length := by omega
        clear hjg
        have a7 := HAT.out wi (H3.out.trans (HG.out.trans HL.out)) 7 (.slice aA x.args.length aC) rfl
        by_cases hl2 : j < x.args.length
        · obtain ⟨a, ha⟩ : ∃ a, x.args[j]? = some a := ⟨_, List.getElem?_eq_getElem hl2⟩
          obtain ⟨g2, o2, rfl, hg2, hr2⟩ := (show RowC w 2 (.slice aA x.args.length aC) (x.args.map dmCells) from HA.out).at (show (x.args.map dmCells)[j]? = some (dmCells a) by rw [List.getElem?_map, ha]; rfl)
          have hd1 : (j : Int) < (x.args.length : Int) := by omega
          have hd0 : (0 : Int) ≤ (j : Int) := by omega
          have z0 := (range_gr hr2 hg2 (G3.out.trans (HG.out.trans HL.out))) 0 (.string a.1) rfl
          rw [Nat.add_zero] at z0
          clear hr2 hg2 ha
          by_cases ca1 : a.1.size ≤ 60
          · have d1 : ¬ ((60 : Int) < (a.1.size : Int)) := by omega
            go_wp2_with fail
            go_roundg (gk - 1)
            case measure => have := HJ.out; omega
            case rel => exact ⟨j + 1, by have := HJ.out; omega, by go_num, HL⟩
          · have d1 : (60 : Int) < (a.1.size : Int) := by omega
            go_wp2_with fail
            go_ret
            exact ⟨0, rfl, Nat.zero_le _, fun h => absurd h (by omega), G3.out.trans (HG.out.trans HL.out)⟩
        · obtain rfl : j = x.args.length := by omega
          have hd1 : ¬ ((x.args.length : Int) < (x.args.length : Int)) := by omega
          clear hl2 hjl
          go_wp2_with (refine wpList_max rfl _ _ _ rfl (n : Int) 0 rfl rfl (n : Int) (by split <;> omega) ?_)
          go_ret
          exact ⟨n, rfl, by omega, fun h => by
            obtain ⟨f1, f2, f3⟩ := KA.out.2 (by omega)
            have f4 := HN.out h
            rw [List.take_length] at f4
            exact ⟨f1, f2, f3, f4, c2, c3⟩, G3.out.trans (HG.out.trans HL.out)⟩
end Go.Proofs.Ytjkaeabnjkhllaa
