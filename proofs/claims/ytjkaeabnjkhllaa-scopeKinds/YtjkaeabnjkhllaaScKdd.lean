/-
  The document's Kind, WALKED.
-/
import Derived.Test.YtjkaeabnjkhllaaScKnd
import Derived.Test.YtjkaeabnjkhllaaScKdm
namespace Go.Proofs.Ytjkaeabnjkhllaa
open Go.RowKit

def MoV (m : Mo) (pA qA iA : Option Addr) (pC qC iC : Nat) : Array Value := #[.string m.name, .slice pA m.params.length pC, .slice qA m.ports.length qC, .slice iA m.items.length iC]
set_option maxRecDepth 100000 in
set_option maxHeartbeats 4000000 in
theorem Rparam_any (m : Mo) (pA qA iA : Option Addr) (pC qC iC : Nat) (s : ByteArray) (w : World) (hm : Hid (MoAt w m [.string m.name, .slice pA m.params.length pC, .slice qA m.ports.length qC, .slice iA m.items.length iC])) :
    Calls Try.prog 33 #[.agg #[.string m.name, .slice pA m.params.length pC, .slice qA m.ports.length qC, .slice iA m.items.length iC], .string s] w fun e w' => Gr w w' ∧ ((∃ k : Nat, e = .returned (.int .i64 k) ∧ kindOf m s = (1, k)) ∨ (e = .returned (.int .i64 (-1)) ∧ Por m s 0)) := by
  obtain ⟨pv, qv, iv, e, hp, hq, hi⟩ := hm.out
  simp only [List.cons.injEq, and_true, true_and] at e
  obtain ⟨rfl, rfl, rfl⟩ := e
  have HP := Lib.hid hp
  have hpl : m.params.length ≤ maxLen := by have := hp.1; simpa using this
  unfold maxLen at hpl
  clear hp hq hi
  have B0 := new_at w (.cells #[.string m.name, .slice pA m.params.length pC, .slice qA m.ports.length qC, .slice iA m.items.length iC] 34)
  go_enter Try.func33, Try.ntmps33
  go_upto_region 1 with fail
  obtain ⟨W, eW, GW, BW⟩ : ∃ W, w.alloc (.cells #[.string m.name, .slice pA m.params.length pC, .slice qA m.ports.length qC, .slice iA m.items.length iC] 34) = W ∧ Hid (Gr w W) ∧ Hid (W.heap[w.heap.size]? = some (.cells #[.string m.name, .slice pA m.params.length pC, .slice qA m.ports.length qC, .slice iA m.items.length iC] 34 (0, 0))) := ⟨_, rfl, Lib.hid (Gr.alloc _ _), Lib.hid B0⟩
  rw [eW]
  clear eW B0
  have c1 : W.cell? ⟨w.heap.size, 1, none⟩ = some (.slice pA m.params.length pC) := by rw [cell_at BW.out]; rfl
  go_wp2_with fail
  go_loopg [5] m.params.length (fun g i wr => ∃ k : Nat, k + g = m.params.length ∧ i = .int .i64 k ∧ Hid (Par m s k) ∧ Hid (wr = W))
  case atStart => exact ⟨0, by omega, rfl, Lib.hid (par_start m s), Lib.hid rfl⟩
  case round =>
    obtain ⟨k, hkg, rfl, HK, hwr⟩ := hrel
    obtain rfl := hwr.out
    have HJ := Lib.hid hkg
    have hkl : k ≤ m.params.length := by omega
    clear hkg hwr
    by_cases hlt : k < m.params.length
    · have hn : m.params[k]? = some m.params[k] := List.getElem?_eq_getElem hlt
      generalize m.params[k] = n at hn
      obtain ⟨g, o, rfl, hg, hr⟩ := HP.out.at (j := k) (c := [.string n]) (by rw [List.getElem?_map, hn]; rfl)
      have d0 := range_gr hr hg GW.out 0 _ rfl
      simp only [Nat.mul_one, Nat.add_zero] at d0
      have HN := Lib.hid hn
      have i1 : (k : Int) < (m.params.length : Int) := by omega
      have i2 : (0 : Int) ≤ (k : Int) := by omega
      clear hn hr hg
      by_cases hs : n = s
      · subst hs
        have q0 : (n.toList == n.toList) = true := by simp
        go_wp2_with fail
        go_ret
        exact ⟨GW.out, .inl ⟨k, rfl, HK.out.hit HN.out rfl⟩⟩
      · have q0 : (n.toList == s.toList) = false := toList_ne hs
        have HS := Lib.hid hs
        clear hs
        go_wp2_with fail
        go_roundg (gk - 1)
        case measure => have := HJ.out; omega
        case rel => exact ⟨k + 1, by have := HJ.out; omega, by go_num, Lib.hid (HK.out.miss HN.out HS.out), Lib.hid rfl⟩
    · have hkn : k = m.params.length := by omega
      subst hkn
      have i1 : ¬ (m.params.length : Int) < (m.params.length : Int) := by omega
      go_wp2_with fail
      go_ret
      exact ⟨GW.out, .inr ⟨rfl, HK.out.end⟩⟩
def KdRet (w : World) (m : Mo) (s : ByteArray) (e : Ending) (w' : World) : Prop := e = .returned (.tuple #[.int .i64 ((kindOf m s).1 : Nat), .int .i64 ((kindOf m s).2 : Nat)]) ∧ Gr w w'
theorem kd_of {w w' : World} {m : Mo} {s : ByteArray} {a b : Nat} (h : kindOf m s = (a, b)) (hg : Gr w w') : KdRet w m s (.returned (.tuple #[.int .i64 (a : Nat), .int .i64 (b : Nat)])) w' := by
  refine ⟨?_, hg⟩
  rw [h]
set_option maxRecDepth 100000 in
set_option maxHeartbeats 4000000 in
theorem RKind_any (m : Mo) (pA qA iA : Option Addr) (pC qC iC : Nat) (s : ByteArray) (w : World) (hm : Hid (MoAt w m [.string m.name, .slice pA m.params.length pC, .slice qA m.ports.length qC, .slice iA m.items.length iC])) :
    Calls Try.prog 17 #[.agg #[.string m.name, .slice pA m.params.length pC, .slice qA m.ports.length qC, .slice iA m.items.length iC], .string s] w (KdRet w m s) := by
  have RP := Lib.hid (fun (u : World) (hu : Gr w u) => Rparam_any m pA qA iA pC qC iC s u (Lib.hid (hm.out.gr hu)))
  obtain ⟨pv, qv, iv, e, hp, hq, hi⟩ := hm.out
  simp only [List.cons.injEq, and_true, true_and] at e
  obtain ⟨rfl, rfl, rfl⟩ := e
  have HQ := Lib.hid hq
  have hql : m.ports.length ≤ maxLen := by have := hq.1; simpa using this
  obtain ⟨css, hir, hil, hit⟩ := hi
  have hIl : m.items.length ≤ maxLen := by have := hir.1; omega
  have HI := Lib.hid hir
  have HIL := Lib.hid hil
  have HIT := Lib.hid hit
  unfold maxLen at hql hIl
  clear hp hq hir hil hit
  have B0 := new_at w (.cells #[.string m.name, .slice pA m.params.length pC, .slice qA m.ports.length qC, .slice iA m.items.length iC] 34)
  go_enter Try.func17, Try.ntmps17
  go_upto_region 1 with fail
  obtain ⟨W, eW, GW, BW⟩ : ∃ W, w.alloc (.cells #[.string m.name, .slice pA m.params.length pC, .slice qA m.ports.length qC, .slice iA m.items.length iC] 34) = W ∧ Hid (Gr w W) ∧ Hid (W.heap[w.heap.size]? = some (.cells #[.string m.name, .slice pA m.params.length pC, .slice qA m.ports.length qC, .slice iA m.items.length iC] 34 (0, 0))) := ⟨_, rfl, Lib.hid (Gr.alloc _ _), Lib.hid B0⟩
  rw [eW]
  clear eW B0
  have KEEP := Lib.hid (fun (u : World) (hu : Gr W u) => (show u.cell? ⟨w.heap.size, 0, none⟩ = some (.string m.name) ∧ u.cell? ⟨w.heap.size, 1, none⟩ = some (.slice pA m.params.length pC) ∧ u.cell? ⟨w.heap.size, 2, none⟩ = some (.slice qA m.ports.length qC) ∧ u.cell? ⟨w.heap.size, 3, none⟩ = some (.slice iA m.items.length iC) from by
    have h := hu.keep BW.out
    refine ⟨?_, ?_, ?_, ?_⟩ <;> (rw [cell_at h]; rfl)))
  obtain ⟨c0, c1, c2, c3⟩ := KEEP.out _ (Gr.refl W)
  go_wp2_with fail
  refine (RP.out _ GW.out).mono ?_
  rintro e w1 ⟨hg, hres⟩
  have G1 := Lib.hid hg
  clear hg c0 c1 c2 c3 RP
  obtain ⟨c0, c1, c2, c3⟩ := KEEP.out _ G1.out
  rcases hres with ⟨k, rfl, hk⟩ | ⟨rfl, hpor⟩
  · have q0 : (0 : Int) ≤ (k : Int) := by omega
    have HK := Lib.hid hk
    clear hk
    go_wp2_with fail
    first | refine bodyPost_ret (results_tmp2 rfl _ _ _) rfl ?_ | refine bodyPost_end (results_tmp2 rfl _ _ _) rfl ?_
    exact kd_of HK.out (GW.out.trans G1.out)
  have HPOR := Lib.hid hpor
  clear hpor
  have GX := Lib.hid (GW.out.trans G1.out)
  go_wp2_with fail
  go_loopg [7] m.ports.length (fun g i wr => ∃ k : Nat, k + g = m.ports.length ∧ i = .int .i64 k ∧ Hid (Por m s k) ∧ Hid (wr = w1))
  case atStart => exact ⟨0, by omega, rfl, HPOR, Lib.hid rfl⟩
  case round =>
    obtain ⟨k, hkg, rfl, HK, hwr⟩ := hrel
    obtain ⟨wo, rfl⟩ : ∃ x, x = wr := ⟨_, rfl⟩
    obtain rfl : w1 = wo := hwr.out.symm
    have HJ := Lib.hid hkg
    have hkl : k ≤ m.ports.length := by omega
    clear hkg hwr
    by_cases hlt : k < m.ports.length
    · have hn : m.ports[k]? = some m.ports[k] := List.getElem?_eq_getElem hlt
      generalize m.ports[k] = p at hn
      obtain ⟨g, o, rfl, hg, hr⟩ := HQ.out.at (j := k) (c := portCells p) (by rw [List.getElem?_map, hn]; rfl)
      have d0 := range_gr hr hg GX.out 0 _ rfl
      have d1 := range_gr hr hg GX.out 1 _ rfl
      simp only [Nat.add_zero] at d0
      have HN := Lib.hid hn
      have i1 : (k : Int) < (m.ports.length : Int) := by omega
      have i2 : (0 : Int) ≤ (k : Int) := by omega
      clear hn hr hg
      by_cases hs : p.2.1 = s
      · have q0 : (p.2.1.toList == s.toList) = true := by simp [hs]
        have HS := Lib.hid hs
        clear hs
        obtain ⟨b, hb⟩ : ∃ b, p.1 = b := ⟨_, rfl⟩
        rw [hb] at d0
        have HH := Lib.hid (HK.out.hit HN.out HS.out)
        rw [hb] at HH
        clear hb
        cases b
        · go_wp2_with fail
          first | refine bodyPost_ret (results_tmp2 rfl _ _ _) rfl ?_ | refine bodyPost_end (results_tmp2 rfl _ _ _) rfl ?_
          exact kd_of HH.out GX.out
        · go_wp2_with fail
          first | refine bodyPost_ret (results_tmp2 rfl _ _ _) rfl ?_ | refine bodyPost_end (results_tmp2 rfl _ _ _) rfl ?_
          exact kd_of HH.out GX.out
      · have q0 : (p.2.1.toList == s.toList) = false := toList_ne hs
        have HS := Lib.hid hs
        clear hs
        go_wp2_with fail
        go_roundg (gk - 1)
        case measure => have := HJ.out; omega
        case rel => exact ⟨k + 1, by have := HJ.out; omega, by go_num, Lib.hid (HK.out.miss HN.out HS.out), Lib.hid rfl⟩
    · have hkn : k = m.ports.length := by omega
      subst hkn
      have i1 : ¬ (m.ports.length : Int) < (m.ports.length : Int) := by omega
      have HIM := Lib.hid HK.out.end
      clear HK HJ hlt hkl
      go_wp2_with fail
      go_loopg [8] m.items.length (fun g i wr => ∃ k : Nat, k + g = m.items.length ∧ i = .int .i64 k ∧ Hid (Itm m s k) ∧ Hid (wr = w1))
      case atStart => exact ⟨0, by omega, rfl, HIM, Lib.hid rfl⟩
      case round =>
        obtain ⟨k, hkg, rfl, HK, hwr⟩ := hrel
        obtain rfl : w1 = wr := hwr.out.symm
        have HJ := Lib.hid hkg
        have hkl : k ≤ m.items.length := by omega
        clear hkg hwr
        by_cases hlt : k < m.items.length
        · have hn : m.items[k]? = some m.items[k] := List.getElem?_eq_getElem hlt
          generalize m.items[k] = x at hn
          obtain ⟨cs, hcs, av, bv, ce, ca, ci, rfl, -⟩ := HIT.out k x hn
          obtain ⟨g, o, rfl, hg, hr⟩ := HI.out.at hcs
          have d0 := range_gr hr hg GX.out 0 _ rfl
          have d1 := range_gr hr hg GX.out 1 _ rfl
          simp only [Nat.add_zero] at d0
          have HN := Lib.hid hn
          have i1 : (k : Int) < (m.items.length : Int) := by omega
          have i2 : (0 : Int) ≤ (k : Int) := by omega
          clear hn hr hg hcs
          by_cases hs : x.name = s
          · have q0 : (x.name.toList != s.toList) = false := by simp [hs]
            have q0' : (x.name.toList == s.toList) = true := by simp [hs]
            have HS := Lib.hid hs
            clear hs
            obtain ⟨kd, hkd⟩ : ∃ kd, x.kind = kd := ⟨_, rfl⟩
            rw [hkd] at d0
            have HKD := Lib.hid hkd
            clear hkd
            by_cases h1 : kd = 1
            · have r1 : (kd == 1) = true := by simp [h1]
              have HH := Lib.hid (show kindOf m s = (4, k) from by
                have h9 := HK.out.hit HN.out HS.out (by rw [HKD.out, h1]; decide)
                rw [h9, HKD.out, h1]
                rfl)
              clear h1
              go_wp2_with fail
              first | refine bodyPost_ret (results_tmp2 rfl _ _ _) rfl ?_ | refine bodyPost_end (results_tmp2 rfl _ _ _) rfl ?_
              exact kd_of HH.out GX.out
            have r1 : (kd == 1) = false := by simp [h1]
            have HQ1 := Lib.hid h1
            clear h1
            by_cases h2 : kd = 2
            · have r2 : (kd == 2) = true := by simp [h2]
              have HH := Lib.hid (show kindOf m s = (5, k) from by
                have h9 := HK.out.hit HN.out HS.out (by rw [HKD.out, h2]; decide)
                rw [h9, HKD.out, h2]
                rfl)
              clear h2
              go_wp2_with fail
              first | refine bodyPost_ret (results_tmp2 rfl _ _ _) rfl ?_ | refine bodyPost_end (results_tmp2 rfl _ _ _) rfl ?_
              exact kd_of HH.out GX.out
            have r2 : (kd == 2) = false := by simp [h2]
            have HQ2 := Lib.hid h2
            clear h2
            by_cases h5 : kd = 5
            · have r5 : (kd == 5) = true := by simp [h5]
              have HH := Lib.hid (show kindOf m s = (6, k) from by
                have h9 := HK.out.hit HN.out HS.out (by rw [HKD.out, h5]; decide)
                rw [h9, HKD.out, h5]
                rfl)
              clear h5
              go_wp2_with fail
              first | refine bodyPost_ret (results_tmp2 rfl _ _ _) rfl ?_ | refine bodyPost_end (results_tmp2 rfl _ _ _) rfl ?_
              exact kd_of HH.out GX.out
            have r5 : (kd == 5) = false := by simp [h5]
            have HQ5 := Lib.hid h5
            clear h5
            by_cases h7 : kd = 7
            · have r7 : (kd == 7) = true := by simp [h7]
              have HH := Lib.hid (show kindOf m s = (7, k) from by
                have h9 := HK.out.hit HN.out HS.out (by rw [HKD.out, h7]; decide)
                rw [h9, HKD.out, h7]
                rfl)
              clear h7
              go_wp2_with fail
              first | refine bodyPost_ret (results_tmp2 rfl _ _ _) rfl ?_ | refine bodyPost_end (results_tmp2 rfl _ _ _) rfl ?_
              exact kd_of HH.out GX.out
            have r7 : (kd == 7) = false := by simp [h7]
            have HQ7 := Lib.hid h7
            clear h7
            have HZ := Lib.hid (show itemKind x.kind = 0 from by rw [HKD.out]; unfold itemKind; rw [if_neg HQ1.out, if_neg HQ2.out, if_neg HQ5.out, if_neg HQ7.out])
            go_wp2_with fail
            go_roundg (gk - 1)
            case measure => have := HJ.out; omega
            case rel => exact ⟨k + 1, by have := HJ.out; omega, by go_num, Lib.hid (HK.out.miss HN.out (.inr HZ.out)), Lib.hid rfl⟩
          · have q0 : (x.name.toList != s.toList) = true := by rw [bne, toList_ne hs]; rfl
            have q0' : (x.name.toList == s.toList) = false := toList_ne hs
            have HS := Lib.hid hs
            clear hs
            go_wp2_with fail
            go_roundg (gk - 1)
            case measure => have := HJ.out; omega
            case rel => exact ⟨k + 1, by have := HJ.out; omega, by go_num, Lib.hid (HK.out.miss HN.out (.inl HS.out)), Lib.hid rfl⟩
        · have hkn : k = m.items.length := by omega
          subst hkn
          have i1 : ¬ (m.items.length : Int) < (m.items.length : Int) := by omega
          go_wp2_with fail
          first | refine bodyPost_ret (results_tmp2 rfl _ _ _) rfl ?_ | refine bodyPost_end (results_tmp2 rfl _ _ _) rfl ?_
          exact kd_of HK.out.end GX.out
end Go.Proofs.Ytjkaeabnjkhllaa
