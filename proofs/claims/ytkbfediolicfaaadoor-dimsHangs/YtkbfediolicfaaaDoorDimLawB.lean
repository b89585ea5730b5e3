/-
  THE LAW DimsAdds, WALKED.
-/
import Derived.Test.YtkbfediolicfaaaDoorDimLaw
namespace Go.Proofs.YtkbfediolicfaaaDoor
open Go.RowKit
open DimM

set_option maxRecDepth 100000 in
set_option maxHeartbeats 2000000 in
theorem adds_walk (s : ByteArray) (n m : Int) (A : Option Addr) (len c : Nat) (ps : Ps) (w : World) (hn0 : 0 ≤ n) (hn1 : n ≤ 65535) (hm0 : 0 ≤ m) (hm1 : m ≤ 65535) (hl : ps.length = len) (hm : len ≤ maxLen) (hP : Hid (Nmd w w.heap.size A ps)) (hF : Hid (Fine ps)) (hg : Hid (ErrTy w)) :
    Calls Tryd.prog 6 #[.string s, .int .u16 n, .int .u16 m, .slice A len c] w fun e w' => e = .returned (.bool true) ∧ Below w.heap.size w w' := by
  subst hl
  unfold maxLen at hm
  by_cases hlen : 100 < ps.length
  · go_enter Tryd.func6, Tryd.ntmps6
    go_wp2_with fail
    refine (head_any _ hg).mono ?_
    rintro e w1 ⟨rfl, hb⟩
    have S1 := Lib.hid hb
    clear hb
    go_wp2
    go_ret
    exact ⟨rfl, S1.out⟩
  by_cases hs : s.data = #[]
  · have hs1 := str_empty hs
    have hs2 : s.toList.isEmpty = true := by rw [hs1]; rfl
    have HS := Lib.hid hs
    clear hs hs1
    go_enter Tryd.func6, Tryd.ntmps6
    go_wp2_with fail
    refine (head_any _ hg).mono ?_
    rintro e w1 ⟨rfl, hb⟩
    have S1 := Lib.hid hb
    clear hb
    go_wp2
    go_ret
    exact ⟨rfl, S1.out⟩
  have hs2 := str_full hs
  have HS := Lib.hid hs
  clear hs
  go_enter Tryd.func6, Tryd.ntmps6
  go_wp2_with fail
  refine (head_any _ hg).mono ?_
  rintro e w1 ⟨rfl, hb⟩
  have S1 := Lib.hid (Sta.step ⟨Below.refl _ _, hg.out⟩ hb)
  have P1 := Lib.hid ((hP.out.below hb).more hb.size)
  clear hb
  go_wp2_with fail
  refine (Env_any A c ps w1 (by omega) P1 hF).mono ?_
  rintro e w2 ⟨A1, c1, A2, c2, rfl, hE, hb⟩
  have S2 := Lib.hid (S1.out.step hb)
  have E2 := Lib.hid hE
  clear hb hE
  have hcase : (val s n ps = (0, 40) ∧ val s (n + m) ps = (0, 40)) ∨ (val s n ps = (0, 41) ∧ val s (n + m) ps = (0, 41)) ∨
      (∃ a, val s n ps = (a, 0) ∧ 0 ≤ a ∧ a ≤ 65535 ∧ (65535 < n + m ∨ (¬ 65535 < n + m ∧ 65535 < a + m)) ∧ val s (n + m) ps = (0, 41)) ∨
      (∃ a, val s n ps = (a, 0) ∧ 0 ≤ a ∧ a ≤ 65535 ∧ ¬ 65535 < n + m ∧ ¬ 65535 < a + m ∧ val s (n + m) ps = (a + m, 0)) := by
    rcases ha : adds s ps with _ | v
    · left; unfold val; rw [ha]; exact ⟨rfl, rfl⟩
    · right
      have hv := adds_fine hF.out ha
      by_cases h1 : n + v ≤ 65535
      · right
        by_cases h2 : 65535 < n + m ∨ 65535 < n + v + m
        · left
          exact ⟨n + v, val_of ha ((fits_iff _ _).2 (by omega)), by omega, by omega, by omega, val_no ha (fits_no _ _ (by omega))⟩
        · right
          refine ⟨n + v, val_of ha ((fits_iff _ _).2 (by omega)), by omega, by omega, by omega, by omega, ?_⟩
          rw [val_of ha ((fits_iff _ _).2 (by omega))]
          congr 1
          omega
      · left
        exact ⟨val_no ha (fits_no _ _ (by omega)), val_no ha (fits_no _ _ (by omega))⟩
  rcases hcase with ⟨h1, h2⟩ | ⟨h1, h2⟩ | ⟨a, h1, ha0, ha1, h3, h2⟩ | ⟨a, h1, ha0, ha1, h3, h4, h2⟩
  all_goals
    have HV := Lib.hid h1
    have HW := Lib.hid h2
    clear h1 h2
    go_wp2_with fail
    refine (Value_is E2.out S2.out.2 rfl HV.out).mono ?_
    rintro e w3 ⟨rfl, hb⟩
    have S3 := Lib.hid (S2.out.step hb)
    have E3 := Lib.hid (E2.out.below hb)
    clear hb
    go_wp2_with fail
    refine (Value_is E3.out S3.out.2 rfl HW.out).mono ?_
    rintro e w4 ⟨rfl, hb⟩
    have S4 := Lib.hid (S3.out.step hb)
    clear hb
  · go_wp2
    go_ret
    exact ⟨rfl, S4.out.1⟩
  · go_wp2
    go_ret
    exact ⟨rfl, S4.out.1⟩
  · rcases h3 with h3 | ⟨h3, h4⟩
    · go_wp2
      go_ret
      exact ⟨rfl, S4.out.1⟩
    · go_wp2
      go_ret
      exact ⟨rfl, S4.out.1⟩
  · have h5 : (a + m == a + m) = true := by simp
    go_wp2
    go_ret
    exact ⟨rfl, S4.out.1⟩
theorem vals_ok (l : Ps) (ds : List (ByteArray × Int)) (h : (vals l ds).2 = 0) : (vals l ds).1.length = ds.length ∧ ∀ (i : Nat) (d : ByteArray × Int), ds[i]? = some d → ∃ x, (vals l ds).1[i]? = some x ∧ val d.1 d.2 l = (x, 0) := by
  induction ds with
  | nil => exact ⟨rfl, fun i d hd => by simp at hd⟩
  | cons d r ih =>
    unfold vals at h ⊢
    by_cases h1 : (val d.1 d.2 l).2 = 0
    · by_cases h2 : (vals l r).2 = 0
      · obtain ⟨e1, e2⟩ := ih h2
        simp only [h1, h2, if_true]
        refine ⟨by simp [e1], fun i d' hd => ?_⟩
        cases i with
        | zero =>
          have : d = d' := by simpa using hd
          subst this
          exact ⟨_, by simp, Prod.ext rfl h1⟩
        | succ i =>
          obtain ⟨x, hx, hv⟩ := e2 i d' (by simpa using hd)
          exact ⟨x, by simpa using hx, hv⟩
      · simp [h1, h2] at h
    · simp [h1] at h
theorem vals_bad (l : Ps) (ds : List (ByteArray × Int)) (h : (vals l ds).2 ≠ 0) : ∃ (m : Nat) (d : ByteArray × Int), ds[m]? = some d ∧ (val d.1 d.2 l).2 = (vals l ds).2 ∧ ∀ (j : Nat) (d' : ByteArray × Int), j < m → ds[j]? = some d' → (val d'.1 d'.2 l).2 = 0 := by
  induction ds with
  | nil => simp [vals] at h
  | cons d r ih =>
    by_cases h1 : (val d.1 d.2 l).2 = 0
    · have h2 : (vals l r).2 ≠ 0 := by
        intro h2
        apply h
        unfold vals
        simp [h1, h2]
      obtain ⟨m, d2, e1, e2, e3⟩ := ih h2
      have e4 : (vals l (d :: r)).2 = (vals l r).2 := by rw [vals]; simp [h1, h2]
      refine ⟨m + 1, d2, by simpa using e1, e2.trans e4.symm, fun j d' hj hd => ?_⟩
      cases j with
      | zero =>
        have : d = d' := by simpa using hd
        subst this
        exact h1
      | succ j => exact e3 j d' (by omega) (by simpa using hd)
    · have e4 : (vals l (d :: r)).2 = (val d.1 d.2 l).2 := by rw [vals]; simp [h1]
      exact ⟨0, d, by simp, e4.symm, fun j d' hj => by omega⟩
theorem Sta.refl {w : World} (h : ErrTy w) : Sta w w := ⟨Below.refl _ _, h⟩

/-- what a loop over dimensions keeps -/
def Kept (w0 : World) (A A1 A2 : Option Addr) (ds : List (ByteArray × Int)) (ps : Ps) (w : World) : Prop := Sta w0 w ∧ EnvAt w A1 A2 ps ∧ Dms w w.heap.size A ds
theorem Kept.step {w0 w w' : World} {A A1 A2 : Option Addr} {ds : List (ByteArray × Int)} {ps : Ps} (h : Kept w0 A A1 A2 ds ps w) (hb : Below w.heap.size w w') : Kept w0 A A1 A2 ds ps w' :=
  ⟨h.1.step hb, h.2.1.below hb, (h.2.2.below hb).more hb.size⟩

set_option maxRecDepth 100000 in
set_option maxHeartbeats 2000000 in
theorem many_walk (A : Option Addr) (len c : Nat) (ds : List (ByteArray × Int)) (B : Option Addr) (len2 c' : Nat) (ps : Ps) (w : World) (hdl : ds.length = len) (hdm : len ≤ maxLen) (hD : Hid (Dms w w.heap.size A ds)) (hl : ps.length = len2) (hm : len2 ≤ maxLen) (hP : Hid (Nmd w w.heap.size B ps)) (hF : Hid (Fine ps)) (hg : Hid (ErrTy w)) :
    Calls Tryd.prog 7 #[.slice A len c, .slice B len2 c'] w fun e w' => e = .returned (.bool true) ∧ Below w.heap.size w w' := by
  subst hl hdl
  unfold maxLen at hm hdm
  by_cases hlen : 100 < ds.length
  · go_enter Tryd.func7, Tryd.ntmps7
    go_wp2_with fail
    refine (head_any _ hg).mono ?_
    rintro e w1 ⟨rfl, hb⟩
    have S1 := Lib.hid hb
    clear hb
    go_wp2
    go_ret
    exact ⟨rfl, S1.out⟩
  by_cases hlen2 : 100 < ps.length
  · go_enter Tryd.func7, Tryd.ntmps7
    go_wp2_with fail
    refine (head_any _ hg).mono ?_
    rintro e w1 ⟨rfl, hb⟩
    have S1 := Lib.hid hb
    clear hb
    go_wp2
    go_ret
    exact ⟨rfl, S1.out⟩
  go_enter Tryd.func7, Tryd.ntmps7
  go_wp2_with fail
  refine (head_any _ hg).mono ?_
  rintro e w1 ⟨rfl, hb⟩
  have S1 := Lib.hid (Sta.step (Sta.refl hg.out) hb)
  have P1 := Lib.hid ((hP.out.below hb).more hb.size)
  have D1 := Lib.hid ((hD.out.below hb).more hb.size)
  clear hb
  go_wp2_with fail
  refine (Env_any B c' ps w1 (by omega) P1 hF).mono ?_
  rintro e w2 ⟨A1, c1, A2, c2, rfl, hE, hb⟩
  have K2 : Hid (Kept w A A1 A2 ds ps w2) := Lib.hid ⟨S1.out.step hb, hE, (D1.out.below hb).more hb.size⟩
  clear hb hE
  rcases hv : vals ps ds with ⟨xs, ev⟩
  by_cases he : ev = 0
  · subst he
    obtain ⟨q1, q2⟩ := vals_ok ps ds (by rw [hv])
    rw [hv] at q1 q2
    simp only at q1 q2
    have Q2 := Lib.hid q2
    have HV := Lib.hid hv
    have HQ1 := Lib.hid q1
    clear q1 q2 hv
    go_wp2_with fail
    refine (Values_is (by omega) K2.out.2.2 K2.out.2.1 K2.out.1.2 rfl rfl HV.out HQ1.out).mono ?_
    rintro e w3 ⟨A', c3, rfl, hI, hb⟩
    have K3 := Lib.hid (K2.out.step hb)
    have I3 := Lib.hid hI
    clear hb hI
    have hself : ((ds.length : Int) == (ds.length : Int)) = true := by simp
    have hself2 : ((ds.length : Int) != (ds.length : Int)) = false := by simp
    go_wp2_with fail
    go_loopg [10] ds.length (fun g i wr => ∃ k : Nat, k + g = ds.length ∧ i = .int .i64 k ∧ Hid (Kept w A A1 A2 ds ps wr) ∧ Hid (Ints wr wr.heap.size A' xs))
    case atStart => exact ⟨0, by omega, rfl, K3, I3⟩
    case round =>
      obtain ⟨k, hkg, rfl, KR, IR⟩ := hrel
      have HK := Lib.hid hkg
      have hkl : k ≤ ds.length := by omega
      clear hkg
      by_cases hlt : k < ds.length
      · have hsome : ds[k]? = some ds[k] := List.getElem?_eq_getElem hlt
        obtain ⟨x, hx, hvx⟩ := Q2.out k _ hsome
        generalize ds[k] = d at hsome hvx
        obtain ⟨s, n⟩ := d
        obtain ⟨b, off, rfl, hbl, c0, c1⟩ := KR.out.2.2 k (s, n) hsome
        simp only at c0 c1
        have HX := Lib.hid hx
        have HVX := Lib.hid hvx
        clear hsome hvx hx
        have hi1 : (k : Int) < (ds.length : Int) := by omega
        have hi0 : (0 : Int) ≤ (k : Int) := by omega
        have hxx : (x != x) = false := by simp
        go_wp2_with fail
        refine (Value_is KR.out.2.1 KR.out.1.2 rfl HVX.out).mono ?_
        rintro e w4 ⟨rfl, hb⟩
        have K4 := Lib.hid (KR.out.step hb)
        have I4 := Lib.hid ((IR.out.below hb).more hb.size)
        obtain ⟨b', off', rfl, hbl', c0'⟩ := I4.out k x HX.out
        clear hb
        go_wp2
        go_roundg (gk - 1)
        case measure => have := HK.out; omega
        case rel => exact ⟨k + 1, by have := HK.out; omega, by go_num, K4, I4⟩
      · go_wp2
        go_ret
        exact ⟨rfl, KR.out.1.1⟩
  · have hxs : xs = [] := by have := vals_err (l := ps) (ds := ds) (by rw [hv]; exact he); rw [hv] at this; exact this
    subst hxs
    obtain ⟨m, d, q1, q2, q3⟩ := vals_bad ps ds (by rw [hv]; exact he)
    rw [hv] at q2
    simp only at q2
    have HV := Lib.hid hv
    have Q := Lib.hid (And.intro q1 (And.intro q2 q3))
    have hml : m < ds.length := (List.getElem?_eq_some_iff.1 q1).1
    clear q1 q2 q3 hv
    have he1 : (ev != 0) = true := by simpa using he
    have he2 : (ev == 0) = false := by simpa using he
    have he3 : (ev == ev) = true := by simp
    go_wp2_with fail
    refine (Values_is (n := 0) (by omega) K2.out.2.2 K2.out.2.1 K2.out.1.2 rfl rfl HV.out rfl).mono ?_
    rintro e w3 ⟨A', c3, rfl, hI, hb⟩
    have K3 := Lib.hid (K2.out.step hb)
    clear hb hI
    go_wp2_with fail
    go_loopg [10] (m + 1) (fun g i wr => ∃ k : Nat, k + g = m + 1 ∧ k ≤ m ∧ i = .int .i64 k ∧ Hid (Kept w A A1 A2 ds ps wr))
    case atStart => exact ⟨0, by omega, by omega, rfl, K3⟩
    case round =>
      obtain ⟨k, hkg, hkm, rfl, KR⟩ := hrel
      have HK := Lib.hid hkg
      clear hkg
      have hlt : k < ds.length := by omega
      have hsome : ds[k]? = some ds[k] := List.getElem?_eq_getElem hlt
      have hcase : (k < m ∧ (val ds[k].1 ds[k].2 ps).2 = 0) ∨ (k = m ∧ (val ds[k].1 ds[k].2 ps).2 = ev) := by
        by_cases h : k < m
        · exact .inl ⟨h, Q.out.2.2 k _ h hsome⟩
        · have hkm2 : k = m := by omega
          subst hkm2
          have : ds[k] = d := Option.some.inj (hsome.symm.trans Q.out.1)
          exact .inr ⟨rfl, by rw [this]; exact Q.out.2.1⟩
      generalize ds[k] = d' at hsome hcase
      obtain ⟨s, n⟩ := d'
      obtain ⟨b, off, rfl, hbl, c0, c1⟩ := KR.out.2.2 k (s, n) hsome
      simp only at c0 c1 hcase
      clear hsome
      rcases hvx : val s n ps with ⟨x, ex⟩
      rw [hvx] at hcase
      simp only at hcase
      have HVX := Lib.hid hvx
      clear hvx
      have hi1 : (k : Int) < (ds.length : Int) := by omega
      have hi0 : (0 : Int) ≤ (k : Int) := by omega
      rcases hcase with ⟨h1, rfl⟩ | ⟨h1, rfl⟩
      · go_wp2_with fail
        refine (Value_is KR.out.2.1 KR.out.1.2 rfl HVX.out).mono ?_
        rintro e w4 ⟨rfl, hb⟩
        have K4 := Lib.hid (KR.out.step hb)
        clear hb
        go_wp2
        go_roundg (gk - 1)
        case measure => have := HK.out; omega
        case rel => exact ⟨k + 1, by have := HK.out; omega, by omega, by go_num, K4⟩
      · have HKM := Lib.hid h1
        clear h1
        go_wp2_with fail
        refine (Value_is KR.out.2.1 KR.out.1.2 rfl HVX.out).mono ?_
        rintro e w4 ⟨rfl, hb⟩
        have K4 := Lib.hid (KR.out.step hb)
        clear hb
        go_wp2
        go_ret
        exact ⟨rfl, K4.out.1.1⟩
end Go.Proofs.YtkbfediolicfaaaDoor
