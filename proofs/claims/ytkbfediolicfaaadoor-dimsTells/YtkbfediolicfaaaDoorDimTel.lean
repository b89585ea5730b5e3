/-
  THE DOCUMENT's ANSWER TO LAYER 4, ITS Width AND Values, AND THE LAW DimsTells, WALKED.
-/
import Derived.Test.YtkbfediolicfaaaDoorDimRef
namespace Go.Proofs.YtkbfediolicfaaaDoor
open Go.RowKit
open DimM

theorem RefValue_is {s : ByteArray} {n x e : Int} {A1 A2 : Option Addr} {c1 c2 k : Nat} {l : Ps} {w : World} (hE : EnvAt w A1 A2 l) (hk : l.length = k) (hv : val s n l = (x, e)) :
    Calls Tryd.prog 13 #[.agg #[.string s, .int .i64 n], .slice A1 k c1, .slice A2 k c2] w fun ev w' => ev = .returned (.tuple #[.int .i64 x, .int .i64 e]) ∧ Below w.heap.size w w' := by
  subst hk
  have := RefValue_any s n A1 A2 c1 c2 l w (Lib.hid hE)
  rw [hv] at this
  exact this

set_option maxRecDepth 100000 in
set_option maxHeartbeats 2000000 in
theorem RefWidth_any (s : ByteArray) (n : Int) (A1 A2 : Option Addr) (c1 c2 : Nat) (l : Ps) (w : World) (hE : Hid (EnvAt w A1 A2 l)) :
    Calls Tryd.prog 15 #[.agg #[.string s, .int .i64 n], .slice A1 l.length c1, .slice A2 l.length c2] w (RefRet w (wid s n l)) := by
  have hb0 : Below w.heap.size w (w.alloc (.cells #[.string s, .int .i64 n] 23)) := (Below.refl _ _).alloc (Nat.le_refl _) _
  have E0 := Lib.hid (hE.out.below hb0)
  have B0 := Lib.hid hb0
  clear hb0
  rcases hv : val s n l with ⟨x, e⟩
  have HV := Lib.hid hv
  clear hv
  by_cases he : e = 0
  · subst he
    by_cases hx : 1 ≤ x ∧ x ≤ 16
    · rw [wid_of HV.out hx.1 hx.2]
      have h1 : ¬ x < 1 := by omega
      have h2 : ¬ 16 < x := by omega
      clear hx
      go_enter Tryd.func15, Tryd.ntmps15
      go_wp2_with fail
      refine (RefValue_is E0.out rfl HV.out).mono ?_
      rintro e w1 ⟨rfl, hb⟩
      have B1 := Lib.hid (B0.out.trans (hb.mono B0.out.size))
      clear hb
      go_wp2
      go_ret2
      exact ⟨rfl, B1.out⟩
    · rw [wid_out HV.out hx]
      have hx' : x < 1 ∨ (¬ x < 1 ∧ 16 < x) := by omega
      clear hx
      go_enter Tryd.func15, Tryd.ntmps15
      go_wp2_with fail
      refine (RefValue_is E0.out rfl HV.out).mono ?_
      rintro e w1 ⟨rfl, hb⟩
      have B1 := Lib.hid (B0.out.trans (hb.mono B0.out.size))
      clear hb
      rcases hx' with h1 | ⟨h1, h2⟩
      · go_wp2
        go_ret2
        exact ⟨rfl, B1.out⟩
      · go_wp2
        go_ret2
        exact ⟨rfl, B1.out⟩
  · rw [wid_err HV.out he]
    have he1 : (e != 0) = true := by simpa using he
    have he2 : (e == 0) = false := by simpa using he
    go_enter Tryd.func15, Tryd.ntmps15
    go_wp2_with fail
    refine (RefValue_is E0.out rfl HV.out).mono ?_
    rintro e' w1 ⟨rfl, hb⟩
    have B1 := Lib.hid (B0.out.trans (hb.mono B0.out.size))
    clear hb
    go_wp2
    go_ret2
    exact ⟨rfl, B1.out⟩
theorem RefWidth_is {s : ByteArray} {n x e : Int} {A1 A2 : Option Addr} {c1 c2 k : Nat} {l : Ps} {w : World} (hE : EnvAt w A1 A2 l) (hk : l.length = k) (hv : wid s n l = (x, e)) :
    Calls Tryd.prog 15 #[.agg #[.string s, .int .i64 n], .slice A1 k c1, .slice A2 k c2] w fun ev w' => ev = .returned (.tuple #[.int .i64 x, .int .i64 e]) ∧ Below w.heap.size w w' := by
  subst hk
  have := RefWidth_any s n A1 A2 c1 c2 l w (Lib.hid hE)
  rw [hv] at this
  exact this

theorem own_below {w wr w1 : World} {e : TypeId} {size n : Nat} {v : Value} {xs : List Value} (h : wr.ownsRow w.heap.size e size v n xs) (hb : Below wr.heap.size wr w1) : w1.ownsRow w.heap.size e size v n xs := by
  refine ⟨h.1, ?_⟩
  rcases h.2 with h0 | ⟨g, cap, cur, hv, hg, hh, h1⟩
  · exact .inl h0
  · exact .inr ⟨g, cap, cur, hv, hg, (hb.block g (heap_lt hh)).trans hh, h1⟩

set_option maxRecDepth 100000 in
set_option maxHeartbeats 2000000 in
theorem RefValues_any (A : Option Addr) (c : Nat) (ds : List (ByteArray × Int)) (A1 A2 : Option Addr) (c1 c2 : Nat) (l : Ps) (w : World) (hd : ds.length ≤ 1000) (hD : Hid (Dms w w.heap.size A ds)) (hE : Hid (EnvAt w A1 A2 l)) :
    Calls Tryd.prog 17 #[.slice A ds.length c, .slice A1 l.length c1, .slice A2 l.length c2] w (RowRet w (vals l ds).1 (.int .i64 (vals l ds).2)) := by
  obtain ⟨i0, hi, hz0, hz1, hz2⟩ := info_parts info3
  have HI := Lib.hid (And.intro hi (And.intro hz0 (And.intro hz1 hz2)))
  clear hi hz0 hz1 hz2
  go_enter Tryd.func17, Tryd.ntmps17
  go_wp2
  go_loopg [8, 9] ds.length (fun g v i wr => ValsRel w l ds g v i wr)
  case atStart => exact ⟨0, [], by omega, rfl, Lib.hid rfl, Lib.hid (World.ownsRow_nil _ _ _ _), Lib.hid (Below.refl _ _), Lib.hid (by rw [List.drop_zero]; exact join_nil l ds)⟩
  case round =>
    obtain ⟨k, xs, hkg, rfl, HX, HO, HW, HJ⟩ := hrel
    have HK := Lib.hid hkg
    have hkl : k ≤ ds.length := by omega
    clear hkg
    by_cases hlt : k < ds.length
    · have hsome : ds[k]? = some ds[k] := List.getElem?_eq_getElem hlt
      have hdrop := List.drop_eq_getElem_cons hlt
      have HD := Lib.hid hdrop
      clear hdrop
      generalize ds[k] = d at hsome HD
      obtain ⟨s, n⟩ := d
      obtain ⟨b, off, rfl, hbl, c0, c1⟩ := (hD.out.below HW.out) k (s, n) hsome
      clear hsome
      simp only at c0 c1
      have hi1 : (k : Int) < (ds.length : Int) := by omega
      have hi0 : (0 : Int) ≤ (k : Int) := by omega
      have hws := HW.out.size
      rcases hv : val s n l with ⟨x, e⟩
      have HV := Lib.hid hv
      clear hv
      by_cases he : e = 0
      · subst he
        go_wp2_with fail
        refine (RefValue_is (hE.out.below HW.out) rfl HV.out).mono ?_
        rintro e w1 ⟨rfl, hb⟩
        have O1 := Lib.hid (own_below HO.out hb)
        have B1 := Lib.hid (HW.out.trans (hb.mono hws))
        have hws1 := B1.out.size
        clear hb
        go_wp2_with (first
          | (at_builtin; refine wpList_append_own _ rfl _ _ 28 rfl w.heap.size 3 i0 (.int .i64 0) 1 8 Tryd.underlying28 HI.out.1 HI.out.2.1 HI.out.2.2.1 HI.out.2.2.2 rfl (by decide) _ _ _ rfl (O1.out.alloc _) ⟨w1.heap.size, 0, none⟩ 1 1 [.int .i64 x] rfl rfl (int_new _ _ _) (fun x hx => by simp at hx; subst hx; rfl) (by unfold maxLen; omega) (by omega) (by simp; omega) ?_; intro v' w3 hown' hgrow3 hnil3; have HO3 := Lib.hid hown'; have HB3 := Lib.hid (app_row O1.out B1.out hgrow3); clear hown' hgrow3 hnil3))
        go_roundg (gk - 1)
        case measure => have := HK.out; omega
        case rel =>
          refine ⟨k + 1, xs ++ [x], by have := HK.out; omega, by go_num, Lib.hid (by rw [List.length_append, HX.out]; rfl), Lib.hid (by rw [icells_snoc]; exact HO3.out), HB3, Lib.hid ?_⟩
          rw [← HJ.out, HD.out, join_step (d := (s, n)) xs HV.out]
      · have he1 : (e != 0) = true := by simpa using he
        have he2 : (e == 0) = false := by simpa using he
        go_wp2_with fail
        refine (RefValue_is (hE.out.below HW.out) rfl HV.out).mono ?_
        rintro e' w1 ⟨rfl, hb⟩
        have B1 := Lib.hid (HW.out.trans (hb.mono hws))
        clear hb
        go_wp2
        go_ret2
        have hj := join_err (d := (s, n)) (r := ds.drop (k + 1)) xs HV.out he
        rw [← HD.out, HJ.out] at hj
        rw [hj]
        exact ⟨none, 0, rfl, fun i t ht => by simp at ht, B1.out⟩
    · have hk : k = ds.length := by omega
      have HKL := Lib.hid hk
      clear hk
      obtain ⟨A', c', rfl, hI⟩ := ints_of_own HO.out HX.out
      have HI' := Lib.hid hI
      clear hI
      go_wp2
      go_ret2
      have hj := HJ.out
      rw [List.drop_of_length_le (by have := HKL.out; omega), join_end] at hj
      rw [← hj]
      exact ⟨A', c', by rw [HX.out]; rfl, HI'.out, HW.out⟩
theorem RefValues_is {A : Option Addr} {c kd n : Nat} {ds : List (ByteArray × Int)} {xs : List Int} {e : Int} {A1 A2 : Option Addr} {c1 c2 k : Nat} {l : Ps} {w : World} (hd : ds.length ≤ 1000) (hD : Dms w w.heap.size A ds) (hE : EnvAt w A1 A2 l) (hkd : ds.length = kd) (hk : l.length = k) (hv : vals l ds = (xs, e)) (hn : xs.length = n) :
    Calls Tryd.prog 17 #[.slice A kd c, .slice A1 k c1, .slice A2 k c2] w (RowGot w xs n e) := by
  subst hk hkd hn
  have := RefValues_any A c ds A1 A2 c1 c2 l w hd (Lib.hid hD) (Lib.hid hE)
  rw [hv] at this
  exact this
def Tk (w0 : World) (s : ByteArray) (n : Int) (A A1 A2 : Option Addr) (ds : List (ByteArray × Int)) (ps : Ps) (w : World) : Prop := Nk w0 s n A1 A2 ps w ∧ Dms w w.heap.size A ds
theorem Tk.step {w0 w w' : World} {s : ByteArray} {n : Int} {A A1 A2 : Option Addr} {ds : List (ByteArray × Int)} {ps : Ps} (h : Tk w0 s n A A1 A2 ds ps w) (hb : Below w.heap.size w w') : Tk w0 s n A A1 A2 ds ps w' :=
  ⟨h.1.step hb, (h.2.below hb).more hb.size⟩
theorem vals_len (l : Ps) (ds : List (ByteArray × Int)) : (vals l ds).1.length ≤ ds.length := by
  by_cases h : (vals l ds).2 = 0
  · exact Nat.le_of_eq (vals_ok l ds h).1
  · rw [vals_err h]; exact Nat.zero_le _

set_option maxRecDepth 100000 in
set_option maxHeartbeats 4000000 in
theorem tells_walk (s : ByteArray) (n : Int) (B : Option Addr) (len2 c' : Nat) (ds : List (ByteArray × Int)) (A : Option Addr) (len c : Nat) (ps : Ps) (w : World) (hdl : ds.length = len2) (hdm : len2 ≤ maxLen) (hD : Hid (Dms w w.heap.size B ds)) (hl : ps.length = len) (hm : len ≤ maxLen) (hP : Hid (Nmd w w.heap.size A ps)) (hF : Hid (Fine ps)) (hg : Hid (ErrTy w)) :
    Calls Tryd.prog 3 #[.agg #[.string s, .int .i64 n], .slice B len2 c', .slice A len c] w fun e w' => e = .returned (.bool true) ∧ Below w.heap.size w w' := by
  subst hl hdl
  unfold maxLen at hm hdm
  have hb0 : Below w.heap.size w (w.alloc (.cells #[.string s, .int .i64 n] 23)) := (Below.refl _ _).alloc (Nat.le_refl _) _
  have S0 := Lib.hid (Sta.step (Sta.refl hg.out) hb0)
  have P0 := Lib.hid ((hP.out.below hb0).more hb0.size)
  have D0 := Lib.hid ((hD.out.below hb0).more hb0.size)
  clear hb0
  by_cases hlen : 100 < ds.length
  · go_enter Tryd.func3, Tryd.ntmps3
    go_wp2_with fail
    refine (head_any _ (Lib.hid S0.out.2)).mono ?_
    rintro e w1 ⟨rfl, hb⟩
    have S1 := Lib.hid (S0.out.step hb)
    clear hb
    go_wp2
    go_ret
    exact ⟨rfl, S1.out.1⟩
  by_cases hlen2 : 100 < ps.length
  · go_enter Tryd.func3, Tryd.ntmps3
    go_wp2_with fail
    refine (head_any _ (Lib.hid S0.out.2)).mono ?_
    rintro e w1 ⟨rfl, hb⟩
    have S1 := Lib.hid (S0.out.step hb)
    clear hb
    go_wp2
    go_ret
    exact ⟨rfl, S1.out.1⟩
  rcases hv : val s n ps with ⟨x, ev⟩
  rcases hw : wid s n ps with ⟨y, ew⟩
  rcases hvs : vals ps ds with ⟨xs, es⟩
  have hxl : xs.length ≤ 100 := by have := vals_len ps ds; rw [hvs] at this; simp only at this; omega
  have HV := Lib.hid hv
  have HW := Lib.hid hw
  have HS := Lib.hid hvs
  clear hv hw hvs
  have hx : (x == x) = true := by simp
  have hy : (y == y) = true := by simp
  have hev : (ev == ev) = true := by simp
  have hew : (ew == ew) = true := by simp
  have hes : (es == es) = true := by simp
  go_enter Tryd.func3, Tryd.ntmps3
  go_wp2_with fail
  refine (head_any _ (Lib.hid S0.out.2)).mono ?_
  rintro e w1 ⟨rfl, hb⟩
  have d0 : w1.cell? ⟨w.heap.size, 0, none⟩ = some (.string s) := by rw [hb.cell (p := ⟨w.heap.size, 0, none⟩) (by simp)]; simp
  have d1 : w1.cell? ⟨w.heap.size, 1, none⟩ = some (.int .i64 n) := by rw [hb.cell (p := ⟨w.heap.size, 1, none⟩) (by simp)]; simp
  have hs1 : w.heap.size < w1.heap.size := by have := hb.size; simp at this; omega
  have S1 := Lib.hid (S0.out.step hb)
  have P1 := Lib.hid ((P0.out.below hb).more hb.size)
  have D1 := Lib.hid ((D0.out.below hb).more hb.size)
  clear hb
  go_wp2_with fail
  refine (Env_any A c ps w1 (by omega) P1 hF).mono ?_
  rintro e w2 ⟨A1, c1, A2, c2, rfl, hE, hb⟩
  have hsz := hb.size
  have K2 : Hid (Tk w s n B A1 A2 ds ps w2) := Lib.hid ⟨⟨S1.out.step hb, hE, by omega, (hb.cell (p := ⟨w.heap.size, 0, none⟩) hs1).trans d0, (hb.cell (p := ⟨w.heap.size, 1, none⟩) hs1).trans d1⟩, (D1.out.below hb).more hb.size⟩
  clear hb hE d0 d1 hsz
  obtain ⟨⟨_, _, _, d0, d1⟩, _⟩ := K2.out
  go_wp2_with fail
  refine (Value_is K2.out.1.2.1 K2.out.1.1.2 rfl HV.out).mono ?_
  rintro e w3 ⟨rfl, hb⟩
  have K3 := Lib.hid (K2.out.step hb)
  clear hb d0 d1
  obtain ⟨⟨_, _, _, d0, d1⟩, _⟩ := K3.out
  go_wp2_with fail
  refine (RefValue_is K3.out.1.2.1 rfl HV.out).mono ?_
  rintro e w4 ⟨rfl, hb⟩
  have K4 := Lib.hid (K3.out.step hb)
  clear hb d0 d1
  obtain ⟨⟨_, _, _, d0, d1⟩, _⟩ := K4.out
  go_wp2_with fail
  refine (Width_is K4.out.1.2.1 K4.out.1.1.2 rfl HW.out).mono ?_
  rintro e w5 ⟨rfl, hb⟩
  have K5 := Lib.hid (K4.out.step hb)
  clear hb d0 d1
  obtain ⟨⟨_, _, _, d0, d1⟩, _⟩ := K5.out
  go_wp2_with fail
  refine (RefWidth_is K5.out.1.2.1 rfl HW.out).mono ?_
  rintro e w6 ⟨rfl, hb⟩
  have K6 := Lib.hid (K5.out.step hb)
  clear hb d0 d1
  obtain ⟨⟨_, _, _, d0, d1⟩, _⟩ := K6.out
  go_wp2_with fail
  refine (Values_is (by omega) K6.out.2 K6.out.1.2.1 K6.out.1.1.2 rfl rfl HS.out rfl).mono ?_
  rintro e w7 ⟨A7, c7, rfl, hI, hb⟩
  have K7 := Lib.hid (K6.out.step hb)
  have I7 := Lib.hid hI
  clear hb d0 d1 hI
  go_wp2_with fail
  refine (RefValues_is (by omega) K7.out.2 K7.out.1.2.1 rfl rfl HS.out rfl).mono ?_
  rintro e w8 ⟨A8, c8, rfl, hI, hb⟩
  have K8 := Lib.hid (K7.out.step hb)
  have I8 := Lib.hid ((I7.out.below hb).more hb.size)
  have J8 := Lib.hid hI
  clear hb hI
  go_wp2_with fail
  refine (Same_is (B := w8.heap.size) rfl (by omega) I8.out J8.out).mono ?_
  rintro e w9 ⟨rfl, n9, rfl⟩
  go_wp2
  go_ret
  exact ⟨rfl, below_drewN K8.out.1.1.1 _⟩
end Go.Proofs.YtkbfediolicfaaaDoor
