/-
  dims.Values, WALKED.
-/
import Derived.Test.YtkbfediolicfaaaDoorDimTop
namespace Go.Proofs.YtkbfediolicfaaaDoor
open Go.RowKit
open DimM

def icells (xs : List Int) : List Value := xs.map (Value.int .i64)
theorem icells_snoc (xs : List Int) (x : Int) : icells (xs ++ [x]) = icells xs ++ [.int .i64 x] := by simp [icells]
theorem info3 : (Tryd.prog.info? 3).map (fun i => (i.zero, i.size, i.bytes)) = some (some (.int .i64 0), 1, 8) := by kernel_rfl
theorem info_parts {t : TypeId} {z : Value} {n b : Nat} (h : (Tryd.prog.info? t).map (fun i => (i.zero, i.size, i.bytes)) = some (some z, n, b)) : ∃ i, Tryd.prog.info? t = some i ∧ i.zero = some z ∧ i.size = n ∧ i.bytes = b := by
  obtain ⟨i, hi, he⟩ := Option.map_eq_some_iff.1 h
  simp only [Prod.mk.injEq] at he
  exact ⟨i, hi, he.1, he.2.1, he.2.2⟩
theorem cellAt {w : World} {b : Nat} {cs : Array Value} {T : TypeId} {fr : Nat × Nat} (hb : w.heap[b]? = some (.cells cs T fr)) (j : Nat) : w.cell? ⟨b, j, none⟩ = cs[j]? := by
  simp [World.cell?, hb]
theorem heap_lt {w : World} {g : Nat} {o : Obj} (h : w.heap[g]? = some o) : g < w.heap.size := (Array.getElem?_eq_some_iff.1 h).1

theorem ints_of_own {w : World} {base n : Nat} {v : Value} {xs : List Int} (h : w.ownsRow base 3 1 v n (icells xs)) (hn : xs.length = n) : ∃ A c, v = .slice A n c ∧ Ints w w.heap.size A xs := by
  rcases h.2 with ⟨rfl, h0⟩ | ⟨g, cap, cur, rfl, hb, hh, hn', hc, hsz, ht⟩
  · refine ⟨none, 0, by rw [h0], ?_⟩
    intro i t hi
    rw [List.eq_nil_of_length_eq_zero (hn.trans h0)] at hi
    simp at hi
  · refine ⟨some ⟨g, 0, none⟩, cap, rfl, ?_⟩
    intro i t hi
    have hil : i < n := by have := (List.getElem?_eq_some_iff.1 hi).1; omega
    refine ⟨g, 0, rfl, heap_lt hh, ?_⟩
    rw [cellAt hh]
    have : (icells xs)[i]? = some (.int .i64 t) := by simp [icells, hi]
    rw [← ht, List.getElem?_take_of_lt (by omega)] at this
    simpa using this

def RowRet (w : World) (xs : List Int) (ev : Value) (e : Ending) (w' : World) : Prop := ∃ A c, e = .returned (.tuple #[.slice A xs.length c, ev]) ∧ Ints w' w'.heap.size A xs ∧ Below w.heap.size w w'

theorem int_new (w : World) (x : Value) (t : TypeId) : ∀ j u, [x][j]? = some u → (w.alloc (.cells #[x] t)).cell? ((⟨w.heap.size, 0, none⟩ : Addr).add j) = some u := by
  intro j u hj
  match j, hj with
  | 0, hj => simp at hj; subst hj; simp [Addr.add]
  | j + 1, hj => simp at hj

theorem app_row {w wr w3 : World} {e : TypeId} {v : Value} {n : Nat} {xs : List Value} {o : Obj} (hown : wr.ownsRow w.heap.size e 1 v n xs) (hbw : Below w.heap.size w wr)
    (hg : (wr.alloc o).grownBy w3 v.ownBlock) : Below w.heap.size w w3 := by
  have hbsz := hbw.size
  exact (hbw.alloc hbsz _).grown hg (by simp; omega) (fun q hq => (hown.lt q hq).1)

def ValsRel (w : World) (l : Ps) (ds : List (ByteArray × Int)) (g : Nat) (v i : Value) (wr : World) : Prop :=
  ∃ (k : Nat) (xs : List Int), k + g = ds.length ∧ i = .int .i64 k ∧ Hid (xs.length = k) ∧ Hid (wr.ownsRow w.heap.size 3 1 v k (icells xs)) ∧ Hid (Below w.heap.size w wr) ∧ Hid (join xs (vals l (ds.drop k)) = vals l ds)

set_option maxRecDepth 100000 in
set_option maxHeartbeats 1000000 in
theorem values_any (A : Option Addr) (c : Nat) (ds : List (ByteArray × Int)) (B g h : Nat) (l : Ps) (w : World) (hd : ds.length ≤ 1000) (hD : Hid (Dms w w.heap.size A ds)) (hB : B ≤ w.heap.size) (hF : Hid (Fnd w B g h l)) (hl : Hid (Fine l)) :
    Calls Tryd.prog 23 #[.slice A ds.length c, Fv g h] w (RowRet w (vals l ds).1 (errV (vals l ds).2)) := by
  obtain ⟨i0, hi, hz0, hz1, hz2⟩ := info_parts info3
  have HI := Lib.hid (And.intro hi (And.intro hz0 (And.intro hz1 hz2)))
  clear hi hz0 hz1 hz2
  go_enter Tryd.func23, Tryd.ntmps23
  go_wp2
  go_loopg [6, 13] ds.length (fun g v i wr => ValsRel w l ds g v i wr)
  case atStart => exact ⟨0, [], by omega, rfl, Lib.hid rfl, Lib.hid (World.ownsRow_nil _ _ _ _), Lib.hid (Below.refl _ _), Lib.hid (by rw [List.drop_zero]; exact join_nil l ds)⟩
  case round =>
    obtain ⟨k, xs, hkg, rfl, HX, HO, HW, HJ⟩ := hrel
    have HK := Lib.hid hkg
    have hkl : k ≤ ds.length := by omega
    clear hkg
    by_cases hlt : k < ds.length
    · have hsome : ds[k]? = some ds[k] := List.getElem?_eq_getElem hlt
      have hdrop := List.drop_eq_getElem_cons hlt
      have HD := Lib.hid hdrop
      clear hdrop
      generalize ds[k] = d at hsome HD
      obtain ⟨s, n⟩ := d
      obtain ⟨b, off, rfl, hbl, c0, c1⟩ := (hD.out.below HW.out) k (s, n) hsome
      clear hsome
      simp only at c0 c1
      have hi1 : (k : Int) < (ds.length : Int) := by omega
      have hi0 : (0 : Int) ≤ (k : Int) := by omega
      have hws := HW.out.size
      have HC := Lib.hid (value_any s n B g h l (wr.alloc (.cells #[.string s, .int .i64 n] 23)) (by simp; omega) (Lib.hid (hF.out.below ((HW.out.mono hB).alloc (by omega) _))) hl)
      generalize hv : val s n l = p at HC
      have HV := Lib.hid hv
      clear hv
      obtain ⟨x, e⟩ := p
      by_cases he : e = 0
      · subst he
        rw [errV_nil] at HC
        simp only at HC
        go_wp2_with fail
        refine HC.out.mono ?_
        rintro e w' ⟨rfl, rfl⟩
        go_wp2_with (first
          | (at_builtin; refine wpList_append_own _ rfl _ _ 28 rfl w.heap.size 3 i0 (.int .i64 0) 1 8 Tryd.underlying28 HI.out.1 HI.out.2.1 HI.out.2.2.1 HI.out.2.2.2 rfl (by decide) _ _ _ rfl (((HO.out.alloc _).alloc _).alloc _) ⟨wr.heap.size + 1 + 1, 0, none⟩ 1 1 [.int .i64 x] rfl rfl (fun j u hj => by have := int_new ((wr.alloc (.cells #[.string s, .int .i64 n] 23)).alloc (.cells #[.string s, .int .i64 n] 23)) (.int .i64 x) 3 j u hj; simpa using this) (fun x hx => by simp at hx; subst hx; rfl) (by unfold maxLen; omega) (by omega) (by simp; omega) ?_; intro v' w3 hown' hgrow3 hnil3; have HO3 := Lib.hid hown'; have HB3 := Lib.hid (app_row ((HO.out.alloc (.cells #[.string s, .int .i64 n] 23)).alloc (.cells #[.string s, .int .i64 n] 23)) ((HW.out.alloc hws _).alloc (by simp; omega) _) hgrow3); clear hown' hgrow3 hnil3))
        go_roundg (gk - 1)
        case measure => have := HK.out; omega
        case rel =>
          refine ⟨k + 1, xs ++ [x], by have := HK.out; omega, by go_num, Lib.hid (by rw [List.length_append, HX.out]; rfl), Lib.hid (by rw [icells_snoc]; exact HO3.out), HB3, Lib.hid ?_⟩
          rw [← HJ.out, HD.out, join_step (d := (s, n)) xs HV.out]
      · rw [errV_of he] at HC
        simp only at HC
        go_wp2_with fail
        refine HC.out.mono ?_
        rintro e w' ⟨rfl, rfl⟩
        go_wp2
        go_ret2
        have hj := join_err (d := (s, n)) (r := ds.drop (k + 1)) xs HV.out he
        rw [← HD.out, HJ.out] at hj
        rw [hj, errV_of he]
        exact ⟨none, 0, rfl, fun i t ht => by simp at ht, (HW.out.alloc hws _).alloc (by simp; omega) _⟩
    · have hk : k = ds.length := by omega
      have HKL := Lib.hid hk
      clear hk
      obtain ⟨A', c', rfl, hI⟩ := ints_of_own HO.out HX.out
      have HI' := Lib.hid hI
      clear hI
      go_wp2
      go_ret2
      have hj := HJ.out
      rw [List.drop_of_length_le (by have := HKL.out; omega), join_end] at hj
      rw [← hj, errV_nil]
      exact ⟨A', c', by rw [HX.out]; rfl, HI'.out, HW.out⟩

set_option maxRecDepth 100000 in
set_option maxHeartbeats 1000000 in
theorem Values_any (A : Option Addr) (c : Nat) (ds : List (ByteArray × Int)) (A1 A2 : Option Addr) (c1 c2 : Nat) (l : Ps) (w : World) (hd : ds.length ≤ 1000) (hD : Hid (Dms w w.heap.size A ds)) (hE : Hid (EnvAt w A1 A2 l)) (hg : Hid (ErrTy w)) :
    Calls Tryd.prog 16 #[.slice A ds.length c, .slice A1 l.length c1, .slice A2 l.length c2] w (RowRet w (vals l ds).1 (.int .i64 (vals l ds).2)) := by
  have hb : Below w.heap.size w ((w.alloc (.cells #[.slice A1 l.length c1] 27)).alloc (.cells #[.slice A2 l.length c2] 28)) := ((Below.refl _ _).alloc (Nat.le_refl _) _).alloc (by simp) _
  have HC := Lib.hid (values_any A c ds (w.heap.size + 2) w.heap.size (w.heap.size + 1) l ((w.alloc (.cells #[.slice A1 l.length c1] 27)).alloc (.cells #[.slice A2 l.length c2] 28)) hd (Lib.hid ((hD.out.below hb).more hb.size)) (by simp) (Lib.hid (Fnd_of hE.out (Below.refl _ _) rfl)) (Lib.hid hE.out.2.1))
  have HB := Lib.hid hb
  clear hb
  generalize vals l ds = p at HC
  obtain ⟨xs, e⟩ := p
  simp only
  simp only at HC
  generalize hev : errV e = ev at HC
  have HE := Lib.hid hev
  clear hev
  go_enter Tryd.func16, Tryd.ntmps16
  go_wp2_with fail
  refine (among_any _ _ _ _ _ _ _).mono ?_
  rintro e' w1 ⟨rfl, rfl⟩
  go_wp2_with fail
  refine HC.out.mono ?_
  rintro e' w2 ⟨A', c', rfl, hI, hb2⟩
  have HB2 := Lib.hid (HB.out.trans (hb2.mono HB.out.size))
  have HI := Lib.hid hI
  clear hb2 hI
  have HN := Lib.hid (errno_any e w2 (Lib.hid (hg.out.below HB2.out hg.out.pos)))
  rw [HE.out] at HN
  go_wp2_with fail
  refine HN.out.mono ?_
  rintro e' w3 ⟨rfl, hb3⟩
  have HB3 := Lib.hid hb3
  clear hb3
  go_wp2
  go_ret2
  exact ⟨A', c', rfl, (HI.out.below HB3.out).more HB3.out.size, HB2.out.trans (HB3.out.mono HB2.out.size)⟩

set_option maxRecDepth 100000 in
set_option maxHeartbeats 1000000 in
theorem SameInts_yes (A A' : Option Addr) (c c' B : Nat) (xs : List Int) (w : World) (hn : xs.length ≤ 1000) (hT : Hid (Ints w B A xs)) (hT' : Hid (Ints w B A' xs)) :
    Calls Tryd.prog 18 #[.slice A xs.length c, .slice A' xs.length c'] w fun e w' => e = .returned (.bool true) ∧ ∃ n, w' = w.drewN n := by
  have hne : ((xs.length : Int) != (xs.length : Int)) = false := by simp
  go_enter Tryd.func18, Tryd.ntmps18
  go_wp2
  go_loopg [5] xs.length (fun g i wr => ∃ k n : Nat, k + g = xs.length ∧ i = .int .i64 k ∧ Hid (wr = w.drewN n))
  case atStart => exact ⟨0, 0, by omega, rfl, Lib.hid rfl⟩
  case round =>
    obtain ⟨k, n, hkg, rfl, HW⟩ := hrel
    have HK := Lib.hid hkg
    have hkl : k ≤ xs.length := by omega
    clear hkg
    obtain rfl := HW.out
    by_cases hlt : k < xs.length
    · have hsome : xs[k]? = some xs[k] := List.getElem?_eq_getElem hlt
      generalize xs[k] = t at hsome
      obtain ⟨b, off, rfl, hbl, c0⟩ := hT.out k t hsome
      obtain ⟨b', off', rfl, hbl', c0'⟩ := hT'.out k t hsome
      clear hsome
      have heq : (t != t) = false := by simp
      have hi1 : (k : Int) < (xs.length : Int) := by omega
      have hi0 : (0 : Int) ≤ (k : Int) := by omega
      go_wp2
      go_quiet (fail)
      go_wp2
      go_roundg (gk - 1)
      case measure => have := HK.out; omega
      case rel => exact ⟨k + 1, n + nq, by have := HK.out; omega, by go_num, Lib.hid (by first | rfl | rw [World.drewN_drewN])⟩
    · go_wp2
      go_ret
      exact ⟨rfl, n, rfl⟩
end Go.Proofs.YtkbfediolicfaaaDoor
