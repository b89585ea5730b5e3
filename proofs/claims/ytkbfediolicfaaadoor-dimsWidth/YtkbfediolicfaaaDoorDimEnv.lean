/-
  proofmarklaw04.Env AND head, WALKED.
-/
import Derived.Test.YtkbfediolicfaaaDoorDimVals
namespace Go.Proofs.YtkbfediolicfaaaDoor
open Go.RowKit
open DimM

def scells (xs : List ByteArray) : List Value := xs.map Value.string
theorem scells_snoc (xs : List ByteArray) (x : ByteArray) : scells (xs ++ [x]) = scells xs ++ [.string x] := by simp [scells]
theorem info9 : (Tryd.prog.info? 9).map (fun i => (i.zero, i.size, i.bytes)) = some (some (.string ⟨#[]⟩), 1, 16) := by kernel_rfl

theorem strs_of_own {w : World} {base n : Nat} {v : Value} {xs : List ByteArray} (h : w.ownsRow base 9 1 v n (scells xs)) (hn : xs.length = n) : ∃ A c, v = .slice A n c ∧ Strs w w.heap.size A xs := by
  rcases h.2 with ⟨rfl, h0⟩ | ⟨g, cap, cur, rfl, hb, hh, hn', hc, hsz, ht⟩
  · refine ⟨none, 0, by rw [h0], ?_⟩
    intro i t hi
    rw [List.eq_nil_of_length_eq_zero (hn.trans h0)] at hi
    simp at hi
  · refine ⟨some ⟨g, 0, none⟩, cap, rfl, ?_⟩
    intro i t hi
    have hil : i < n := by have := (List.getElem?_eq_some_iff.1 hi).1; omega
    refine ⟨g, 0, rfl, heap_lt hh, ?_⟩
    rw [cellAt hh]
    have : (scells xs)[i]? = some (.string t) := by simp [scells, hi]
    rw [← ht, List.getElem?_take_of_lt (by omega)] at this
    simpa using this

theorem own_ne {w : World} {b b' s s' n n' : Nat} {e e' : TypeId} {v v' : Value} {xs xs' : List Value} (h : w.ownsRow b e s v n xs) (h' : w.ownsRow b' e' s' v' n' xs') (hne : e ≠ e') : v.ownBlock = none ∨ v.ownBlock ≠ v'.ownBlock := by
  rcases h.2 with ⟨rfl, _⟩ | ⟨g, cap, cur, rfl, _, hh, _⟩
  · exact .inl rfl
  · right
    rcases h'.2 with ⟨rfl, _⟩ | ⟨g', cap', cur', rfl, _, hh', _⟩
    · intro e; cases e
    · intro e
      have hg : g = g' := Option.some.inj e
      subst hg
      have := hh.symm.trans hh'
      injection this with h1
      injection h1 with _ h2
      exact hne h2

def EnvRel (w : World) (ps : Ps) (g : Nat) (v u i : Value) (wr : World) : Prop :=
  ∃ k : Nat, k + g = ps.length ∧ i = .int .i64 k ∧ Hid (wr.ownsRow w.heap.size 9 1 v k (scells ((ps.take k).map Prod.fst))) ∧ Hid (wr.ownsRow w.heap.size 3 1 u k (icells ((ps.take k).map Prod.snd))) ∧ Hid (Below w.heap.size w wr)

def EnvRet (w : World) (ps : Ps) (e : Ending) (w' : World) : Prop := ∃ A1 c1 A2 c2, e = .returned (.tuple #[.slice A1 ps.length c1, .slice A2 ps.length c2]) ∧ EnvAt w' A1 A2 ps ∧ Below w.heap.size w w'

theorem take_map_snoc {α β : Type} (f : α → β) {l : List α} {k : Nat} {x : α} (h : l[k]? = some x) : (l.take (k + 1)).map f = (l.take k).map f ++ [f x] := by
  rw [List.take_add_one, h]; simp

set_option maxRecDepth 100000 in
set_option maxHeartbeats 1000000 in
theorem Env_any (A : Option Addr) (c : Nat) (ps : Ps) (w : World) (hd : ps.length ≤ 1000) (hD : Hid (Nmd w w.heap.size A ps)) (hl : Hid (Fine ps)) :
    Calls Tryd.prog 11 #[.slice A ps.length c] w (EnvRet w ps) := by
  obtain ⟨i0, hi, hz0, hz1, hz2⟩ := info_parts info3
  have HI := Lib.hid (And.intro hi (And.intro hz0 (And.intro hz1 hz2)))
  clear hi hz0 hz1 hz2
  obtain ⟨i9, hi, hz0, hz1, hz2⟩ := info_parts info9
  have HI9 := Lib.hid (And.intro hi (And.intro hz0 (And.intro hz1 hz2)))
  clear hi hz0 hz1 hz2
  go_enter Tryd.func11, Tryd.ntmps11
  go_wp2
  go_loopg [4, 5, 6] ps.length (fun g v u i wr => EnvRel w ps g v u i wr)
  case atStart => exact ⟨0, by omega, rfl, Lib.hid (World.ownsRow_nil _ _ _ _), Lib.hid (World.ownsRow_nil _ _ _ _), Lib.hid (Below.refl _ _)⟩
  case round =>
    obtain ⟨k, hkg, rfl, HO, HU, HW⟩ := hrel
    have HK := Lib.hid hkg
    have hkl : k ≤ ps.length := by omega
    clear hkg
    by_cases hlt : k < ps.length
    · have hsome : ps[k]? = some ps[k] := List.getElem?_eq_getElem hlt
      have hfine := hl.out _ (List.mem_of_getElem? hsome)
      have HS := Lib.hid hsome
      obtain ⟨b, off, rfl, hbl, c0, c1⟩ := (hD.out.below HW.out) k _ hsome
      clear hsome
      generalize ps[k] = d at HS hfine c0 c1
      obtain ⟨s, n⟩ := d
      simp only at c0 c1 hfine
      obtain ⟨hn0, hn1⟩ := hfine
      have hi1 : (k : Int) < (ps.length : Int) := by omega
      have hi0 : (0 : Int) ≤ (k : Int) := by omega
      have hws := HW.out.size
      go_wp2_with (first
          | (at_builtin; refine wpList_append_own _ rfl _ _ 27 rfl w.heap.size 9 i9 (.string ⟨#[]⟩) 1 16 Tryd.underlying27 HI9.out.1 HI9.out.2.1 HI9.out.2.2.1 HI9.out.2.2.2 rfl (by decide) _ _ _ rfl (HO.out.alloc _) ⟨wr.heap.size, 0, none⟩ 1 1 [.string s] rfl rfl (int_new _ _ _) (fun x hx => by simp at hx; subst hx; rfl) (by unfold maxLen; omega) (by omega) (by simp; omega) ?_; intro v' w3 hown' hgrow3 hnil3;
             have HO3 := Lib.hid hown'; have HB3 := Lib.hid (app_row HO.out HW.out hgrow3); have HU3 := Lib.hid ((HU.out.alloc (.cells #[.string s] 9)).kept hgrow3 (own_ne HU.out HO.out (by decide)));
             have d1 := ((HB3.out.cell (p := ⟨b, off + k * 2 + 1, none⟩) hbl).trans (HW.out.cell (p := ⟨b, off + k * 2 + 1, none⟩) hbl).symm).trans c1; have hws3 := HB3.out.size; clear hown' hgrow3 hnil3)
          | (at_builtin; refine wpList_append_own _ rfl _ _ 28 rfl w.heap.size 3 i0 (.int .i64 0) 1 8 Tryd.underlying28 HI.out.1 HI.out.2.1 HI.out.2.2.1 HI.out.2.2.2 rfl (by decide) _ _ _ rfl (HU3.out.alloc _) ⟨w3.heap.size, 0, none⟩ 1 1 [.int .i64 n] rfl rfl (int_new _ _ _) (fun x hx => by simp at hx; subst hx; rfl) (by unfold maxLen; omega) (by omega) (by simp; omega) ?_; intro u' w4 hown' hgrow3 hnil3;
             have HU4 := Lib.hid hown'; have HB4 := Lib.hid (app_row HU3.out HB3.out hgrow3); have HO4 := Lib.hid ((HO3.out.alloc (.cells #[.int .i64 n] 3)).kept hgrow3 (own_ne HO3.out HU3.out (by decide))); clear hown' hgrow3 hnil3))
      go_roundg (gk - 1)
      case measure => have := HK.out; omega
      case rel =>
        refine ⟨k + 1, by have := HK.out; omega, by go_num, Lib.hid ?_, Lib.hid ?_, HB4⟩
        · rw [take_map_snoc _ HS.out, scells_snoc]; exact HO4.out
        · rw [take_map_snoc _ HS.out, icells_snoc]; exact HU4.out
    · have hk : k = ps.length := by omega
      have HKL := Lib.hid hk
      have ht : ps.take k = ps := List.take_of_length_le (by omega)
      have ho := HO.out
      have hu := HU.out
      rw [ht] at ho hu
      obtain ⟨A1, c1, rfl, h1⟩ := strs_of_own ho (by simp; omega)
      obtain ⟨A2, c2, rfl, h2⟩ := ints_of_own hu (by simp; omega)
      have H1 := Lib.hid h1
      have H2 := Lib.hid h2
      clear h1 h2 ho hu ht hk
      go_wp2
      go_ret2
      exact ⟨A1, c1, A2, c2, by rw [← HKL.out]; rfl, ⟨hd, hl.out, H1.out, H2.out⟩, HW.out⟩
end Go.Proofs.YtkbfediolicfaaaDoor
