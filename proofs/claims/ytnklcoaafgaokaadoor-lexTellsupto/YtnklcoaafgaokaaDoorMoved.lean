/-
  proofmarkref01.Moved, WALKED: tokens so much further, in a new row.
-/
import Derived.Test.YtnklcoaafgaokaaDoorErrorsWalk
import Derived.Test.YtnklcoaafgaokaaDoorLexMore
namespace Go.Proofs.YtnklcoaafgaokaaDoor
open Go.RowKit

/-- a new row of tokens -/
def GotRow (w : World) (ts : List LexM.Tk) (e : Ending) (w' : World) : Prop :=
  ∃ v, e = .returned v ∧ w'.ownsRow w.heap.size 33 4 v ts.length (rowOf ts) ∧ Below w.heap.size w w'

theorem own_empty (w : World) : (w.alloc (.cells #[] 33)).ownsRow w.heap.size 33 4 (.slice (some ⟨w.heap.size, 0, none⟩) 0 0) 0 [] :=
  ⟨rfl, .inr ⟨w.heap.size, 0, #[], rfl, Nat.le_refl _, heap_alloc_new w _, Nat.le_refl _, Nat.zero_le _, rfl, rfl⟩⟩
theorem cell_four_new2 (w : World) (o : Obj) (a b c d : Value) (t : TypeId) : ∀ j u, [a, b, c, d][j]? = some u → ((w.alloc o).alloc (.cells #[a, b, c, d] t)).cell? ((⟨w.heap.size + 1, 0, none⟩ : Addr).add j) = some u := by
  have h := cell_four_new (w.alloc o) a b c d t
  have e : (w.alloc o).heap.size = w.heap.size + 1 := by simp
  rw [e] at h
  exact h

set_option maxRecDepth 100000 in
set_option maxHeartbeats 1000000 in
theorem Moved_any (A : Option Addr) (c d : Nat) (ts : List LexM.Tk) (w : World) (hn : ts.length ≤ 20000) (hd : d ≤ 20000) (hp : Hid (∀ t ∈ ts, t.pos ≤ 20000)) (hT : Hid (Toks w w.heap.size A (ts.map gOf))) :
    Calls Tryd.prog 20 #[.slice A ts.length c, .int .i64 (d : Int)] w (GotRow w (ts.map (LexM.mv d))) := by
  obtain ⟨i0, hi, hz0, hz1, hz2⟩ := info_parts info33
  have HI := Lib.hid (And.intro hi (And.intro hz0 (And.intro hz1 hz2)))
  clear hi hz0 hz1 hz2
  go_enter Tryd.func20, Tryd.ntmps20
  go_wp2
  go_loopg [5, 6] ts.length (fun g v i wr => ∃ k : Nat, k + g = ts.length ∧ i = .int .i64 k ∧ Hid (wr.ownsRow w.heap.size 33 4 v ((ts.map (LexM.mv d)).take k).length (rowOf ((ts.map (LexM.mv d)).take k))) ∧ Hid (Below w.heap.size w wr))
  case atStart => exact ⟨0, by omega, rfl, Lib.hid (own_empty w), Lib.hid ((Below.refl _ _).alloc (Nat.le_refl _) _)⟩
  case round =>
    obtain ⟨k, hkg, rfl, HO, HW⟩ := hrel
    have HK := Lib.hid hkg
    clear hkg
    by_cases hlt : k < ts.length
    · have hsome : ts[k]? = some ts[k] := List.getElem?_eq_getElem hlt
      have hmem : ts[k] ∈ ts := List.getElem_mem hlt
      generalize ts[k] = t at hsome hmem
      have hpl := hp.out t hmem
      obtain ⟨b, off, rfl, hbl, c0, c1, c2, c3⟩ := (hT.out.below HW.out) k (gOf t) (by rw [List.getElem?_map, hsome]; rfl)
      simp only [gOf] at c0 c1 c2 c3
      have hst : (ts.map (LexM.mv d)).take (k + 1) = (ts.map (LexM.mv d)).take k ++ [LexM.mv d t] := by rw [List.take_add_one, List.getElem?_map, hsome]; rfl
      have hlk : ((ts.map (LexM.mv d)).take k).length = k := by rw [List.length_take, List.length_map]; omega
      have HSt := Lib.hid (And.intro hst hlk)
      clear hst hlk hsome hmem
      have s3 := HW.out.size
      have hown := HO.out
      rw [HSt.out.2] at hown
      have HO2 := Lib.hid hown
      clear hown
      go_wp2_with (at_builtin; refine wpList_append_own _ rfl _ _ 22 rfl w.heap.size 33 i0 (.agg #[.int .i64 0, .string ByteArray.empty, .int .i64 0, .int .i64 0]) 4 40 Tryd.underlying22 HI.out.1 HI.out.2.1 HI.out.2.2.1 HI.out.2.2.2 rfl (by decide) _ _ _ rfl ((HO2.out.alloc _).alloc _) ⟨wr.heap.size + 1, 0, none⟩ 1 1 [.int .i64 (t.kind : Int), .string (str t.text), .int .i64 (t.n : Int), .int .i64 ((t.pos : Int) + (d : Int))] rfl rfl (cell_four_new2 _ _ _ _ _ _ _) (fun x hx => by simp at hx; rcases hx with rfl | rfl | rfl | rfl <;> rfl) (by unfold maxLen; omega) (by omega) (by simp; omega) ?_; intro v' w3 hown' hgrow3 hnil3; have X := Lib.hid (And.intro hown' (((HW.out.alloc s3 _).alloc (by simp; omega) _).grown hgrow3 (by simp; omega) (fun q hq => (HO2.out.lt q hq).1))); clear hown' hgrow3 hnil3)
      go_roundg (gk - 1)
      case measure => have := HK.out; omega
      case rel => exact ⟨k + 1, by have := HK.out; omega, by go_num, Lib.hid (by rw [HSt.out.1, rowOf_snoc, List.length_append, HSt.out.2]; exact X.out.1), Lib.hid X.out.2⟩
    · have hl : (ts.map (LexM.mv d)).take k = ts.map (LexM.mv d) := List.take_of_length_le (by rw [List.length_map]; omega)
      have HL := Lib.hid hl
      clear hl
      go_wp2
      go_ret
      refine ⟨_, rfl, ?_, HW.out⟩
      have := HO.out
      rw [HL.out] at this
      exact this

/-- a new row of tokens, as the laws take it -/
def GotToks (w : World) (ts : List LexM.Tk) (len : Nat) (e : Ending) (w' : World) : Prop :=
  ∃ A c, e = .returned (.slice A len c) ∧ (len ≤ c ∧ c ≤ maxLen ∧ (A = none → len = 0 ∧ c = 0)) ∧ Toks w' w'.heap.size A (ts.map gOf) ∧ Below w.heap.size w w'
theorem Moved_of {A : Option Addr} {c d n : Nat} {ts us : List LexM.Tk} {w : World} {dd : Int} (h : ts.length = n) (hd : (d : Int) = dd) (hu : ts.map (LexM.mv d) = us) (hn : n ≤ 20000) (hdl : d ≤ 20000) (hp : ∀ t ∈ ts, t.pos ≤ 20000) (hT : Toks w w.heap.size A (ts.map gOf)) :
    Calls Tryd.prog 20 #[.slice A n c, .int .i64 dd] w (GotToks w us n) := by
  subst h hd hu
  refine (Moved_any A c d ts w hn hdl (Lib.hid hp) (Lib.hid hT)).mono ?_
  rintro e w' ⟨v, rfl, hown, hb⟩
  obtain ⟨A', c', rfl, hc, ht⟩ := toks_of_own hown
  rw [List.length_map] at hc
  exact ⟨A', c', by rw [List.length_map], hc, ht, hb⟩

end Go.Proofs.YtnklcoaafgaokaaDoor
