/-
  A SLICE OF TOKENS THAT CAME IN: what its reading says of memory, and how long its texts are together.
-/
import Derived.Test.YtnklcoaafgaokaaDoorFrame
import Derived.Deep.Slices
import Derived.Test.YtnklcoaafgaokaaDoorLexMore
namespace Go.Proofs.YtnklcoaafgaokaaDoor
open Go.ChangeShapes Go.WideShapes Go.ChangeAt Go.RowKit Go.Deep
open LexM (joinSp)

theorem cells33 : Tryd.prog.cellsOf 33 = 4 := by kernel_rfl
theorem cells3 : Tryd.prog.cellsOf 3 = 1 := by kernel_rfl

/-- a token as data -/
def gData {H : Type} (t : GTk) : DataW H := .agg [.lit (.int .i64 t.a), .lit (.string t.s.data.toList), .lit (.int .i64 t.b), .lit (.int .i64 t.c)]

section
variable {H : Type} {enc : TypeId × Value → H} {w : World} {base : Nat} {spare : Nat → Bool} {held : Bool}
theorem tok_read {fuel : Nat} {cs : List Value} {x : DataW H × List MemPlace} (h : DataW.trod enc Tryd.prog w base spare held fuel 33 cs = some x) :
    ∃ t : GTk, cs = [.int .i64 t.a, .string t.s, .int .i64 t.b, .int .i64 t.c] ∧ x.1 = gData t := by
  obtain ⟨xs, n, _, hx, hcl, hxl, hf⟩ := DataW.trod_struct Tryd.underlying33 h
  rw [cells33] at hcl
  match cs, hcl with
  | [c0, c1, c2, c3], _ =>
    match xs, hxl with
    | [y0, y1, y2, y3], _ =>
      have f0 : DataW.trod enc Tryd.prog w base spare held n 3 (([c0, c1, c2, c3].drop 0).take (Tryd.prog.cellsOf 3)) = some y0 := hf 0 _ rfl
      have f1 : DataW.trod enc Tryd.prog w base spare held n 9 (([c0, c1, c2, c3].drop 1).take (Tryd.prog.cellsOf 9)) = some y1 := hf 1 _ rfl
      have f2 : DataW.trod enc Tryd.prog w base spare held n 3 (([c0, c1, c2, c3].drop 2).take (Tryd.prog.cellsOf 3)) = some y2 := hf 2 _ rfl
      have f3 : DataW.trod enc Tryd.prog w base spare held n 3 (([c0, c1, c2, c3].drop 3).take (Tryd.prog.cellsOf 3)) = some y3 := hf 3 _ rfl
      rw [cells3] at f0 f2 f3
      rw [cells9] at f1
      obtain ⟨a, e0, r0, _⟩ := DataW.trod_int Tryd.underlying3 f0
      obtain ⟨s, e1, r1, _⟩ := DataW.trod_string Tryd.underlying9 f1
      obtain ⟨b, e2, r2, _⟩ := DataW.trod_int Tryd.underlying3 f2
      obtain ⟨c, e3, r3, _⟩ := DataW.trod_int Tryd.underlying3 f3
      refine ⟨⟨a, s, b, c⟩, ?_, ?_⟩
      · simp at e0 e1 e2 e3
        subst e0 e1 e2 e3
        rfl
      · rw [hx]
        simp only [List.map_cons, List.map_nil, r0, r1, r2, r3]
        rfl

theorem block_lt {w : World} {b o : Nat} {v : Value} (h : w.cell? ⟨b, o, none⟩ = some v) : b < w.heap.size := by
  rcases Nat.lt_or_ge b w.heap.size with hlt | hge
  · exact hlt
  · simp [World.cell?, Array.getElem?_eq_none hge] at h

theorem toks_read {fuel : Nat} {A : Option Addr} {len cap : Nat} {x : DataW H × List MemPlace} (h : DataW.trod enc Tryd.prog w base (fun _ => true) held fuel 22 [.slice A len cap] = some x) :
    ∃ ts : List GTk, ts.length = len ∧ len ≤ cap ∧ cap ≤ maxLen ∧ Toks w w.heap.size A ts ∧ (ts = [] ∨ ∃ sp, x.1 = .slice (ts.map gData) sp) := by
  rcases open_slice Tryd.underlying22 h with ⟨hcs, _⟩ | ⟨a, len', cap', m, n, D, Pl, hcs, _, hl, hm, hmm, hx, hi⟩
  · have e : A = none ∧ len = 0 ∧ cap = 0 := by simpa using hcs
    obtain ⟨rfl, rfl, rfl⟩ := e
    exact ⟨[], rfl, Nat.le_refl _, Nat.zero_le _, fun i t ht => by simp at ht, .inl rfl⟩
  · have e : A = some a ∧ len = len' ∧ cap = cap' := by simpa using hcs
    obtain ⟨rfl, rfl, rfl⟩ := e
    have hm2 : m = cap := by simpa using hmm
    subst hm2
    have hT : ∀ i, ∃ t : GTk, i < m → (∃ cs', w.cells? base (a.add (i * 4)) 4 = some cs' ∧ cs' = [.int .i64 t.a, .string t.s, .int .i64 t.b, .int .i64 t.c]) ∧ D i = gData t := by
      intro i
      by_cases him : i < m
      · obtain ⟨cs', hc, ht⟩ := hi i him
        rw [cells33] at hc
        obtain ⟨t, e1, e2⟩ := tok_read ht
        exact ⟨t, fun _ => ⟨⟨cs', hc, e1⟩, e2⟩⟩
      · exact ⟨⟨0, ByteArray.empty, 0, 0⟩, fun h => absurd h him⟩
    have hch := fun i => (hT i).choose_spec
    generalize hf : (fun i => (hT i).choose) = f at hch
    have hch2 : ∀ i, i < m → (∃ cs', w.cells? base (a.add (i * 4)) 4 = some cs' ∧ cs' = [.int .i64 (f i).a, .string (f i).s, .int .i64 (f i).b, .int .i64 (f i).c]) ∧ D i = gData (f i) := by
      intro i him
      rw [← hf]
      exact (hT i).choose_spec him
    refine ⟨(List.range len).map f, by simp, hl, hm, ?_, .inr ⟨(List.range (m - len)).map fun j => D (len + j), ?_⟩⟩
    · intro i t ht
      rw [List.getElem?_map] at ht
      obtain ⟨j, hj, rfl⟩ := Option.map_eq_some_iff.1 ht
      have hjl : i < len ∧ j = i := by
        have := List.getElem?_eq_some_iff.1 hj
        obtain ⟨h1, h2⟩ := this
        simp at h1 h2
        exact ⟨h1, h2.symm⟩
      obtain ⟨hil, rfl⟩ := hjl
      obtain ⟨⟨cs', hc, rfl⟩, _⟩ := hch2 j (by omega)
      obtain ⟨_, _, hat⟩ := World.cells?_some hc
      have c0 := hat 0 (by omega)
      have c1 := hat 1 (by omega)
      have c2 := hat 2 (by omega)
      have c3 := hat 3 (by omega)
      rw [Go.Deep.add_add] at c0 c1 c2 c3
      have hspot : a.spot = none := by
        obtain ⟨⟨cs0, hc0, rfl⟩, _⟩ := hch2 0 (by omega)
        obtain ⟨_, _, hat0⟩ := World.cells?_some hc0
        have := hat0 0 (by omega)
        simpa [Addr.add] using World.cell?_spot this
      obtain ⟨b, off, spot⟩ := a
      simp only at hspot
      subst hspot
      have hadd : ∀ q, (⟨b, off, none⟩ : Addr).add q = ⟨b, off + q, none⟩ := fun q => by
        by_cases hq : q = 0
        · subst hq; rfl
        · simp [Addr.add, hq]
      rw [hadd] at c0 c1 c2 c3
      exact ⟨b, off, rfl, block_lt c0, c0, c1, c2, c3⟩
    · rw [hx]
      simp only [List.map_map]
      congr 1
      apply List.map_congr_left
      intro i hi2
      exact (hch2 i (by have := List.mem_range.1 hi2; omega)).2
end

/-- the bound: what is read is of bulk so much, so the texts together are no longer -/
theorem bulk_texts {H : Type} (ts : List GTk) : LexM.spaced (gTexts ts) ≤ Rows.uptoBulkAll (ts.map (gData (H := H))) := by
  induction ts with
  | nil => simp [gTexts, LexM.spaced, Rows.uptoBulkAll]
  | cons t r ih =>
    unfold gTexts at ih ⊢
    simp only [List.map_cons, LexM.spaced, Rows.uptoBulkAll, gData, Rows.uptoBulk] at ih ⊢
    omega
theorem texts_le {H : Type} {ts : List GTk} {sp : List (DataW H)} {d0 : DataW H} (h : Rows.uptoSmall H [d0, .slice (ts.map gData) sp] = true) : (joinSp (gTexts ts)).length ≤ 4000000 := by
  have h1 : Rows.uptoBulkAll [d0, .slice (ts.map gData) sp] ≤ 1048576 := of_decide_eq_true h
  simp only [Rows.uptoBulkAll, Rows.uptoBulk] at h1
  have h2 := bulk_texts (H := H) ts
  have h3 := LexM.joinSp_le (gTexts ts)
  omega

end Go.Proofs.YtnklcoaafgaokaaDoor
