/-
  ROWS OF ITEMS; an item tried.
-/
import Derived.Test.YtccjbpghpoblhaaDoorK23
import Derived.Test.YtccjbpghpoblhaaDoorK15
import Derived.Great.BuildSlice
/-
  FAULTS IN MEMORY; tell, WALKED.
-/
namespace Go.Proofs.YtccjbpghpoblhaaDoor
open Go.RowKit

/-- what may change behind a fault that is told: the parser's block, rows of faults, and what is new -/
structure FQ (P : Pr) (w w' : World) : Prop where
  os : w'.os = w.os
  tape : w'.tape = w.tape
  output : w'.output = w.output
  size : w.heap.size ≤ w'.heap.size
  low : ∀ j, j < P.B → j ≠ P.b → w'.heap[j]? = w.heap[j]?
  ty : TyFr 70 35 w w'
theorem FQ.refl (P : Pr) (w : World) : FQ P w w := ⟨rfl, rfl, rfl, Nat.le_refl _, fun _ _ _ => rfl, fun _ _ _ _ h _ _ => h⟩
theorem FQ.trans {P : Pr} {w w1 w2 : World} (h : FQ P w w1) (k : FQ P w1 w2) : FQ P w w2 :=
  ⟨k.os.trans h.os, k.tape.trans h.tape, k.output.trans h.output, Nat.le_trans h.size k.size, fun j h1 h2 => (k.low j h1 h2).trans (h.low j h1 h2), fun j c t z hj h1 h2 => k.ty j c t z (h.ty j c t z hj h1 h2) h1 h2⟩
theorem FQ.of {P : Pr} {V : Va} {n : Nat} {w w' : World} (h : Fr P.b w w') (hs : St P V n w) : FQ P w w' :=
  ⟨h.os, h.tape, h.output, h.size, fun j h1 h2 => h.block j (Nat.lt_of_lt_of_le h1 hs.hB) (fun e => h2 (Option.some.inj e)), fun j c t z hj h1 _ => by
    refine h.keep hj ?_
    rintro rfl
    rw [hs.blk] at hj
    injection hj with hj
    injection hj with _ hj
    exact h1 hj.symm⟩

def Hi (P : Pr) (j : Nat) : Prop := P.B ≤ j
/-- where a fault is told -/
def atOf (P : Pr) (k : Nat) : Nat := if k < P.T.length then (tokAt P.T k).pos else P.sz
def faCells (P : Pr) (x : Nat × Nat) : List Value := [.int .i64 (x.1 : Nat), .int .i64 (atOf P x.2 : Nat), .int .i64 0, .int .i64 0]
def FaAt (P : Pr) (w : World) (v : Value) (fs : Fs) : Prop := RowAt w (Hi P) 35 4 v fs.length (fs.flatMap (faCells P))
theorem FaAt.fr {P : Pr} {w w' : World} {v : Value} {fs : Fs} (h : FaAt P w v fs) (hf : Fr P.b w w') (hb : P.b < P.B) : FaAt P w' v fs :=
  RowAt.keep h (fun _ h => h) (fun g o hg ho => hf.keep ho (by unfold Hi at hg; omega))

theorem info35 : (Tryd.prog.info? 35).map (fun i => (i.zero, i.size, i.bytes)) = some (some (.agg #[.int .i64 0, .int .i64 0, .int .i64 0, .int .i64 0]), 4, 32) := by kernel_rfl

/-- behind the append of a fault, and the store of the new row into the parser -/
theorem app_tell {P : Pr} {V : Va} {m : Nat} {w3 w5 : World} {o : Obj} {A : Option Addr} {k c0 g cap : Nat} {xs ys : List Value}
    (hs : St P V m w3) (hrow : RowAt w3 (Hi P) 35 4 (.slice A k c0) k xs) (hgrow : (w3.alloc o).grownBy w5 (Value.slice A k c0).ownBlock)
    (hown : w5.ownsRow 0 35 4 (.slice (some ⟨g, 0, none⟩) (k + 1) cap) (k + 1) (xs ++ ys)) (hat : (Value.slice A k c0).ownBlock = some g ∨ g = w3.heap.size + 1) :
    FQ P w3 (w5.setCell ⟨P.b, 6, none⟩ (.slice (some ⟨g, 0, none⟩) (k + 1) cap)) ∧
    St P { V with fa := .slice (some ⟨g, 0, none⟩) (k + 1) cap } m (w5.setCell ⟨P.b, 6, none⟩ (.slice (some ⟨g, 0, none⟩) (k + 1) cap)) ∧
    RowAt (w5.setCell ⟨P.b, 6, none⟩ (.slice (some ⟨g, 0, none⟩) (k + 1) cap)) (Hi P) 35 4 (.slice (some ⟨g, 0, none⟩) (k + 1) cap) (k + 1) (xs ++ ys) := by
  have hsz : (w3.alloc o).heap.size = w3.heap.size + 1 := by simp
  have hB := hs.hB
  have hlb := hs.lb
  have hsz5 : ∀ v, (w5.setCell ⟨P.b, 6, none⟩ v).heap.size = w5.heap.size := fun v => by simp [World.setCell]
  have hg5 := hgrow.size
  have hold : ∀ j, some j = (Value.slice A k c0).ownBlock → P.B ≤ j ∧ ∃ c', w3.heap[j]? = some (.cells c' 35 (0, 0)) := by
    intro j hj
    refine ⟨hrow.2 j hj.symm, ?_⟩
    rcases hrow.1.2 with ⟨h1, _⟩ | ⟨g', cap', cur, hv, _, hh, _⟩
    · rw [h1] at hj; cases hj
    · rw [hv] at hj
      have : j = g' := Option.some.inj hj
      subst this
      exact ⟨cur, hh⟩
  have far : ∀ j, j < w3.heap.size → some j ≠ (Value.slice A k c0).ownBlock → w5.heap[j]? = w3.heap[j]? := fun j hj hne => (hgrow.block j (by omega) hne).trans (Below.heap_alloc _ _ _ hj)
  have hlow : ∀ j, j < P.B → w5.heap[j]? = w3.heap[j]? := fun j hj => far j (by omega) (fun h1 => by have := (hold j h1).1; omega)
  have hb5 : w5.heap[P.b]? = some (.cells (prCells P V m) 70 (0, 0)) := (hlow _ hlb).trans hs.blk
  have hset : ∀ j, j ≠ P.b → (w5.setCell ⟨P.b, 6, none⟩ (.slice (some ⟨g, 0, none⟩) (k + 1) cap)).heap[j]? = w5.heap[j]? := fun j hj => Below.heap_setCell _ _ _ _ hj
  have hgB : P.B ≤ g := by
    rcases hat with h1 | h1
    · exact (hold g h1.symm).1
    · omega
  have q : ∀ j, j < P.B → j ≠ P.b → (w5.setCell ⟨P.b, 6, none⟩ (.slice (some ⟨g, 0, none⟩) (k + 1) cap)).heap[j]? = w3.heap[j]? := fun j hj hne => (hset j hne).trans (hlow j hj)
  refine ⟨⟨hgrow.os, hgrow.tape, hgrow.output, by rw [hsz5]; omega, q, ?_⟩, ?_, ?_, ?_⟩
  · intro j c' ty z hj h1 h2
    have hjb : j ≠ P.b := by
      rintro rfl
      rw [hs.blk] at hj; injection hj with hj; injection hj with _ hj; exact h1 hj.symm
    rw [hset j hjb, far j (heap_lt hj) (fun h3 => by
      obtain ⟨_, c'', h4⟩ := hold j h3
      rw [hj] at h4; injection h4 with h4; injection h4 with _ h4; exact h2 h4)]
    exact hj
  · refine ⟨?_, hs.tok.same (fun j hj hne => q j hj hne), hs.opl.same (q 1 hs.ob.1 hs.ob.2), hs.ob, (q _ hs.rl.1 hs.rl.2).trans hs.rul, hs.rl, hs.rok, hs.lb, by rw [hsz5]; omega, hs.le, hs.bd, hs.tl⟩
    simp only [World.setCell, Array.getElem?_modify, hb5]
    rfl
  · exact ownsRow_setCell_other hown (by intro h1; have := Option.some.inj h1; simp at this; omega) _
  · intro j hj
    have : g = j := Option.some.inj hj
    subst this
    exact hgB

theorem app_cell2 {P : Pr} {V : Va} {m : Nat} {w3 w5 : World} {o : Obj} {A : Option Addr} {k c0 : Nat} {xs : List Value} (hs : St P V m w3) (hrow : RowAt w3 (Hi P) 35 4 (.slice A k c0) k xs) (hgrow : (w3.alloc o).grownBy w5 (Value.slice A k c0).ownBlock) : w5.heap[P.b]? = some (.cells (prCells P V m) 70 (0, 0)) := by
  have hsz : (w3.alloc o).heap.size = w3.heap.size + 1 := by simp
  have hlt := hs.lt
  refine ((hgrow.block P.b (by omega) ?_).trans (Below.heap_alloc _ _ _ hlt)).trans hs.blk
  intro hj
  have h1 := hrow.2 P.b hj.symm
  have := hs.lb
  unfold Hi at h1
  omega

/-- what telling leaves -/
def Told (P : Pr) (V : Va) (n : Nat) (w : World) (fs : Fs) (e : Ending) (w' : World) : Prop :=
  e = .returned (.tuple #[]) ∧ FQ P w w' ∧ ∃ v, St P { V with fa := v } n w' ∧ FaAt P w' v fs

set_option maxRecDepth 100000 in
set_option maxHeartbeats 2000000 in
theorem tell_any (P : Pr) (V : Va) (n er tk : Nat) (fs : Fs) (w : World) (h : Hid (St P V n w)) (ha : Hid (FaAt P w V.fa fs)) (hl : fs.length ≤ 20) :
    Calls Tryd.prog 40 #[.pointer (some ⟨P.b, 0, none⟩), .agg #[.int .i64 (er : Nat), .int .i64 (tk : Nat)]] w (Told P V n w (fs ++ [(er, tk)])) := by
  obtain ⟨i0, hi, hz0, hz1, hz2⟩ := info_parts info35
  have HI := Lib.hid (And.intro hi (And.intro hz0 (And.intro hz1 hz2)))
  clear hi hz0 hz1 hz2
  have c0 := h.out.c0
  have c1 := h.out.c1
  have hlt := h.out.lt
  have hbd := h.out.bd
  have hbB := h.out.lb
  have hne : P.b ≠ w.heap.size := by omega
  obtain ⟨A, cp0, hfa⟩ := row_form ha.out
  by_cases htk : tk < P.T.length
  · obtain ⟨t, ht⟩ : ∃ t, P.T[tk]? = some t := ⟨_, List.getElem?_eq_getElem htk⟩
    obtain ⟨tg, toff, hA, htb, htB, _, _, _, p3⟩ := h.out.tok tk t ht
    have htg : tg < w.heap.size := Nat.lt_of_lt_of_le htB h.out.hB
    have htne : tg ≠ w.heap.size := by omega
    have HAT := Lib.hid (show atOf P tk = t.pos by unfold atOf; rw [if_pos htk, tokAt_some ht])
    have hd : ((tk : Int) < (P.T.length : Int)) := by omega
    have hd0 : (0 : Int) ≤ (tk : Int) := by omega
    rw [hA] at c0
    go_enter Tryd.func40, Tryd.ntmps40
    go_wp2_with fail
    go_quiet (fail)
    go_wp2_with fail
    go_quiet (fail)
    rename_i nq1
    go_wp2_with fail
    obtain ⟨W, eW, FW, SW, AW, BW⟩ : ∃ W, ((w.alloc (.cells #[.int .i64 (er : Nat), .int .i64 (tk : Nat)] 89)).drewN nq1).drewN nq = W ∧ Hid (Fr P.b w W) ∧ Hid (St P V n W) ∧ Hid (RowAt W (Hi P) 35 4 (.slice A fs.length cp0) fs.length (fs.flatMap (faCells P))) ∧ Hid (W.heap[w.heap.size]? = some (.cells #[.int .i64 (er : Nat), .int .i64 (tk : Nat)] 89 (0, 0))) :=
      ⟨_, rfl, Lib.hid (((Fr.alloc _ _ _).drawn _).drawn _), Lib.hid (((h.out.alloc _).drewN _).drewN _), Lib.hid (by rw [← hfa]; exact ha.out.fr (((Fr.alloc _ _ _).drawn _).drawn _) hbB), Lib.hid (new_at w _)⟩
    rw [eW]
    clear eW c0 c1 p3
    have d6 : W.cell? ⟨P.b, 6, none⟩ = some (.slice A fs.length cp0) := by rw [cell_at SW.out.blk, ← hfa]; rfl
    have e0 : W.cell? ⟨w.heap.size, 0, none⟩ = some (.int .i64 (er : Nat)) := by rw [cell_at BW.out]; rfl
    have hWl := SW.out.lt
    have hWw := heap_lt BW.out
    have HO3 := Lib.hid AW.out.1
    have hWne : P.b ≠ W.heap.size := by omega
    have hWne2 : w.heap.size ≠ W.heap.size := by omega
    go_region_law (first
      | ((refine step_append_lies _ (by rfl) _ _ _ (by rfl) 0 35 i0 _ 4 32 Tryd.underlying27 HI.out.1 HI.out.2.1 HI.out.2.2.1 HI.out.2.2.2 rfl (by omega) (.slice A fs.length cp0) fs.length (fs.flatMap (faCells P)) (by rfl) (HO3.out.drew.alloc _)
            ⟨W.heap.size, 0, none⟩ 1 1 [.int .i64 (er : Nat), .int .i64 (t.pos : Nat), .int .i64 0, .int .i64 0] (by rfl) (by rfl) (World.news_of_block (cs := #[.int .i64 (er : Nat), .int .i64 (t.pos : Nat), .int .i64 0, .int .i64 0]) (t := 35) (fr := (0, 0)) (heap_alloc_new W.drew _)) (by simp [Value.oneCell']) (by omega) (by unfold maxLen; omega) (by omega) (by simp) (W.heap.size + 1) (by simp) ?_; intro g cap w5 hown5 hgrow5 hat5 hlt5;
          have R := Lib.hid (app_tell SW.out.drew (w3 := W.drew) AW.out hgrow5 hown5 hat5); have K5 := app_cell2 SW.out.drew (w3 := W.drew) AW.out hgrow5; have k5 : w5.cell? ⟨P.b, 6, none⟩ = some V.fa := (by rw [cell_at K5]; rfl); have z5 := frozen_at (o := 6) K5; clear K5)))
    all_goals
      go_wp2_with fail
      go_end0
      refine ⟨rfl, (FQ.of (FW.out.trans (Fr.refl P.b W).draw) h.out).trans R.out.1, _, R.out.2.1, ?_⟩
      have := R.out.2.2
      unfold FaAt
      simpa [faCells, HAT.out] using this
  · have HAT := Lib.hid (show atOf P tk = P.sz by unfold atOf; rw [if_neg htk])
    have hd : ¬ ((tk : Int) < (P.T.length : Int)) := by omega
    go_enter Tryd.func40, Tryd.ntmps40
    go_wp2_with fail
    go_quiet (fail)
    go_wp2_with fail
    obtain ⟨W, eW, FW, SW, AW, BW⟩ : ∃ W, (w.alloc (.cells #[.int .i64 (er : Nat), .int .i64 (tk : Nat)] 89)).drewN nq = W ∧ Hid (Fr P.b w W) ∧ Hid (St P V n W) ∧ Hid (RowAt W (Hi P) 35 4 (.slice A fs.length cp0) fs.length (fs.flatMap (faCells P))) ∧ Hid (W.heap[w.heap.size]? = some (.cells #[.int .i64 (er : Nat), .int .i64 (tk : Nat)] 89 (0, 0))) :=
      ⟨_, rfl, Lib.hid ((Fr.alloc _ _ _).drawn _), Lib.hid ((h.out.alloc _).drewN _), Lib.hid (by rw [← hfa]; exact ha.out.fr ((Fr.alloc _ _ _).drawn _) hbB), Lib.hid (new_at w _)⟩
    rw [eW]
    clear eW c0 c1
    have d6 : W.cell? ⟨P.b, 6, none⟩ = some (.slice A fs.length cp0) := by rw [cell_at SW.out.blk, ← hfa]; rfl
    have e0 : W.cell? ⟨w.heap.size, 0, none⟩ = some (.int .i64 (er : Nat)) := by rw [cell_at BW.out]; rfl
    have hWl := SW.out.lt
    have hWw := heap_lt BW.out
    have HO3 := Lib.hid AW.out.1
    have hWne : P.b ≠ W.heap.size := by omega
    have hWne2 : w.heap.size ≠ W.heap.size := by omega
    go_region_law (first
      | ((refine step_append_lies _ (by rfl) _ _ _ (by rfl) 0 35 i0 _ 4 32 Tryd.underlying27 HI.out.1 HI.out.2.1 HI.out.2.2.1 HI.out.2.2.2 rfl (by omega) (.slice A fs.length cp0) fs.length (fs.flatMap (faCells P)) (by rfl) (HO3.out.drew.alloc _)
            ⟨W.heap.size, 0, none⟩ 1 1 [.int .i64 (er : Nat), .int .i64 (P.sz : Nat), .int .i64 0, .int .i64 0] (by rfl) (by rfl) (World.news_of_block (cs := #[.int .i64 (er : Nat), .int .i64 (P.sz : Nat), .int .i64 0, .int .i64 0]) (t := 35) (fr := (0, 0)) (heap_alloc_new W.drew _)) (by simp [Value.oneCell']) (by omega) (by unfold maxLen; omega) (by omega) (by simp) (W.heap.size + 1) (by simp) ?_; intro g cap w5 hown5 hgrow5 hat5 hlt5;
          have R := Lib.hid (app_tell SW.out.drew (w3 := W.drew) AW.out hgrow5 hown5 hat5); have K5 := app_cell2 SW.out.drew (w3 := W.drew) AW.out hgrow5; have k5 : w5.cell? ⟨P.b, 6, none⟩ = some V.fa := (by rw [cell_at K5]; rfl); have z5 := frozen_at (o := 6) K5; clear K5)))
    all_goals
      go_wp2_with fail
      go_end0
      refine ⟨rfl, (FQ.of (FW.out.trans (Fr.refl P.b W).draw) h.out).trans R.out.1, _, R.out.2.1, ?_⟩
      have := R.out.2.2
      unfold FaAt
      simpa [faCells, HAT.out] using this

end Go.Proofs.YtccjbpghpoblhaaDoor

namespace Go.Proofs.YtccjbpghpoblhaaDoor
open Go.RowKit

def ItemsAt (w : World) (F : Nat → Prop) (is : List It) (v : Value) : Prop :=
  ∃ css : List (List Value), RowAt w F 59 42 v is.length css.flatten ∧ css.length = is.length ∧ ∀ (j : Nat) (i : It), is[j]? = some i → ∃ cs, css[j]? = some cs ∧ ItAt w F i cs

theorem ItAt.ty {w u : World} {F : Nat → Prop} {T e : TypeId} {i : It} {cs : List Value} (h : ItAt w F i cs) (hk : TyFr T e w u) (h1 : 52 ≠ T ∧ 57 ≠ T ∧ 85 ≠ T) (h2 : 52 ≠ e ∧ 57 ≠ e ∧ 85 ≠ e) : ItAt u F i cs := by
  obtain ⟨av, bv, ce, ca, ci, e', m1, m2, m5, m6, m7⟩ := h
  exact ⟨av, bv, ce, ca, ci, e', RowAt.ty m1 hk h1.1 h2.1, BindsAt.ty m2 hk h1.2.1 h2.2.1 h1.2.2 h2.2.2, ExAt.ty hk h1.2.1 h2.2.1 _ _ m5, ExAt.ty hk h1.2.1 h2.2.1 _ _ m6, ExAt.ty hk h1.2.1 h2.2.1 _ _ m7⟩
theorem ItemsAt.ty {w u : World} {F : Nat → Prop} {T e : TypeId} {is : List It} {v : Value} (h : ItemsAt w F is v) (hk : TyFr T e w u) (h1 : 52 ≠ T ∧ 57 ≠ T ∧ 85 ≠ T) (h2 : 52 ≠ e ∧ 57 ≠ e ∧ 85 ≠ e) (h3 : 59 ≠ T ∧ 59 ≠ e) : ItemsAt u F is v := by
  obtain ⟨css, k1, k2, k3⟩ := h
  refine ⟨css, k1.ty hk h3.1 h3.2, k2, fun j i hj => ?_⟩
  obtain ⟨cs, q1, q2⟩ := k3 j i hj
  exact ⟨cs, q1, q2.ty hk h1 h2⟩
theorem ItemsAt.fq {P : Pr} {w u : World} {F : Nat → Prop} {is : List It} {v : Value} (h : ItemsAt w F is v) (hk : FQ P w u) : ItemsAt u F is v := h.ty hk.ty (by decide) (by decide) (by decide)

/-- what an append of one leaves -/
theorem app_grow {F : Nat → Prop} {w3 w5 : World} {o : Obj} {e : TypeId} {size : Nat} {A : Option Addr} {k c0 g cap : Nat} {xs ys : List Value} (hrow : RowAt w3 F e size (.slice A k c0) k xs) (hgrow : (w3.alloc o).grownBy w5 (Value.slice A k c0).ownBlock)
    (hown : w5.ownsRow 0 e size (.slice (some ⟨g, 0, none⟩) (k + 1) cap) (k + 1) (xs ++ ys)) (hat : (Value.slice A k c0).ownBlock = some g ∨ g = w3.heap.size + 1) (hF : F (w3.heap.size + 1)) :
    TyFr e e w3 w5 ∧ RowAt w5 F e size (.slice (some ⟨g, 0, none⟩) (k + 1) cap) (k + 1) (xs ++ ys) ∧ w3.heap.size ≤ w5.heap.size ∧ ∀ j, j < w3.heap.size → ¬ F j → w5.heap[j]? = w3.heap[j]? := by
  have hsz : (w3.alloc o).heap.size = w3.heap.size + 1 := by simp
  have hg5 := hgrow.size
  have hold : ∀ j, some j = (Value.slice A k c0).ownBlock → F j ∧ ∃ c', w3.heap[j]? = some (.cells c' e (0, 0)) := by
    intro j hj
    refine ⟨hrow.2 j hj.symm, ?_⟩
    rcases hrow.1.2 with ⟨h1, _⟩ | ⟨g', cap', cur, hv, _, hh, _⟩
    · rw [h1] at hj; cases hj
    · rw [hv] at hj
      have : j = g' := Option.some.inj hj
      subst this
      exact ⟨cur, hh⟩
  have far : ∀ j, j < w3.heap.size → some j ≠ (Value.slice A k c0).ownBlock → w5.heap[j]? = w3.heap[j]? := fun j hj hne => (hgrow.block j (by omega) hne).trans (Below.heap_alloc _ _ _ hj)
  refine ⟨?_, ⟨hown, ?_⟩, by omega, fun j hj hn => far j hj (fun h1 => hn (hold j h1).1)⟩
  · intro j c' ty z hj h1 _
    rw [far j (heap_lt hj) (fun h3 => by
      obtain ⟨_, c'', h4⟩ := hold j h3
      rw [hj] at h4; injection h4 with h4; injection h4 with _ h4; exact h1 h4)]
    exact hj
  · intro j hj
    have : g = j := Option.some.inj hj
    subst this
    rcases hat with h1 | h1
    · exact (hold g h1.symm).1
    · rw [h1]; exact hF

theorem St.far {P : Pr} {V : Va} {n : Nat} {w w' : World} (hs : St P V n w) (hq : ∀ j, j < P.B → w'.heap[j]? = w.heap[j]?) (hsz : P.B ≤ w'.heap.size) : St P V n w' :=
  ⟨(hq _ hs.lb).trans hs.blk, hs.tok.same (fun j hj _ => hq j hj), hs.opl.same (hq 1 hs.ob.1), hs.ob, (hq _ hs.rl.1).trans hs.rul, hs.rl, hs.rok, hs.lb, hsz, hs.le, hs.bd, hs.tl⟩

/-- one more row element whose cells lie outside of rows of its own type -/
theorem items_snoc {w3 w5 : World} {F : Nat → Prop} {is : List It} {i : It} {cs : List Value} {g cap : Nat} {css : List (List Value)} (hcl : css.length = is.length)
    (hcs : ∀ (j : Nat) (i : It), is[j]? = some i → ∃ cs, css[j]? = some cs ∧ ItAt w3 F i cs) (hi : ItAt w3 F i cs) (ht : TyFr 59 59 w3 w5) (hr : RowAt w5 F 59 42 (.slice (some ⟨g, 0, none⟩) (is.length + 1) cap) (is.length + 1) (css.flatten ++ cs)) :
    ItemsAt w5 F (is ++ [i]) (.slice (some ⟨g, 0, none⟩) (is.length + 1) cap) := by
  refine ⟨css ++ [cs], by simpa using hr, by simp [hcl], fun j b hj => ?_⟩
  rw [List.getElem?_append] at hj ⊢
  rw [hcl]
  split at hj
  · rename_i hjl
    rw [if_pos hjl]
    obtain ⟨ce', m1, m2⟩ := hcs j b hj
    exact ⟨ce', m1, m2.ty ht (by decide) (by decide)⟩
  · rename_i hjl
    rw [if_neg hjl]
    have hj0 : j - is.length = 0 := by
      rcases Nat.eq_zero_or_pos (j - is.length) with e | e
      · exact e
      · rw [List.getElem?_eq_none (by simp; omega)] at hj; cases hj
    rw [hj0] at hj ⊢
    obtain rfl : i = b := by simpa using hj
    exact ⟨_, rfl, hi.ty ht (by decide) (by decide)⟩

theorem cf69 (x y : Value) (w : World) : (callFunc 69 #[x, y]).run Tryd.prog w = .ok (.enter 69 #[x, y]) w := by simp [go_sem]

/-- what trying an item leaves -/
def TriedI (P : Pr) (V : Va) (n : Nat) (w1 : World) (e : Ending) (w' : World) : Prop :=
  Fr P.b w1 w' ∧ match pItem P.T V.it n with
    | .ok (i, m) => e = .returned (.tuple #[.agg #[.int .i64 0, .int .i64 0], .bool false]) ∧ St P (begun P.T V n) m w' ∧ ItBlk w' (New w1) w1.heap.size i
    | .error x => e = .returned (.tuple #[.agg #[.int .i64 (x.1 : Nat), .int .i64 (x.2 : Nat)], .bool true]) ∧ ∃ m, St P (begun P.T V n) m w'

theorem try_item (P : Pr) (V : Va) (n gp : Nat) (w1 : World) (h : Hid (St P V n w1)) (hit : V.it ≤ 64) (hp : Hid (w1.heap[gp]? = some (.cells #[.pointer (some ⟨P.b, 0, none⟩)] 65 (0, 0)))) :
    Calls Tryd.prog 36 #[.func (.func 69) #[] #[.pointer (some ⟨gp, 0, none⟩), .pointer (some ⟨w1.heap.size, 0, none⟩)]] (w1.alloc (.cells zero59.toArray 59)) (TriedI P V n w1) := by
  have hB := h.out.hB
  have hlt := h.out.lt
  have hgp : gp ≠ P.b := box_ne hp.out h.out.blk (by decide)
  have hgpl := heap_lt hp.out
  have z2 : (w1.alloc (.cells zero59.toArray 59)).heap.size = w1.heap.size + 1 := by simp
  have z3 : ∀ o, ((w1.alloc (.cells zero59.toArray 59)).alloc o).heap.size = w1.heap.size + 2 := fun o => by simp
  refine (caught_any 69 _ _ (fun w' => Fr P.b w1 w' ∧ ∃ i m, pItem P.T V.it n = .ok (i, m) ∧ St P (begun P.T V n) m w' ∧ ItBlk w' (New w1) w1.heap.size i)
    (fun er k w' => Fr P.b w1 w' ∧ pItem P.T V.it n = .error (er, k) ∧ ∃ m, St P (begun P.T V n) m w') _ (cf69 _ _) (Lib.hid ?_)).mono ?_
  · refine (body1_any P V n gp w1.heap.size w1 _ (Lib.hid (((h.out.alloc _).alloc _).alloc _)) hit (Lib.hid (((Fr.alloc _ _ _).more _).more _)) hlt hB (Nat.le_refl _) (Lib.hid ?_) (Lib.hid ?_)).mono ?_
    · exact (Below.heap_alloc _ _ _ (by rw [z3]; omega)).trans ((Below.heap_alloc _ _ _ (by rw [z2]; omega)).trans ((Below.heap_alloc _ _ _ hgpl).trans hp.out))
    · exact (Below.heap_alloc _ _ _ (by rw [z3]; omega)).trans ((Below.heap_alloc _ _ _ (by rw [z2]; omega)).trans (new_at w1 _))
    · rintro e w' ⟨hG, hk⟩
      refine ⟨hk _ _ ((Below.heap_alloc _ _ _ (by rw [z3, z2]; omega)).trans (new_at (w1.alloc (.cells zero59.toArray 59)) _)) (by rw [z2]; omega) (by rw [z2]; omega), hk _ _ ?_ (by rw [z2]; omega) (by rw [z2]; omega), ?_⟩
      · have := new_at ((w1.alloc (.cells zero59.toArray 59)).alloc (.cells #[.int .i64 0, .int .i64 0] 89)) (.cells #[.bool false] 4)
        rw [z3] at this
        rw [z2]
        exact this
      · rcases hG.elim with ⟨x, m, hN, hf, hs, rfl⟩ | ⟨i1, m1, v1, hN, hf, hs, rfl, rfl, hv⟩
        · exact .inr ⟨x.1, x.2, rfl, hf, hN, m, hs⟩
        · exact .inl ⟨rfl, hf, i1, m1, hN, hs, hv⟩
  · rintro e w' (⟨rfl, hf, i, m, hN, hs, hi⟩ | ⟨er, k, w2, rfl, ⟨hf, hN, m, hs⟩, rfl⟩)
    · unfold TriedI
      rw [hN]
      exact ⟨hf, rfl, hs, hi⟩
    · unfold TriedI
      rw [hN]
      refine ⟨(((hf.put (a := ⟨_, 0, none⟩) ?_ _).put (a := ⟨_, 1, none⟩) ?_ _).put (a := ⟨_, 0, none⟩) ?_ _).more _, rfl, m, (((hs.put (a := ⟨_, 0, none⟩) ?_ _).put (a := ⟨_, 1, none⟩) ?_ _).put (a := ⟨_, 0, none⟩) ?_ _).alloc _⟩
      all_goals (dsimp only; rw [z2]; omega)

theorem pItem_began {T : List LexM.Tk} {k n m : Nat} {i : It} (h : pItem T k n = .ok (i, m)) : bk T k n = k + 1 ∧ k ≠ 64 := by
  unfold pItem at h
  unfold bk
  split at h
  · cases h
  · rename_i hn
    split at h
    · cases h
    · rename_i t kind F hr
      split at h
      · cases h
      · rename_i h64
        rw [if_pos ⟨hn, by rw [hr]; rfl, h64⟩]
        exact ⟨rfl, h64⟩

/-- what a reader that tells faults leaves -/
def GotQ {α : Type} (P : Pr) (mo : Nat) (w : World) (r : PR α × Fs) (val : α → World → Value → Prop) (e : Ending) (w' : World) : Prop :=
  FQ P w w' ∧ match r.1 with
    | .ok (a, m) => (∃ V : Va, V.mo = mo ∧ St P V m w' ∧ FaAt P w' V.fa r.2) ∧ ∃ v, e = .returned v ∧ val a w' v
    | .error x => (∃ (V : Va) (m : Nat), V.mo = mo ∧ St P V m w' ∧ FaAt P w' V.fa r.2) ∧ e = panicV x.1 x.2
theorem gotq_ok {α : Type} {P : Pr} {mo m : Nat} {w w' : World} {r : PR α × Fs} {fs : Fs} {V : Va} {a : α} {v : Value} {val : α → World → Value → Prop} (hr : r = (.ok (a, m), fs)) (hmo : V.mo = mo) (hf : FQ P w w') (hs : St P V m w') (ha : FaAt P w' V.fa fs) (hv : val a w' v) : GotQ P mo w r val (.returned v) w' := by
  subst hr; exact ⟨hf, ⟨V, hmo, hs, ha⟩, v, rfl, hv⟩
theorem gotq_bad {α : Type} {P : Pr} {mo m : Nat} {w w' : World} {r : PR α × Fs} {fs : Fs} {V : Va} {x : Nat × Nat} {e : Ending} {val : α → World → Value → Prop} (hr : r = (.error x, fs)) (hmo : V.mo = mo) (hf : FQ P w w') (hs : St P V m w') (ha : FaAt P w' V.fa fs) (he : e = panicV x.1 x.2) : GotQ P mo w r val e w' := by
  subst hr he; exact ⟨hf, ⟨V, m, hmo, hs, ha⟩, rfl⟩

theorem St.none {P : Pr} {V : Va} {n : Nat} {w : World} (h : St P V n w) : Fr P.b w (w.setCell ⟨P.b, 4, none⟩ (.int .i64 0)) ∧ St P { V with it := 0 } n (w.setCell ⟨P.b, 4, none⟩ (.int .i64 0)) := by
  refine ⟨Fr.set w ⟨P.b, 4, Option.none⟩ _, ?_, h.tok.same (fun g _ hb => Below.heap_setCell _ _ _ _ hb), h.opl.same (Below.heap_setCell _ _ _ _ h.ob.2), h.ob, (Below.heap_setCell _ _ _ _ h.rl.2).trans h.rul, h.rl, h.rok, h.lb, by simpa [World.setCell] using h.hB, h.le, h.bd, h.tl⟩
  simp only [World.setCell, Array.getElem?_modify, h.blk]
  rfl

end Go.Proofs.YtccjbpghpoblhaaDoor

