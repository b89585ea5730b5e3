/-
  ITEMS, READ: wires, registers, memories, properties, values, puts: WALKED.
-/
import Derived.Test.YtccjbpghpoblhaaDoorK11
/-
  ITEMS IN MEMORY.
-/
namespace Go.Proofs.YtccjbpghpoblhaaDoor
open Go.RowKit

structure It where
  kind : Nat
  name : List UInt8
  wid : Dm
  val : Dm
  mod : List UInt8
  args : List Dm
  binds : List (List UInt8 × Ex)
  e : Ex
  at_ : Ex
  if_ : Ex

/-- a row in memory, in a block that F lets -/
def RowAt (w : World) (F : Nat → Prop) (e : TypeId) (size : Nat) (v : Value) (n : Nat) (xs : List Value) : Prop := w.ownsRow 0 e size v n xs ∧ ∀ g, v.ownBlock = some g → F g
theorem RowAt.keep {w w' : World} {F F' : Nat → Prop} {e : TypeId} {size : Nat} {v : Value} {n : Nat} {xs : List Value} (h : RowAt w F e size v n xs) (hF : ∀ g, F g → F' g) (hk : ∀ g o, F g → w.heap[g]? = some o → w'.heap[g]? = some o) : RowAt w' F' e size v n xs := by
  obtain ⟨⟨hl, h1⟩, h2⟩ := h
  refine ⟨⟨hl, ?_⟩, fun g hg => hF g (h2 g hg)⟩
  rcases h1 with h1 | ⟨g, cap, cur, hv, hb, hh, r⟩
  · exact .inl h1
  · exact .inr ⟨g, cap, cur, hv, hb, hk g _ (h2 g (by rw [hv]; rfl)) hh, r⟩
/-- a store into a block of another type -/
theorem RowAt.other {w u : World} {F : Nat → Prop} {e T : TypeId} {size : Nat} {v : Value} {n g : Nat} {xs : List Value} {c : Array Value} {z : Nat × Nat} (h : RowAt w F e size v n xs) (hg : w.heap[g]? = some (.cells c T z)) (hne : e ≠ T) (hk : ∀ k, k ≠ g → u.heap[k]? = w.heap[k]?) : RowAt u F e size v n xs := by
  obtain ⟨⟨hl, h1⟩, h2⟩ := h
  refine ⟨⟨hl, ?_⟩, h2⟩
  rcases h1 with h1 | ⟨g', cap, cur, hv, hb, hh, r⟩
  · exact .inl h1
  · refine .inr ⟨g', cap, cur, hv, hb, (hk g' ?_).trans hh, r⟩
    intro e'
    subst e'
    rw [hg] at hh
    injection hh with hh
    injection hh with _ hh
    exact hne hh.symm
theorem ExAt.other' {w u : World} {F : Nat → Prop} {g : Nat} {T : TypeId} {c : Array Value} {z : Nat × Nat} (hg : w.heap[g]? = some (.cells c T z)) (hne : 57 ≠ T) (hk : ∀ k, k ≠ g → u.heap[k]? = w.heap[k]?) : ∀ (t : Ex) (cs : List Value), ExAt w F t cs → ExAt u F t cs := by
  have kk : ∀ {v n xs}, KidsAt w F v n xs → KidsAt u F v n xs := fun {v n xs} h => RowAt.other (e := 57) (size := 11) h hg hne hk
  intro t
  induction t with
  | n0 h => intro cs h; exact h
  | n1 h a ih => rintro cs ⟨v, ca, e, k1, k2⟩; exact ⟨v, ca, e, kk k1, ih ca k2⟩
  | n2 h a b ih1 ih2 => rintro cs ⟨v, ca, cb, e, k1, k2, k3⟩; exact ⟨v, ca, cb, e, kk k1, ih1 ca k2, ih2 cb k3⟩
  | n3 h a b c ih1 ih2 ih3 => rintro cs ⟨v, ca, cb, cc, e, k1, k2, k3, k4⟩; exact ⟨v, ca, cb, cc, e, kk k1, ih1 ca k2, ih2 cb k3, ih3 cc k4⟩

def ArgsAt (w : World) (F : Nat → Prop) (args : List Dm) (v : Value) : Prop := RowAt w F 52 2 v args.length (args.flatMap dmCells)
def BindsAt (w : World) (F : Nat → Prop) (binds : List (List UInt8 × Ex)) (v : Value) : Prop :=
  ∃ css : List (List Value), RowAt w F 85 12 v binds.length css.flatten ∧ css.length = binds.length ∧ ∀ (j : Nat) (b : List UInt8 × Ex), binds[j]? = some b → ∃ ce, css[j]? = some (.string (str b.1) :: ce) ∧ ExAt w F b.2 ce

def itCells (i : It) (av bv : Value) (ce ca ci : List Value) : List Value :=
  [.int .i64 (i.kind : Nat), .string (str i.name), .string (str i.wid.1), .int .i64 (i.wid.2 : Nat), .string (str i.val.1), .int .i64 (i.val.2 : Nat), .string (str i.mod), av, bv] ++ (ce ++ (ca ++ ci))
def ItAt (w : World) (F : Nat → Prop) (i : It) (cs : List Value) : Prop :=
  ∃ av bv ce ca ci, cs = itCells i av bv ce ca ci ∧ ArgsAt w F i.args av ∧ BindsAt w F i.binds bv ∧ ExAt w F i.e ce ∧ ExAt w F i.at_ ca ∧ ExAt w F i.if_ ci
def ItBlk (w : World) (F : Nat → Prop) (g : Nat) (i : It) : Prop := F g ∧ ∃ cs, w.heap[g]? = some (.cells cs.toArray 59 (0, 0)) ∧ ItAt w F i cs

theorem ItAt.keep {w w' : World} {F F' : Nat → Prop} {i : It} {cs : List Value} (h : ItAt w F i cs) (hF : ∀ g, F g → F' g) (hk : ∀ g o, F g → w.heap[g]? = some o → w'.heap[g]? = some o) : ItAt w' F' i cs := by
  obtain ⟨av, bv, ce, ca, ci, e, h1, ⟨css, h2, h3, h4⟩, h5, h6, h7⟩ := h
  refine ⟨av, bv, ce, ca, ci, e, h1.keep hF hk, ⟨css, h2.keep hF hk, h3, fun j b hb => ?_⟩, ExAt.keep hF hk _ _ h5, ExAt.keep hF hk _ _ h6, ExAt.keep hF hk _ _ h7⟩
  obtain ⟨ce', k1, k2⟩ := h4 j b hb
  exact ⟨ce', k1, ExAt.keep hF hk _ _ k2⟩
theorem ItBlk.keep {w w' : World} {F F' : Nat → Prop} {g : Nat} {i : It} (h : ItBlk w F g i) (hF : ∀ g, F g → F' g) (hk : ∀ g o, F g → w.heap[g]? = some o → w'.heap[g]? = some o) : ItBlk w' F' g i := by
  obtain ⟨hg, cs, hb, hi⟩ := h
  exact ⟨hF g hg, cs, hk g _ hg hb, hi.keep hF hk⟩
theorem ItBlk.fr {w w1 w2 : World} {g b : Nat} {i : It} (h : ItBlk w1 (New w) g i) (hf : Fr b w1 w2) (hb : b < w.heap.size) : ItBlk w2 (New w) g i :=
  h.keep (fun _ h => h) (fun k o hk ho => hf.keep ho (by unfold New at hk; omega))
theorem ExAt.len {w : World} {F : Nat → Prop} {t : Ex} {cs : List Value} (h : ExAt w F t cs) : cs.length = 11 := by
  obtain ⟨hd, A, m, c, rfl⟩ := h.cells; rfl

/-- the item's cells are there -/
theorem ItBlk.cell {w : World} {F : Nat → Prop} {g : Nat} {i : It} (h : ItBlk w F g i) (o : Nat) (ho : o < 42) : ∃ x, w.cell? ⟨g, o, none⟩ = some x := by
  obtain ⟨_, cs, hb, av, bv, ce, ca, ci, e, _, _, h5, h6, h7⟩ := h
  have hl : cs.length = 42 := by rw [e]; simp [itCells, h5.len, h6.len, h7.len]
  rw [cell_at hb]
  exact ⟨cs[o], by simp [hl, ho]⟩
theorem ItBlk.frz {w : World} {F : Nat → Prop} {g : Nat} {i : It} (h : ItBlk w F g i) (o : Nat) : w.frozen? ⟨g, o, none⟩ = false := by
  obtain ⟨_, cs, hb, _⟩ := h; exact frozen_at hb
theorem ItBlk.new {w w1 : World} {g : Nat} {i : It} (h : ItBlk w1 (New w) g i) : w.heap.size ≤ g := h.1
theorem ItBlk.lt {w : World} {F : Nat → Prop} {g : Nat} {i : It} (h : ItBlk w F g i) : g < w.heap.size := by
  obtain ⟨_, cs, hb, _⟩ := h; exact heap_lt hb

theorem heap_setCells_ne (g : Nat) : ∀ (vs : List Value) (w : World) (o k : Nat), k ≠ g → (w.setCells g o vs).heap[k]? = w.heap[k]?
  | [], _, _, _, _ => rfl
  | v :: r, w, o, k, h => (heap_setCells_ne g r (w.setCell ⟨g, o, none⟩ v) (o + 1) k h).trans (Below.heap_setCell _ _ _ _ h)

/-- what a store into the item's own block leaves -/
theorem it_put {w : World} {F : Nat → Prop} {g : Nat} {i i' : It} {o : Nat} {vs : List Value} (h : ItBlk w F g i) (hv : o + vs.length ≤ 42)
    (hc : ∀ av bv ce ca ci, ArgsAt w F i.args av → BindsAt w F i.binds bv → ExAt w F i.e ce → ExAt w F i.at_ ca → ExAt w F i.if_ ci →
      ∃ av' bv' ce' ca' ci', (itCells i av bv ce ca ci).take o ++ vs ++ (itCells i av bv ce ca ci).drop (o + vs.length) = itCells i' av' bv' ce' ca' ci' ∧ ArgsAt w F i'.args av' ∧ BindsAt w F i'.binds bv' ∧ ExAt w F i'.e ce' ∧ ExAt w F i'.at_ ca' ∧ ExAt w F i'.if_ ci') :
    ItBlk (w.setCells g o vs) F g i' := by
  obtain ⟨hg, cs, hb, av, bv, ce, ca, ci, e, h1, h2, h5, h6, h7⟩ := h
  have hl : cs.length = 42 := by rw [e]; simp [itCells, h5.len, h6.len, h7.len]
  obtain ⟨cur', k1, k2, k3⟩ := setCells_block g 59 (0, 0) vs o w cs.toArray hb (by simpa [hl] using hv)
  obtain ⟨av', bv', ce', ca', ci', e', m1, m2, m5, m6, m7⟩ := hc av bv ce ca ci h1 h2 h5 h6 h7
  have hk : ∀ k, k ≠ g → (w.setCells g o vs).heap[k]? = w.heap[k]? := fun k hk => heap_setCells_ne g vs w o k hk
  have ex : ∀ t cs, ExAt w F t cs → ExAt (w.setCells g o vs) F t cs := ExAt.other' hb (by decide) hk
  refine ⟨hg, itCells i' av' bv' ce' ca' ci', ?_, av', bv', ce', ca', ci', rfl, RowAt.other m1 hb (by decide) hk, ?_, ex _ _ m5, ex _ _ m6, ex _ _ m7⟩
  · rw [k1]
    have : cur' = (itCells i' av' bv' ce' ca' ci').toArray := Array.toList_inj.1 (by rw [k3, ← e', ← e])
    rw [this]
  · obtain ⟨css, n1, n2, n3⟩ := m2
    refine ⟨css, RowAt.other n1 hb (by decide) hk, n2, fun j b hj => ?_⟩
    obtain ⟨ce, q1, q2⟩ := n3 j b hj
    exact ⟨ce, q1, ex _ _ q2⟩

theorem it_wid {w : World} {F : Nat → Prop} {g : Nat} {i : It} (h : ItBlk w F g i) (d : Dm) : ItBlk ((w.setCell ⟨g, 2, none⟩ (.string (str d.1))).setCell ⟨g, 3, none⟩ (.int .i64 (d.2 : Nat))) F g { i with wid := d } :=
  it_put (o := 2) (vs := [.string (str d.1), .int .i64 (d.2 : Nat)]) h (by simp) (fun av bv ce ca ci h1 h2 h5 h6 h7 => ⟨av, bv, ce, ca, ci, rfl, h1, h2, h5, h6, h7⟩)
theorem it_val {w : World} {F : Nat → Prop} {g : Nat} {i : It} (h : ItBlk w F g i) (d : Dm) : ItBlk ((w.setCell ⟨g, 4, none⟩ (.string (str d.1))).setCell ⟨g, 5, none⟩ (.int .i64 (d.2 : Nat))) F g { i with val := d } :=
  it_put (o := 4) (vs := [.string (str d.1), .int .i64 (d.2 : Nat)]) h (by simp) (fun av bv ce ca ci h1 h2 h5 h6 h7 => ⟨av, bv, ce, ca, ci, rfl, h1, h2, h5, h6, h7⟩)
theorem it_mod {w : World} {F : Nat → Prop} {g : Nat} {i : It} (h : ItBlk w F g i) (l : List UInt8) : ItBlk (w.setCell ⟨g, 6, none⟩ (.string (str l))) F g { i with mod := l } :=
  it_put (o := 6) (vs := [.string (str l)]) h (by simp) (fun av bv ce ca ci h1 h2 h5 h6 h7 => ⟨av, bv, ce, ca, ci, rfl, h1, h2, h5, h6, h7⟩)
theorem it_args {w : World} {F : Nat → Prop} {g : Nat} {i : It} (h : ItBlk w F g i) (l : List Dm) (v : Value) (hv : ArgsAt w F l v) : ItBlk (w.setCell ⟨g, 7, none⟩ v) F g { i with args := l } :=
  it_put (o := 7) (vs := [v]) h (by simp) (fun av bv ce ca ci _ h2 h5 h6 h7 => ⟨v, bv, ce, ca, ci, rfl, hv, h2, h5, h6, h7⟩)
theorem it_binds {w : World} {F : Nat → Prop} {g : Nat} {i : It} (h : ItBlk w F g i) (l : List (List UInt8 × Ex)) (v : Value) (hv : BindsAt w F l v) : ItBlk (w.setCell ⟨g, 8, none⟩ v) F g { i with binds := l } :=
  it_put (o := 8) (vs := [v]) h (by simp) (fun av bv ce ca ci h1 _ h5 h6 h7 => ⟨av, v, ce, ca, ci, rfl, h1, hv, h5, h6, h7⟩)
theorem it_e {w : World} {F : Nat → Prop} {g : Nat} {i : It} {t : Ex} {cs : List Value} (h : ItBlk w F g i) (ht : ExAt w F t cs) : ItBlk (w.setCells g 9 cs) F g { i with e := t } := by
  have hl := ht.len
  refine it_put (o := 9) (vs := cs) h (by omega) (fun av bv ce ca ci h1 h2 h5 h6 h7 => ⟨av, bv, cs, ca, ci, ?_, h1, h2, ht, h6, h7⟩)
  have e := h5.len
  have t1 : (itCells i av bv ce ca ci).take 9 = (itCells i av bv [] [] []) := by simp [itCells]
  have t2 : (itCells i av bv ce ca ci).drop (9 + cs.length) = ca ++ ci := by
    rw [hl]
    show (itCells i av bv [] [] [] ++ (ce ++ (ca ++ ci))).drop 20 = _
    rw [List.drop_append, List.drop_eq_nil_of_le (by simp [itCells]), List.nil_append, List.drop_append, List.drop_eq_nil_of_le (by simp [itCells, e])]
    simp [itCells, e]
  rw [t1, t2]; simp [itCells]
theorem it_at {w : World} {F : Nat → Prop} {g : Nat} {i : It} {t : Ex} {cs : List Value} (h : ItBlk w F g i) (ht : ExAt w F t cs) : ItBlk (w.setCells g 20 cs) F g { i with at_ := t } := by
  have hl := ht.len
  refine it_put (o := 20) (vs := cs) h (by omega) (fun av bv ce ca ci h1 h2 h5 h6 h7 => ⟨av, bv, ce, cs, ci, ?_, h1, h2, h5, ht, h7⟩)
  have e := h5.len
  have e6 := h6.len
  have t1 : (itCells i av bv ce ca ci).take 20 = (itCells i av bv ce [] []) := by
    show (itCells i av bv [] [] [] ++ (ce ++ (ca ++ ci))).take 20 = _
    rw [List.take_append, List.take_of_length_le (by simp [itCells]), List.take_append, List.take_of_length_le (by simp [itCells, e])]
    simp [itCells, e]
  have t2 : (itCells i av bv ce ca ci).drop (20 + cs.length) = ci := by
    rw [hl]
    show (itCells i av bv [] [] [] ++ (ce ++ (ca ++ ci))).drop 31 = _
    rw [List.drop_append, List.drop_eq_nil_of_le (by simp [itCells]), List.nil_append, List.drop_append, List.drop_eq_nil_of_le (by simp [itCells, e]), List.nil_append, List.drop_append, List.drop_eq_nil_of_le (by simp [itCells, e, e6])]
    simp [itCells, e, e6]
  rw [t1, t2]; simp [itCells]
theorem it_if {w : World} {F : Nat → Prop} {g : Nat} {i : It} {t : Ex} {cs : List Value} (h : ItBlk w F g i) (ht : ExAt w F t cs) : ItBlk (w.setCells g 31 cs) F g { i with if_ := t } := by
  have hl := ht.len
  refine it_put (o := 31) (vs := cs) h (by omega) (fun av bv ce ca ci h1 h2 h5 h6 h7 => ⟨av, bv, ce, ca, cs, ?_, h1, h2, h5, h6, ht⟩)
  have e := h5.len
  have e6 := h6.len
  have e7 := h7.len
  have t1 : (itCells i av bv ce ca ci).take 31 = (itCells i av bv ce ca []) := by
    show (itCells i av bv [] [] [] ++ (ce ++ (ca ++ ci))).take 31 = _
    rw [List.take_append, List.take_of_length_le (by simp [itCells]), List.take_append, List.take_of_length_le (by simp [itCells, e]), List.take_append, List.take_of_length_le (by simp [itCells, e, e6])]
    simp [itCells, e, e6]
  have t2 : (itCells i av bv ce ca ci).drop (31 + cs.length) = [] := by
    rw [hl]
    apply List.drop_eq_nil_of_le
    simp [itCells, e, e6, e7]
  rw [t1, t2]; simp [itCells]

theorem FrPuts {b : Nat} {w w' : World} (h : Fr b w w') (g : Nat) (hg : w.heap.size ≤ g) : ∀ (vs : List Value) (o : Nat), Fr b w (w'.setCells g o vs)
  | [], _ => h
  | v :: r, o => FrPuts (h.put (a := ⟨g, o, none⟩) hg v) g hg r (o + 1)
theorem StPuts {P : Pr} {V : Va} {n : Nat} {w : World} (h : St P V n w) (g : Nat) (hg : P.B ≤ g) : ∀ (vs : List Value) (o : Nat), St P V n (w.setCells g o vs)
  | [], _ => h
  | v :: r, o => StPuts (h.put (a := ⟨g, o, none⟩) hg v) g hg r (o + 1)

/-- a tree's cells, as a load finds them -/
theorem tree_cells {w w' : World} {t : Ex} {g : Nat} (h : vTree w t w' (.pointer (some ⟨g, 0, none⟩))) : ∃ hd A m c, ExAt w' (New w) t (hdCells hd (.slice A m c)) ∧
    w'.cell? ⟨g, 0, none⟩ = some (.int .i64 (hd.op : Nat)) ∧ w'.cell? ⟨g, 1, none⟩ = some (.string (str hd.val.1)) ∧ w'.cell? ⟨g, 2, none⟩ = some (.int .i64 (hd.val.2 : Nat)) ∧ w'.cell? ⟨g, 3, none⟩ = some (.string (str hd.wid.1)) ∧ w'.cell? ⟨g, 4, none⟩ = some (.int .i64 (hd.wid.2 : Nat)) ∧
    w'.cell? ⟨g, 5, none⟩ = some (.string (str hd.hi.1)) ∧ w'.cell? ⟨g, 6, none⟩ = some (.int .i64 (hd.hi.2 : Nat)) ∧ w'.cell? ⟨g, 7, none⟩ = some (.string (str hd.lo.1)) ∧ w'.cell? ⟨g, 8, none⟩ = some (.int .i64 (hd.lo.2 : Nat)) ∧ w'.cell? ⟨g, 9, none⟩ = some (.string (str hd.name)) ∧ w'.cell? ⟨g, 10, none⟩ = some (.slice A m c) := by
  obtain ⟨cs, hb, _, hx⟩ := tree_block h
  obtain ⟨hd, A, m, c, rfl⟩ := hx.cells
  refine ⟨hd, A, m, c, hx, ?_, ?_, ?_, ?_, ?_, ?_, ?_, ?_, ?_, ?_, ?_⟩ <;> (rw [cell_at hb]; rfl)

def pExpr (T : List LexM.Tk) (n : Nat) : PR Ex := pEx T (T.length + 1) n
theorem expr_ok (P : Pr) (V : Va) (n : Nat) (w : World) (h : Hid (St P V n w)) :
    Calls Tryd.prog 64 #[.pointer (some ⟨P.b, 0, none⟩)] w (Got P V w (pExpr P.T n) (vTree w)) := expr_any P V (P.T.length + 1) n w (by omega) h
theorem pExpr_ok {T : List LexM.Tk} {n m : Nat} {t : Ex} (h : pExpr T n = .ok (t, m)) : n < m := pEx_goes T _ _ _ _ h

def pWire (T : List LexM.Tk) (i : It) (n : Nat) : PR It := thn (pNeed T n [58]) fun _ n1 => thn (pDim T n1) fun d n2 => thn (pNeed T n2 [61]) fun _ n3 => thn (pExpr T n3) fun t n4 => .ok ({ { i with wid := d } with e := t }, n4)
def pReg (T : List LexM.Tk) (i : It) (n : Nat) : PR It := thn (pNeed T n [58]) fun _ n1 => thn (pDim T n1) fun d n2 => thn (pNeed T n2 [61]) fun _ n3 => thn (pDim T n3) fun d' n4 => .ok ({ { i with wid := d } with val := d' }, n4)
def pMemo (T : List LexM.Tk) (i : It) (n : Nat) : PR It := thn (pNeed T n [91]) fun _ n1 => thn (pDim T n1) fun d n2 => thn (pNeed T n2 [93]) fun _ n3 => thn (pNeed T n3 [58]) fun _ n4 => thn (pDim T n4) fun d' n5 => .ok ({ { i with val := d } with wid := d' }, n5)
def pProp (T : List LexM.Tk) (i : It) (n : Nat) : PR It := thn (pNeed T n [58]) fun _ n1 => thn (pExpr T n1) fun t n2 => .ok ({ i with e := t }, n2)
def pValue (T : List LexM.Tk) (i : It) (n : Nat) : PR It := thn (pNeed T n [61]) fun _ n1 => thn (pExpr T n1) fun t n2 => .ok ({ i with e := t }, n2)
def pPut (T : List LexM.Tk) (i : It) (n : Nat) : PR It :=
  thn (pNeed T n [91]) fun _ n1 => thn (pExpr T n1) fun a n2 => thn (pNeed T n2 [93]) fun _ n3 => thn (pNeed T n3 [61]) fun _ n4 => thn (pExpr T n4) fun t n5 => thn (pNeed T n5 [105, 102]) fun _ n6 => thn (pExpr T n6) fun c n7 => .ok ({ { { i with at_ := a } with e := t } with if_ := c }, n7)
def vIt (w0 : World) (g : Nat) (i : It) (w' : World) (v : Value) : Prop := v = .tuple #[] ∧ ItBlk w' (New w0) g i

end Go.Proofs.YtccjbpghpoblhaaDoor

namespace Go.Proofs.YtccjbpghpoblhaaDoor
open Go.RowKit

set_option maxRecDepth 100000 in
set_option maxHeartbeats 1000000 in
theorem wire_any (P : Pr) (V : Va) (n gI : Nat) (i : It) (w0 w : World) (h : Hid (St P V n w)) (hf0 : Hid (Fr P.b w0 w)) (hlt : P.b < w0.heap.size) (hB : P.B ≤ w0.heap.size) (hi : Hid (ItBlk w (New w0) gI i)) :
    Calls Tryd.prog 44 #[.pointer (some ⟨P.b, 0, none⟩), .pointer (some ⟨gI, 0, none⟩)] w (Got P V w0 (pWire P.T i n) (vIt w0 gI)) := by
  go_enter Tryd.func44, Tryd.ntmps44
  go_wp2_with fail
  refine (need_any P V n [58] _ h).mono ?_
  intro e w1 hG
  rcases hG.elim with ⟨x, m, hN, hf, hs, rfl⟩ | ⟨a1, m1, v1, hN, hf, hs, rfl, hv⟩
  · have E1 := Lib.hid hN
    have F1 := Lib.hid (hf0.out.trans hf)
    have S1 := Lib.hid hs
    clear hN hf hs hG
    go_wp2_with fail
    refine ⟨rfl, ?_⟩
    exact got_bad (by simp only [pWire, E1.out, thn_err]) F1.out S1.out rfl
  have E1 := Lib.hid hN
  have F1 := Lib.hid (hf0.out.trans hf)
  have S1 := Lib.hid hs
  have H1 := Lib.hid (hi.out.fr hf hlt)
  clear hN hf hs hG hv
  go_wp2_with fail
  refine (dim_any P V m1 _ S1).mono ?_
  intro e w2 hG
  rcases hG.elim with ⟨x, m, hN, hf, hs, rfl⟩ | ⟨a2, m2, v2, hN, hf, hs, rfl, hv⟩
  · have E2 := Lib.hid hN
    have F2 := Lib.hid (F1.out.trans hf)
    have S2 := Lib.hid hs
    clear hN hf hs hG
    go_wp2_with fail
    refine ⟨rfl, ?_⟩
    exact got_bad (by simp only [pWire, E1.out, E2.out, thn_ok, thn_err]) F2.out S2.out rfl
  unfold vDim at hv
  subst hv
  have E2 := Lib.hid hN
  have F2 := Lib.hid (F1.out.trans hf)
  have S2 := Lib.hid hs
  have H2 := Lib.hid (H1.out.fr hf hlt)
  clear hN hf hs hG
  obtain ⟨x2_2, c2_2⟩ := H2.out.cell 2 (by omega)
  have z2_2 := H2.out.frz 2
  obtain ⟨x2_3, c2_3⟩ := H2.out.cell 3 (by omega)
  have z2_3 := H2.out.frz 3
  go_wp2_with fail
  have F2u := Lib.hid ((F2.out.put (a := ⟨gI, 2, none⟩) H2.out.new (.string (str a2.1))).put (a := ⟨gI, 3, none⟩) H2.out.new (.int .i64 (a2.2 : Nat)))
  have S2u := Lib.hid ((S2.out.put (a := ⟨gI, 2, none⟩) (Nat.le_trans hB H2.out.new) (.string (str a2.1))).put (a := ⟨gI, 3, none⟩) (Nat.le_trans hB H2.out.new) (.int .i64 (a2.2 : Nat)))
  have H2u := Lib.hid (it_wid H2.out a2)
  refine (need_any P V m2 [61] _ S2u).mono ?_
  intro e w3 hG
  rcases hG.elim with ⟨x, m, hN, hf, hs, rfl⟩ | ⟨a3, m3, v3, hN, hf, hs, rfl, hv⟩
  · have E3 := Lib.hid hN
    have F3 := Lib.hid (F2u.out.trans hf)
    have S3 := Lib.hid hs
    clear hN hf hs hG
    go_wp2_with fail
    refine ⟨rfl, ?_⟩
    exact got_bad (by simp only [pWire, E1.out, E2.out, E3.out, thn_ok, thn_err]) F3.out S3.out rfl
  have E3 := Lib.hid hN
  have F3 := Lib.hid (F2u.out.trans hf)
  have S3 := Lib.hid hs
  have H3 := Lib.hid (H2u.out.fr hf hlt)
  clear hN hf hs hG hv
  go_wp2_with fail
  refine (expr_ok P V m3 _ S3).mono ?_
  intro e w4 hG
  rcases hG.elim with ⟨x, m, hN, hf, hs, rfl⟩ | ⟨a4, m4, v4, hN, hf, hs, rfl, hv⟩
  · have E4 := Lib.hid hN
    have F4 := Lib.hid (F3.out.trans hf)
    have S4 := Lib.hid hs
    clear hN hf hs hG
    go_wp2_with fail
    refine ⟨rfl, ?_⟩
    exact got_bad (by simp only [pWire, E1.out, E2.out, E3.out, E4.out, thn_ok, thn_err]) F4.out S4.out rfl
  obtain ⟨g4, rfl⟩ := ptr_ok hv
  have T4 := Lib.hid (hv.older F3.out.size)
  have E4 := Lib.hid hN
  have F4 := Lib.hid (F3.out.trans hf)
  have S4 := Lib.hid hs
  have H4 := Lib.hid (H3.out.fr hf hlt)
  clear hN hf hs hG hv
  obtain ⟨hd4, A4, q4, r4, X4, t4_0, t4_1, t4_2, t4_3, t4_4, t4_5, t4_6, t4_7, t4_8, t4_9, t4_10⟩ := tree_cells T4.out
  obtain ⟨x4_0, c4_0⟩ := H4.out.cell 9 (by omega)
  have z4_0 := H4.out.frz 9
  obtain ⟨x4_1, c4_1⟩ := H4.out.cell 10 (by omega)
  have z4_1 := H4.out.frz 10
  obtain ⟨x4_2, c4_2⟩ := H4.out.cell 11 (by omega)
  have z4_2 := H4.out.frz 11
  obtain ⟨x4_3, c4_3⟩ := H4.out.cell 12 (by omega)
  have z4_3 := H4.out.frz 12
  obtain ⟨x4_4, c4_4⟩ := H4.out.cell 13 (by omega)
  have z4_4 := H4.out.frz 13
  obtain ⟨x4_5, c4_5⟩ := H4.out.cell 14 (by omega)
  have z4_5 := H4.out.frz 14
  obtain ⟨x4_6, c4_6⟩ := H4.out.cell 15 (by omega)
  have z4_6 := H4.out.frz 15
  obtain ⟨x4_7, c4_7⟩ := H4.out.cell 16 (by omega)
  have z4_7 := H4.out.frz 16
  obtain ⟨x4_8, c4_8⟩ := H4.out.cell 17 (by omega)
  have z4_8 := H4.out.frz 17
  obtain ⟨x4_9, c4_9⟩ := H4.out.cell 18 (by omega)
  have z4_9 := H4.out.frz 18
  obtain ⟨x4_10, c4_10⟩ := H4.out.cell 19 (by omega)
  have z4_10 := H4.out.frz 19
  have Y4 := Lib.hid X4
  clear X4
  go_wp2_with fail
  go_end0
  rw [← setCells11 w4 gI 9]
  have F4u := Lib.hid (FrPuts F4.out gI H4.out.new (hdCells hd4 (.slice A4 q4 r4)) 9)
  have S4u := Lib.hid (StPuts S4.out gI (Nat.le_trans hB H4.out.new) (hdCells hd4 (.slice A4 q4 r4)) 9)
  have H4u := Lib.hid (it_e H4.out Y4.out)
  exact got_ok (by simp only [pWire, E1.out, E2.out, E3.out, E4.out, thn_ok]) F4u.out S4u.out ⟨rfl, H4u.out⟩

set_option maxRecDepth 100000 in
set_option maxHeartbeats 1000000 in
theorem reg_any (P : Pr) (V : Va) (n gI : Nat) (i : It) (w0 w : World) (h : Hid (St P V n w)) (hf0 : Hid (Fr P.b w0 w)) (hlt : P.b < w0.heap.size) (hB : P.B ≤ w0.heap.size) (hi : Hid (ItBlk w (New w0) gI i)) :
    Calls Tryd.prog 45 #[.pointer (some ⟨P.b, 0, none⟩), .pointer (some ⟨gI, 0, none⟩)] w (Got P V w0 (pReg P.T i n) (vIt w0 gI)) := by
  go_enter Tryd.func45, Tryd.ntmps45
  go_wp2_with fail
  refine (need_any P V n [58] _ h).mono ?_
  intro e w1 hG
  rcases hG.elim with ⟨x, m, hN, hf, hs, rfl⟩ | ⟨a1, m1, v1, hN, hf, hs, rfl, hv⟩
  · have E1 := Lib.hid hN
    have F1 := Lib.hid (hf0.out.trans hf)
    have S1 := Lib.hid hs
    clear hN hf hs hG
    go_wp2_with fail
    refine ⟨rfl, ?_⟩
    exact got_bad (by simp only [pReg, E1.out, thn_err]) F1.out S1.out rfl
  have E1 := Lib.hid hN
  have F1 := Lib.hid (hf0.out.trans hf)
  have S1 := Lib.hid hs
  have H1 := Lib.hid (hi.out.fr hf hlt)
  clear hN hf hs hG hv
  go_wp2_with fail
  refine (dim_any P V m1 _ S1).mono ?_
  intro e w2 hG
  rcases hG.elim with ⟨x, m, hN, hf, hs, rfl⟩ | ⟨a2, m2, v2, hN, hf, hs, rfl, hv⟩
  · have E2 := Lib.hid hN
    have F2 := Lib.hid (F1.out.trans hf)
    have S2 := Lib.hid hs
    clear hN hf hs hG
    go_wp2_with fail
    refine ⟨rfl, ?_⟩
    exact got_bad (by simp only [pReg, E1.out, E2.out, thn_ok, thn_err]) F2.out S2.out rfl
  unfold vDim at hv
  subst hv
  have E2 := Lib.hid hN
  have F2 := Lib.hid (F1.out.trans hf)
  have S2 := Lib.hid hs
  have H2 := Lib.hid (H1.out.fr hf hlt)
  clear hN hf hs hG
  obtain ⟨x2_2, c2_2⟩ := H2.out.cell 2 (by omega)
  have z2_2 := H2.out.frz 2
  obtain ⟨x2_3, c2_3⟩ := H2.out.cell 3 (by omega)
  have z2_3 := H2.out.frz 3
  go_wp2_with fail
  have F2u := Lib.hid ((F2.out.put (a := ⟨gI, 2, none⟩) H2.out.new (.string (str a2.1))).put (a := ⟨gI, 3, none⟩) H2.out.new (.int .i64 (a2.2 : Nat)))
  have S2u := Lib.hid ((S2.out.put (a := ⟨gI, 2, none⟩) (Nat.le_trans hB H2.out.new) (.string (str a2.1))).put (a := ⟨gI, 3, none⟩) (Nat.le_trans hB H2.out.new) (.int .i64 (a2.2 : Nat)))
  have H2u := Lib.hid (it_wid H2.out a2)
  refine (need_any P V m2 [61] _ S2u).mono ?_
  intro e w3 hG
  rcases hG.elim with ⟨x, m, hN, hf, hs, rfl⟩ | ⟨a3, m3, v3, hN, hf, hs, rfl, hv⟩
  · have E3 := Lib.hid hN
    have F3 := Lib.hid (F2u.out.trans hf)
    have S3 := Lib.hid hs
    clear hN hf hs hG
    go_wp2_with fail
    refine ⟨rfl, ?_⟩
    exact got_bad (by simp only [pReg, E1.out, E2.out, E3.out, thn_ok, thn_err]) F3.out S3.out rfl
  have E3 := Lib.hid hN
  have F3 := Lib.hid (F2u.out.trans hf)
  have S3 := Lib.hid hs
  have H3 := Lib.hid (H2u.out.fr hf hlt)
  clear hN hf hs hG hv
  go_wp2_with fail
  refine (dim_any P V m3 _ S3).mono ?_
  intro e w4 hG
  rcases hG.elim with ⟨x, m, hN, hf, hs, rfl⟩ | ⟨a4, m4, v4, hN, hf, hs, rfl, hv⟩
  · have E4 := Lib.hid hN
    have F4 := Lib.hid (F3.out.trans hf)
    have S4 := Lib.hid hs
    clear hN hf hs hG
    go_wp2_with fail
    refine ⟨rfl, ?_⟩
    exact got_bad (by simp only [pReg, E1.out, E2.out, E3.out, E4.out, thn_ok, thn_err]) F4.out S4.out rfl
  unfold vDim at hv
  subst hv
  have E4 := Lib.hid hN
  have F4 := Lib.hid (F3.out.trans hf)
  have S4 := Lib.hid hs
  have H4 := Lib.hid (H3.out.fr hf hlt)
  clear hN hf hs hG
  obtain ⟨x4_4, c4_4⟩ := H4.out.cell 4 (by omega)
  have z4_4 := H4.out.frz 4
  obtain ⟨x4_5, c4_5⟩ := H4.out.cell 5 (by omega)
  have z4_5 := H4.out.frz 5
  go_wp2_with fail
  go_end0
  have F4u := Lib.hid ((F4.out.put (a := ⟨gI, 4, none⟩) H4.out.new (.string (str a4.1))).put (a := ⟨gI, 5, none⟩) H4.out.new (.int .i64 (a4.2 : Nat)))
  have S4u := Lib.hid ((S4.out.put (a := ⟨gI, 4, none⟩) (Nat.le_trans hB H4.out.new) (.string (str a4.1))).put (a := ⟨gI, 5, none⟩) (Nat.le_trans hB H4.out.new) (.int .i64 (a4.2 : Nat)))
  have H4u := Lib.hid (it_val H4.out a4)
  exact got_ok (by simp only [pReg, E1.out, E2.out, E3.out, E4.out, thn_ok]) F4u.out S4u.out ⟨rfl, H4u.out⟩

set_option maxRecDepth 100000 in
set_option maxHeartbeats 1000000 in
theorem mem_any (P : Pr) (V : Va) (n gI : Nat) (i : It) (w0 w : World) (h : Hid (St P V n w)) (hf0 : Hid (Fr P.b w0 w)) (hlt : P.b < w0.heap.size) (hB : P.B ≤ w0.heap.size) (hi : Hid (ItBlk w (New w0) gI i)) :
    Calls Tryd.prog 46 #[.pointer (some ⟨P.b, 0, none⟩), .pointer (some ⟨gI, 0, none⟩)] w (Got P V w0 (pMemo P.T i n) (vIt w0 gI)) := by
  go_enter Tryd.func46, Tryd.ntmps46
  go_wp2_with fail
  refine (need_any P V n [91] _ h).mono ?_
  intro e w1 hG
  rcases hG.elim with ⟨x, m, hN, hf, hs, rfl⟩ | ⟨a1, m1, v1, hN, hf, hs, rfl, hv⟩
  · have E1 := Lib.hid hN
    have F1 := Lib.hid (hf0.out.trans hf)
    have S1 := Lib.hid hs
    clear hN hf hs hG
    go_wp2_with fail
    refine ⟨rfl, ?_⟩
    exact got_bad (by simp only [pMemo, E1.out, thn_err]) F1.out S1.out rfl
  have E1 := Lib.hid hN
  have F1 := Lib.hid (hf0.out.trans hf)
  have S1 := Lib.hid hs
  have H1 := Lib.hid (hi.out.fr hf hlt)
  clear hN hf hs hG hv
  go_wp2_with fail
  refine (dim_any P V m1 _ S1).mono ?_
  intro e w2 hG
  rcases hG.elim with ⟨x, m, hN, hf, hs, rfl⟩ | ⟨a2, m2, v2, hN, hf, hs, rfl, hv⟩
  · have E2 := Lib.hid hN
    have F2 := Lib.hid (F1.out.trans hf)
    have S2 := Lib.hid hs
    clear hN hf hs hG
    go_wp2_with fail
    refine ⟨rfl, ?_⟩
    exact got_bad (by simp only [pMemo, E1.out, E2.out, thn_ok, thn_err]) F2.out S2.out rfl
  unfold vDim at hv
  subst hv
  have E2 := Lib.hid hN
  have F2 := Lib.hid (F1.out.trans hf)
  have S2 := Lib.hid hs
  have H2 := Lib.hid (H1.out.fr hf hlt)
  clear hN hf hs hG
  obtain ⟨x2_4, c2_4⟩ := H2.out.cell 4 (by omega)
  have z2_4 := H2.out.frz 4
  obtain ⟨x2_5, c2_5⟩ := H2.out.cell 5 (by omega)
  have z2_5 := H2.out.frz 5
  go_wp2_with fail
  have F2u := Lib.hid ((F2.out.put (a := ⟨gI, 4, none⟩) H2.out.new (.string (str a2.1))).put (a := ⟨gI, 5, none⟩) H2.out.new (.int .i64 (a2.2 : Nat)))
  have S2u := Lib.hid ((S2.out.put (a := ⟨gI, 4, none⟩) (Nat.le_trans hB H2.out.new) (.string (str a2.1))).put (a := ⟨gI, 5, none⟩) (Nat.le_trans hB H2.out.new) (.int .i64 (a2.2 : Nat)))
  have H2u := Lib.hid (it_val H2.out a2)
  refine (need_any P V m2 [93] _ S2u).mono ?_
  intro e w3 hG
  rcases hG.elim with ⟨x, m, hN, hf, hs, rfl⟩ | ⟨a3, m3, v3, hN, hf, hs, rfl, hv⟩
  · have E3 := Lib.hid hN
    have F3 := Lib.hid (F2u.out.trans hf)
    have S3 := Lib.hid hs
    clear hN hf hs hG
    go_wp2_with fail
    refine ⟨rfl, ?_⟩
    exact got_bad (by simp only [pMemo, E1.out, E2.out, E3.out, thn_ok, thn_err]) F3.out S3.out rfl
  have E3 := Lib.hid hN
  have F3 := Lib.hid (F2u.out.trans hf)
  have S3 := Lib.hid hs
  have H3 := Lib.hid (H2u.out.fr hf hlt)
  clear hN hf hs hG hv
  go_wp2_with fail
  refine (need_any P V m3 [58] _ S3).mono ?_
  intro e w4 hG
  rcases hG.elim with ⟨x, m, hN, hf, hs, rfl⟩ | ⟨a4, m4, v4, hN, hf, hs, rfl, hv⟩
  · have E4 := Lib.hid hN
    have F4 := Lib.hid (F3.out.trans hf)
    have S4 := Lib.hid hs
    clear hN hf hs hG
    go_wp2_with fail
    refine ⟨rfl, ?_⟩
    exact got_bad (by simp only [pMemo, E1.out, E2.out, E3.out, E4.out, thn_ok, thn_err]) F4.out S4.out rfl
  have E4 := Lib.hid hN
  have F4 := Lib.hid (F3.out.trans hf)
  have S4 := Lib.hid hs
  have H4 := Lib.hid (H3.out.fr hf hlt)
  clear hN hf hs hG hv
  go_wp2_with fail
  refine (dim_any P V m4 _ S4).mono ?_
  intro e w5 hG
  rcases hG.elim with ⟨x, m, hN, hf, hs, rfl⟩ | ⟨a5, m5, v5, hN, hf, hs, rfl, hv⟩
  · have E5 := Lib.hid hN
    have F5 := Lib.hid (F4.out.trans hf)
    have S5 := Lib.hid hs
    clear hN hf hs hG
    go_wp2_with fail
    refine ⟨rfl, ?_⟩
    exact got_bad (by simp only [pMemo, E1.out, E2.out, E3.out, E4.out, E5.out, thn_ok, thn_err]) F5.out S5.out rfl
  unfold vDim at hv
  subst hv
  have E5 := Lib.hid hN
  have F5 := Lib.hid (F4.out.trans hf)
  have S5 := Lib.hid hs
  have H5 := Lib.hid (H4.out.fr hf hlt)
  clear hN hf hs hG
  obtain ⟨x5_2, c5_2⟩ := H5.out.cell 2 (by omega)
  have z5_2 := H5.out.frz 2
  obtain ⟨x5_3, c5_3⟩ := H5.out.cell 3 (by omega)
  have z5_3 := H5.out.frz 3
  go_wp2_with fail
  go_end0
  have F5u := Lib.hid ((F5.out.put (a := ⟨gI, 2, none⟩) H5.out.new (.string (str a5.1))).put (a := ⟨gI, 3, none⟩) H5.out.new (.int .i64 (a5.2 : Nat)))
  have S5u := Lib.hid ((S5.out.put (a := ⟨gI, 2, none⟩) (Nat.le_trans hB H5.out.new) (.string (str a5.1))).put (a := ⟨gI, 3, none⟩) (Nat.le_trans hB H5.out.new) (.int .i64 (a5.2 : Nat)))
  have H5u := Lib.hid (it_wid H5.out a5)
  exact got_ok (by simp only [pMemo, E1.out, E2.out, E3.out, E4.out, E5.out, thn_ok]) F5u.out S5u.out ⟨rfl, H5u.out⟩

set_option maxRecDepth 100000 in
set_option maxHeartbeats 1000000 in
theorem property_any (P : Pr) (V : Va) (n gI : Nat) (i : It) (w0 w : World) (h : Hid (St P V n w)) (hf0 : Hid (Fr P.b w0 w)) (hlt : P.b < w0.heap.size) (hB : P.B ≤ w0.heap.size) (hi : Hid (ItBlk w (New w0) gI i)) :
    Calls Tryd.prog 48 #[.pointer (some ⟨P.b, 0, none⟩), .pointer (some ⟨gI, 0, none⟩)] w (Got P V w0 (pProp P.T i n) (vIt w0 gI)) := by
  go_enter Tryd.func48, Tryd.ntmps48
  go_wp2_with fail
  refine (need_any P V n [58] _ h).mono ?_
  intro e w1 hG
  rcases hG.elim with ⟨x, m, hN, hf, hs, rfl⟩ | ⟨a1, m1, v1, hN, hf, hs, rfl, hv⟩
  · have E1 := Lib.hid hN
    have F1 := Lib.hid (hf0.out.trans hf)
    have S1 := Lib.hid hs
    clear hN hf hs hG
    go_wp2_with fail
    refine ⟨rfl, ?_⟩
    exact got_bad (by simp only [pProp, E1.out, thn_err]) F1.out S1.out rfl
  have E1 := Lib.hid hN
  have F1 := Lib.hid (hf0.out.trans hf)
  have S1 := Lib.hid hs
  have H1 := Lib.hid (hi.out.fr hf hlt)
  clear hN hf hs hG hv
  go_wp2_with fail
  refine (expr_ok P V m1 _ S1).mono ?_
  intro e w2 hG
  rcases hG.elim with ⟨x, m, hN, hf, hs, rfl⟩ | ⟨a2, m2, v2, hN, hf, hs, rfl, hv⟩
  · have E2 := Lib.hid hN
    have F2 := Lib.hid (F1.out.trans hf)
    have S2 := Lib.hid hs
    clear hN hf hs hG
    go_wp2_with fail
    refine ⟨rfl, ?_⟩
    exact got_bad (by simp only [pProp, E1.out, E2.out, thn_ok, thn_err]) F2.out S2.out rfl
  obtain ⟨g2, rfl⟩ := ptr_ok hv
  have T2 := Lib.hid (hv.older F1.out.size)
  have E2 := Lib.hid hN
  have F2 := Lib.hid (F1.out.trans hf)
  have S2 := Lib.hid hs
  have H2 := Lib.hid (H1.out.fr hf hlt)
  clear hN hf hs hG hv
  obtain ⟨hd2, A2, q2, r2, X2, t2_0, t2_1, t2_2, t2_3, t2_4, t2_5, t2_6, t2_7, t2_8, t2_9, t2_10⟩ := tree_cells T2.out
  obtain ⟨x2_0, c2_0⟩ := H2.out.cell 9 (by omega)
  have z2_0 := H2.out.frz 9
  obtain ⟨x2_1, c2_1⟩ := H2.out.cell 10 (by omega)
  have z2_1 := H2.out.frz 10
  obtain ⟨x2_2, c2_2⟩ := H2.out.cell 11 (by omega)
  have z2_2 := H2.out.frz 11
  obtain ⟨x2_3, c2_3⟩ := H2.out.cell 12 (by omega)
  have z2_3 := H2.out.frz 12
  obtain ⟨x2_4, c2_4⟩ := H2.out.cell 13 (by omega)
  have z2_4 := H2.out.frz 13
  obtain ⟨x2_5, c2_5⟩ := H2.out.cell 14 (by omega)
  have z2_5 := H2.out.frz 14
  obtain ⟨x2_6, c2_6⟩ := H2.out.cell 15 (by omega)
  have z2_6 := H2.out.frz 15
  obtain ⟨x2_7, c2_7⟩ := H2.out.cell 16 (by omega)
  have z2_7 := H2.out.frz 16
  obtain ⟨x2_8, c2_8⟩ := H2.out.cell 17 (by omega)
  have z2_8 := H2.out.frz 17
  obtain ⟨x2_9, c2_9⟩ := H2.out.cell 18 (by omega)
  have z2_9 := H2.out.frz 18
  obtain ⟨x2_10, c2_10⟩ := H2.out.cell 19 (by omega)
  have z2_10 := H2.out.frz 19
  have Y2 := Lib.hid X2
  clear X2
  go_wp2_with fail
  go_end0
  rw [← setCells11 w2 gI 9]
  have F2u := Lib.hid (FrPuts F2.out gI H2.out.new (hdCells hd2 (.slice A2 q2 r2)) 9)
  have S2u := Lib.hid (StPuts S2.out gI (Nat.le_trans hB H2.out.new) (hdCells hd2 (.slice A2 q2 r2)) 9)
  have H2u := Lib.hid (it_e H2.out Y2.out)
  exact got_ok (by simp only [pProp, E1.out, E2.out, thn_ok]) F2u.out S2u.out ⟨rfl, H2u.out⟩

set_option maxRecDepth 100000 in
set_option maxHeartbeats 1000000 in
theorem value_any (P : Pr) (V : Va) (n gI : Nat) (i : It) (w0 w : World) (h : Hid (St P V n w)) (hf0 : Hid (Fr P.b w0 w)) (hlt : P.b < w0.heap.size) (hB : P.B ≤ w0.heap.size) (hi : Hid (ItBlk w (New w0) gI i)) :
    Calls Tryd.prog 49 #[.pointer (some ⟨P.b, 0, none⟩), .pointer (some ⟨gI, 0, none⟩)] w (Got P V w0 (pValue P.T i n) (vIt w0 gI)) := by
  go_enter Tryd.func49, Tryd.ntmps49
  go_wp2_with fail
  refine (need_any P V n [61] _ h).mono ?_
  intro e w1 hG
  rcases hG.elim with ⟨x, m, hN, hf, hs, rfl⟩ | ⟨a1, m1, v1, hN, hf, hs, rfl, hv⟩
  · have E1 := Lib.hid hN
    have F1 := Lib.hid (hf0.out.trans hf)
    have S1 := Lib.hid hs
    clear hN hf hs hG
    go_wp2_with fail
    refine ⟨rfl, ?_⟩
    exact got_bad (by simp only [pValue, E1.out, thn_err]) F1.out S1.out rfl
  have E1 := Lib.hid hN
  have F1 := Lib.hid (hf0.out.trans hf)
  have S1 := Lib.hid hs
  have H1 := Lib.hid (hi.out.fr hf hlt)
  clear hN hf hs hG hv
  go_wp2_with fail
  refine (expr_ok P V m1 _ S1).mono ?_
  intro e w2 hG
  rcases hG.elim with ⟨x, m, hN, hf, hs, rfl⟩ | ⟨a2, m2, v2, hN, hf, hs, rfl, hv⟩
  · have E2 := Lib.hid hN
    have F2 := Lib.hid (F1.out.trans hf)
    have S2 := Lib.hid hs
    clear hN hf hs hG
    go_wp2_with fail
    refine ⟨rfl, ?_⟩
    exact got_bad (by simp only [pValue, E1.out, E2.out, thn_ok, thn_err]) F2.out S2.out rfl
  obtain ⟨g2, rfl⟩ := ptr_ok hv
  have T2 := Lib.hid (hv.older F1.out.size)
  have E2 := Lib.hid hN
  have F2 := Lib.hid (F1.out.trans hf)
  have S2 := Lib.hid hs
  have H2 := Lib.hid (H1.out.fr hf hlt)
  clear hN hf hs hG hv
  obtain ⟨hd2, A2, q2, r2, X2, t2_0, t2_1, t2_2, t2_3, t2_4, t2_5, t2_6, t2_7, t2_8, t2_9, t2_10⟩ := tree_cells T2.out
  obtain ⟨x2_0, c2_0⟩ := H2.out.cell 9 (by omega)
  have z2_0 := H2.out.frz 9
  obtain ⟨x2_1, c2_1⟩ := H2.out.cell 10 (by omega)
  have z2_1 := H2.out.frz 10
  obtain ⟨x2_2, c2_2⟩ := H2.out.cell 11 (by omega)
  have z2_2 := H2.out.frz 11
  obtain ⟨x2_3, c2_3⟩ := H2.out.cell 12 (by omega)
  have z2_3 := H2.out.frz 12
  obtain ⟨x2_4, c2_4⟩ := H2.out.cell 13 (by omega)
  have z2_4 := H2.out.frz 13
  obtain ⟨x2_5, c2_5⟩ := H2.out.cell 14 (by omega)
  have z2_5 := H2.out.frz 14
  obtain ⟨x2_6, c2_6⟩ := H2.out.cell 15 (by omega)
  have z2_6 := H2.out.frz 15
  obtain ⟨x2_7, c2_7⟩ := H2.out.cell 16 (by omega)
  have z2_7 := H2.out.frz 16
  obtain ⟨x2_8, c2_8⟩ := H2.out.cell 17 (by omega)
  have z2_8 := H2.out.frz 17
  obtain ⟨x2_9, c2_9⟩ := H2.out.cell 18 (by omega)
  have z2_9 := H2.out.frz 18
  obtain ⟨x2_10, c2_10⟩ := H2.out.cell 19 (by omega)
  have z2_10 := H2.out.frz 19
  have Y2 := Lib.hid X2
  clear X2
  go_wp2_with fail
  go_end0
  rw [← setCells11 w2 gI 9]
  have F2u := Lib.hid (FrPuts F2.out gI H2.out.new (hdCells hd2 (.slice A2 q2 r2)) 9)
  have S2u := Lib.hid (StPuts S2.out gI (Nat.le_trans hB H2.out.new) (hdCells hd2 (.slice A2 q2 r2)) 9)
  have H2u := Lib.hid (it_e H2.out Y2.out)
  exact got_ok (by simp only [pValue, E1.out, E2.out, thn_ok]) F2u.out S2u.out ⟨rfl, H2u.out⟩

set_option maxRecDepth 100000 in
set_option maxHeartbeats 1000000 in
theorem put_any (P : Pr) (V : Va) (n gI : Nat) (i : It) (w0 w : World) (h : Hid (St P V n w)) (hf0 : Hid (Fr P.b w0 w)) (hlt : P.b < w0.heap.size) (hB : P.B ≤ w0.heap.size) (hi : Hid (ItBlk w (New w0) gI i)) :
    Calls Tryd.prog 50 #[.pointer (some ⟨P.b, 0, none⟩), .pointer (some ⟨gI, 0, none⟩)] w (Got P V w0 (pPut P.T i n) (vIt w0 gI)) := by
  go_enter Tryd.func50, Tryd.ntmps50
  go_wp2_with fail
  refine (need_any P V n [91] _ h).mono ?_
  intro e w1 hG
  rcases hG.elim with ⟨x, m, hN, hf, hs, rfl⟩ | ⟨a1, m1, v1, hN, hf, hs, rfl, hv⟩
  · have E1 := Lib.hid hN
    have F1 := Lib.hid (hf0.out.trans hf)
    have S1 := Lib.hid hs
    clear hN hf hs hG
    go_wp2_with fail
    refine ⟨rfl, ?_⟩
    exact got_bad (by simp only [pPut, E1.out, thn_err]) F1.out S1.out rfl
  have E1 := Lib.hid hN
  have F1 := Lib.hid (hf0.out.trans hf)
  have S1 := Lib.hid hs
  have H1 := Lib.hid (hi.out.fr hf hlt)
  clear hN hf hs hG hv
  go_wp2_with fail
  refine (expr_ok P V m1 _ S1).mono ?_
  intro e w2 hG
  rcases hG.elim with ⟨x, m, hN, hf, hs, rfl⟩ | ⟨a2, m2, v2, hN, hf, hs, rfl, hv⟩
  · have E2 := Lib.hid hN
    have F2 := Lib.hid (F1.out.trans hf)
    have S2 := Lib.hid hs
    clear hN hf hs hG
    go_wp2_with fail
    refine ⟨rfl, ?_⟩
    exact got_bad (by simp only [pPut, E1.out, E2.out, thn_ok, thn_err]) F2.out S2.out rfl
  obtain ⟨g2, rfl⟩ := ptr_ok hv
  have T2 := Lib.hid (hv.older F1.out.size)
  have E2 := Lib.hid hN
  have F2 := Lib.hid (F1.out.trans hf)
  have S2 := Lib.hid hs
  have H2 := Lib.hid (H1.out.fr hf hlt)
  clear hN hf hs hG hv
  obtain ⟨hd2, A2, q2, r2, X2, t2_0, t2_1, t2_2, t2_3, t2_4, t2_5, t2_6, t2_7, t2_8, t2_9, t2_10⟩ := tree_cells T2.out
  obtain ⟨x2_0, c2_0⟩ := H2.out.cell 20 (by omega)
  have z2_0 := H2.out.frz 20
  obtain ⟨x2_1, c2_1⟩ := H2.out.cell 21 (by omega)
  have z2_1 := H2.out.frz 21
  obtain ⟨x2_2, c2_2⟩ := H2.out.cell 22 (by omega)
  have z2_2 := H2.out.frz 22
  obtain ⟨x2_3, c2_3⟩ := H2.out.cell 23 (by omega)
  have z2_3 := H2.out.frz 23
  obtain ⟨x2_4, c2_4⟩ := H2.out.cell 24 (by omega)
  have z2_4 := H2.out.frz 24
  obtain ⟨x2_5, c2_5⟩ := H2.out.cell 25 (by omega)
  have z2_5 := H2.out.frz 25
  obtain ⟨x2_6, c2_6⟩ := H2.out.cell 26 (by omega)
  have z2_6 := H2.out.frz 26
  obtain ⟨x2_7, c2_7⟩ := H2.out.cell 27 (by omega)
  have z2_7 := H2.out.frz 27
  obtain ⟨x2_8, c2_8⟩ := H2.out.cell 28 (by omega)
  have z2_8 := H2.out.frz 28
  obtain ⟨x2_9, c2_9⟩ := H2.out.cell 29 (by omega)
  have z2_9 := H2.out.frz 29
  obtain ⟨x2_10, c2_10⟩ := H2.out.cell 30 (by omega)
  have z2_10 := H2.out.frz 30
  have Y2 := Lib.hid X2
  clear X2
  go_wp2_with fail
  rw [← setCells11 w2 gI 20]
  have F2u := Lib.hid (FrPuts F2.out gI H2.out.new (hdCells hd2 (.slice A2 q2 r2)) 20)
  have S2u := Lib.hid (StPuts S2.out gI (Nat.le_trans hB H2.out.new) (hdCells hd2 (.slice A2 q2 r2)) 20)
  have H2u := Lib.hid (it_at H2.out Y2.out)
  refine (need_any P V m2 [93] _ S2u).mono ?_
  intro e w3 hG
  rcases hG.elim with ⟨x, m, hN, hf, hs, rfl⟩ | ⟨a3, m3, v3, hN, hf, hs, rfl, hv⟩
  · have E3 := Lib.hid hN
    have F3 := Lib.hid (F2u.out.trans hf)
    have S3 := Lib.hid hs
    clear hN hf hs hG
    go_wp2_with fail
    refine ⟨rfl, ?_⟩
    exact got_bad (by simp only [pPut, E1.out, E2.out, E3.out, thn_ok, thn_err]) F3.out S3.out rfl
  have E3 := Lib.hid hN
  have F3 := Lib.hid (F2u.out.trans hf)
  have S3 := Lib.hid hs
  have H3 := Lib.hid (H2u.out.fr hf hlt)
  clear hN hf hs hG hv
  go_wp2_with fail
  refine (need_any P V m3 [61] _ S3).mono ?_
  intro e w4 hG
  rcases hG.elim with ⟨x, m, hN, hf, hs, rfl⟩ | ⟨a4, m4, v4, hN, hf, hs, rfl, hv⟩
  · have E4 := Lib.hid hN
    have F4 := Lib.hid (F3.out.trans hf)
    have S4 := Lib.hid hs
    clear hN hf hs hG
    go_wp2_with fail
    refine ⟨rfl, ?_⟩
    exact got_bad (by simp only [pPut, E1.out, E2.out, E3.out, E4.out, thn_ok, thn_err]) F4.out S4.out rfl
  have E4 := Lib.hid hN
  have F4 := Lib.hid (F3.out.trans hf)
  have S4 := Lib.hid hs
  have H4 := Lib.hid (H3.out.fr hf hlt)
  clear hN hf hs hG hv
  go_wp2_with fail
  refine (expr_ok P V m4 _ S4).mono ?_
  intro e w5 hG
  rcases hG.elim with ⟨x, m, hN, hf, hs, rfl⟩ | ⟨a5, m5, v5, hN, hf, hs, rfl, hv⟩
  · have E5 := Lib.hid hN
    have F5 := Lib.hid (F4.out.trans hf)
    have S5 := Lib.hid hs
    clear hN hf hs hG
    go_wp2_with fail
    refine ⟨rfl, ?_⟩
    exact got_bad (by simp only [pPut, E1.out, E2.out, E3.out, E4.out, E5.out, thn_ok, thn_err]) F5.out S5.out rfl
  obtain ⟨g5, rfl⟩ := ptr_ok hv
  have T5 := Lib.hid (hv.older F4.out.size)
  have E5 := Lib.hid hN
  have F5 := Lib.hid (F4.out.trans hf)
  have S5 := Lib.hid hs
  have H5 := Lib.hid (H4.out.fr hf hlt)
  clear hN hf hs hG hv
  obtain ⟨hd5, A5, q5, r5, X5, t5_0, t5_1, t5_2, t5_3, t5_4, t5_5, t5_6, t5_7, t5_8, t5_9, t5_10⟩ := tree_cells T5.out
  obtain ⟨x5_0, c5_0⟩ := H5.out.cell 9 (by omega)
  have z5_0 := H5.out.frz 9
  obtain ⟨x5_1, c5_1⟩ := H5.out.cell 10 (by omega)
  have z5_1 := H5.out.frz 10
  obtain ⟨x5_2, c5_2⟩ := H5.out.cell 11 (by omega)
  have z5_2 := H5.out.frz 11
  obtain ⟨x5_3, c5_3⟩ := H5.out.cell 12 (by omega)
  have z5_3 := H5.out.frz 12
  obtain ⟨x5_4, c5_4⟩ := H5.out.cell 13 (by omega)
  have z5_4 := H5.out.frz 13
  obtain ⟨x5_5, c5_5⟩ := H5.out.cell 14 (by omega)
  have z5_5 := H5.out.frz 14
  obtain ⟨x5_6, c5_6⟩ := H5.out.cell 15 (by omega)
  have z5_6 := H5.out.frz 15
  obtain ⟨x5_7, c5_7⟩ := H5.out.cell 16 (by omega)
  have z5_7 := H5.out.frz 16
  obtain ⟨x5_8, c5_8⟩ := H5.out.cell 17 (by omega)
  have z5_8 := H5.out.frz 17
  obtain ⟨x5_9, c5_9⟩ := H5.out.cell 18 (by omega)
  have z5_9 := H5.out.frz 18
  obtain ⟨x5_10, c5_10⟩ := H5.out.cell 19 (by omega)
  have z5_10 := H5.out.frz 19
  have Y5 := Lib.hid X5
  clear X5
  go_wp2_with fail
  rw [← setCells11 w5 gI 9]
  have F5u := Lib.hid (FrPuts F5.out gI H5.out.new (hdCells hd5 (.slice A5 q5 r5)) 9)
  have S5u := Lib.hid (StPuts S5.out gI (Nat.le_trans hB H5.out.new) (hdCells hd5 (.slice A5 q5 r5)) 9)
  have H5u := Lib.hid (it_e H5.out Y5.out)
  refine (need_any P V m5 [105, 102] _ S5u).mono ?_
  intro e w6 hG
  rcases hG.elim with ⟨x, m, hN, hf, hs, rfl⟩ | ⟨a6, m6, v6, hN, hf, hs, rfl, hv⟩
  · have E6 := Lib.hid hN
    have F6 := Lib.hid (F5u.out.trans hf)
    have S6 := Lib.hid hs
    clear hN hf hs hG
    go_wp2_with fail
    refine ⟨rfl, ?_⟩
    exact got_bad (by simp only [pPut, E1.out, E2.out, E3.out, E4.out, E5.out, E6.out, thn_ok, thn_err]) F6.out S6.out rfl
  have E6 := Lib.hid hN
  have F6 := Lib.hid (F5u.out.trans hf)
  have S6 := Lib.hid hs
  have H6 := Lib.hid (H5u.out.fr hf hlt)
  clear hN hf hs hG hv
  go_wp2_with fail
  refine (expr_ok P V m6 _ S6).mono ?_
  intro e w7 hG
  rcases hG.elim with ⟨x, m, hN, hf, hs, rfl⟩ | ⟨a7, m7, v7, hN, hf, hs, rfl, hv⟩
  · have E7 := Lib.hid hN
    have F7 := Lib.hid (F6.out.trans hf)
    have S7 := Lib.hid hs
    clear hN hf hs hG
    go_wp2_with fail
    refine ⟨rfl, ?_⟩
    exact got_bad (by simp only [pPut, E1.out, E2.out, E3.out, E4.out, E5.out, E6.out, E7.out, thn_ok, thn_err]) F7.out S7.out rfl
  obtain ⟨g7, rfl⟩ := ptr_ok hv
  have T7 := Lib.hid (hv.older F6.out.size)
  have E7 := Lib.hid hN
  have F7 := Lib.hid (F6.out.trans hf)
  have S7 := Lib.hid hs
  have H7 := Lib.hid (H6.out.fr hf hlt)
  clear hN hf hs hG hv
  obtain ⟨hd7, A7, q7, r7, X7, t7_0, t7_1, t7_2, t7_3, t7_4, t7_5, t7_6, t7_7, t7_8, t7_9, t7_10⟩ := tree_cells T7.out
  obtain ⟨x7_0, c7_0⟩ := H7.out.cell 31 (by omega)
  have z7_0 := H7.out.frz 31
  obtain ⟨x7_1, c7_1⟩ := H7.out.cell 32 (by omega)
  have z7_1 := H7.out.frz 32
  obtain ⟨x7_2, c7_2⟩ := H7.out.cell 33 (by omega)
  have z7_2 := H7.out.frz 33
  obtain ⟨x7_3, c7_3⟩ := H7.out.cell 34 (by omega)
  have z7_3 := H7.out.frz 34
  obtain ⟨x7_4, c7_4⟩ := H7.out.cell 35 (by omega)
  have z7_4 := H7.out.frz 35
  obtain ⟨x7_5, c7_5⟩ := H7.out.cell 36 (by omega)
  have z7_5 := H7.out.frz 36
  obtain ⟨x7_6, c7_6⟩ := H7.out.cell 37 (by omega)
  have z7_6 := H7.out.frz 37
  obtain ⟨x7_7, c7_7⟩ := H7.out.cell 38 (by omega)
  have z7_7 := H7.out.frz 38
  obtain ⟨x7_8, c7_8⟩ := H7.out.cell 39 (by omega)
  have z7_8 := H7.out.frz 39
  obtain ⟨x7_9, c7_9⟩ := H7.out.cell 40 (by omega)
  have z7_9 := H7.out.frz 40
  obtain ⟨x7_10, c7_10⟩ := H7.out.cell 41 (by omega)
  have z7_10 := H7.out.frz 41
  have Y7 := Lib.hid X7
  clear X7
  go_wp2_with fail
  go_end0
  rw [← setCells11 w7 gI 31]
  have F7u := Lib.hid (FrPuts F7.out gI H7.out.new (hdCells hd7 (.slice A7 q7 r7)) 31)
  have S7u := Lib.hid (StPuts S7.out gI (Nat.le_trans hB H7.out.new) (hdCells hd7 (.slice A7 q7 r7)) 31)
  have H7u := Lib.hid (it_if H7.out Y7.out)
  exact got_ok (by simp only [pPut, E1.out, E2.out, E3.out, E4.out, E5.out, E6.out, E7.out, thn_ok]) F7u.out S7u.out ⟨rfl, H7u.out⟩

end Go.Proofs.YtccjbpghpoblhaaDoor

