/-
  DESIGNS IN MEMORY: rows that may lie anywhere, shared or not; what has grown keeps them.
-/
import Derived.Test.YtjkaeabnjkhllaaScMath
import Derived.WalkKit
import Derived.Below
import Derived.Laws.Rows
import Derived.Laws.StructEq
import Derived.Deep.MidRow
import Derived.Deep.RegionHeld3
import Derived.Deep.RegionLaw
import Derived.Deep.QuietTactic
import Derived.Deep.RegionWith
import Derived.Deep.LoopGhost
import Derived.Deep.CutRange
import Derived.Deep.CutBlock
import Derived.Deep.DeepCutAuto
import Derived.Lib.Hide
import Derived.BigQuiet
import Derived.Outline
import Derived.IntWalk
namespace Go.Proofs.Ytjkaeabnjkhllaa
open Go.RowKit

/-- nothing old has turned -/
abbrev Gr (w w' : World) : Prop := w.grownBy w' none
theorem gr_of {w w' : World} (h : Below w.heap.size w w') : Gr w w' := ⟨h.os, h.tape, h.output, h.size, fun k hk _ => h.block k hk⟩
theorem bel_of {w w' : World} (h : Gr w w') : Below w.heap.size w w' := ⟨h.os, h.tape, h.output, h.size, fun k hk => h.block k hk (by simp)⟩
theorem Gr.refl (w : World) : Gr w w := gr_of (Below.refl _ _)
theorem Gr.trans {a b c : World} (h : Gr a b) (k : Gr b c) : Gr a c := gr_of ((bel_of h).trans ((bel_of k).mono h.size))
theorem Gr.alloc (w : World) (o : Obj) : Gr w (w.alloc o) := gr_of ((Below.refl _ _).alloc (Nat.le_refl _) _)
theorem Gr.drew (w : World) : Gr w w.drew := gr_of ((Below.refl _ _).drew)
theorem Gr.keep {w w' : World} (h : Gr w w') {g : Nat} {o : Obj} (ho : w.heap[g]? = some o) : w'.heap[g]? = some o := by
  have hg : g < w.heap.size := (Array.getElem?_eq_some_iff.1 ho).1
  rw [h.block g hg (by simp)]
  exact ho
theorem heap_lt {w : World} {g : Nat} {o : Obj} (h : w.heap[g]? = some o) : g < w.heap.size := (Array.getElem?_eq_some_iff.1 h).1
theorem cell_at {w : World} {b o : Nat} {c : Array Value} {t : TypeId} {z : Nat × Nat} (h : w.heap[b]? = some (.cells c t z)) : w.cell? ⟨b, o, none⟩ = c[o]? := by
  simp [World.cell?, h]
theorem new_at (w : World) (o : Obj) : (w.alloc o).heap[w.heap.size]? = some o := by
  show (w.heap.push _)[w.heap.size]? = _
  simp
theorem gr_cell {w w' : World} {g o : Nat} {v : Value} (hg : Gr w w') (hl : g < w.heap.size) (h : w.cell? ⟨g, o, none⟩ = some v) : w'.cell? ⟨g, o, none⟩ = some v := (World.cell?_of_block (a := ⟨g, o, none⟩) (hg.block g hl (by simp))).trans h
theorem range_gr {w w' : World} {b o : Nat} {c : List Value} (h : w.rangeAt b o c) (hb : b < w.heap.size) (hg : Gr w w') : w'.rangeAt b o c := fun i u hu => (World.cell?_of_block (a := ⟨b, o + i, none⟩) (hg.block b hb (by simp))).trans (h i u hu)

/-- its first cell is not frozen -/
def Unf (w : World) (v : Value) : Prop := ∀ g o n c, v = .slice (some ⟨g, o, none⟩) n c → 0 < n → ∃ cs t z, w.heap[g]? = some (.cells cs t z) ∧ (decide (z.1 ≤ o) && decide (o < z.2)) = false
/-- its block is shared with no string -/
def Cln (w : World) (v : Value) : Prop := ∀ g o n c, v = .slice (some ⟨g, o, none⟩) n c → 0 < n → ∃ cs t, w.heap[g]? = some (.cells cs t (0, 0))
theorem unf_nil (w : World) (n c : Nat) : Unf w (.slice none n c) := fun _ _ _ _ e => by simp at e
theorem unf_new {w : World} {g o n c : Nat} {cs : Array Value} {t : TypeId} (h : w.heap[g]? = some (.cells cs t (0, 0))) : Unf w (.slice (some ⟨g, o, none⟩) n c) := fun g' o' _ _ e _ => by
  simp at e
  obtain ⟨⟨rfl, rfl⟩, _⟩ := e
  exact ⟨cs, t, (0, 0), h, by simp⟩
theorem Unf.gr {w w' : World} {v : Value} (h : Unf w v) (hg : Gr w w') : Unf w' v := fun g o n c e hn => by
  obtain ⟨cs, t, z, h1, h2⟩ := h g o n c e hn
  exact ⟨cs, t, z, hg.keep h1, h2⟩
/-- a row in memory, wherever it lies -/
def RowC (w : World) (size : Nat) (v : Value) (css : List (List Value)) : Prop :=
  css.length ≤ maxLen ∧ (∀ c ∈ css, c.length = size) ∧ ∃ A cap, v = .slice A css.length cap ∧ css.length ≤ cap ∧ (∀ (j : Nat) (c : List Value), css[j]? = some c → ∃ g o, A = some ⟨g, o, none⟩ ∧ g < w.heap.size ∧ w.rangeAt g (o + j * size) c) ∧ Unf w v
theorem RowC.gr {w w' : World} {size : Nat} {v : Value} {css : List (List Value)} (h : RowC w size v css) (hg : Gr w w') : RowC w' size v css := by
  obtain ⟨h0, h1, A, cap, h2, h3, h4, h5⟩ := h
  refine ⟨h0, h1, A, cap, h2, h3, fun j c hc => ?_, h5.gr hg⟩
  obtain ⟨g, o, e, hl, hr⟩ := h4 j c hc
  exact ⟨g, o, e, Nat.lt_of_lt_of_le hl hg.size, range_gr hr hl hg⟩
theorem RowC.form {w : World} {size : Nat} {v : Value} {css : List (List Value)} (h : RowC w size v css) : ∃ A cap, v = .slice A css.length cap := by
  obtain ⟨_, _, A, cap, h2, _⟩ := h
  exact ⟨A, cap, h2⟩
theorem RowC.nil (w : World) (size : Nat) : RowC w size (.slice none 0 0) [] := ⟨Nat.zero_le _, by simp, none, 0, rfl, Nat.le_refl _, by simp, unf_nil _ _ _⟩
theorem RowC.at {w : World} {size : Nat} {A : Option Addr} {n cap : Nat} {css : List (List Value)} (h : RowC w size (.slice A n cap) css) {j : Nat} {c : List Value} (hc : css[j]? = some c) : ∃ g o, A = some ⟨g, o, none⟩ ∧ g < w.heap.size ∧ w.rangeAt g (o + j * size) c := by
  obtain ⟨_, _, A', cap', h2, _, h4, _⟩ := h
  injection h2 with e1 _ _
  subst e1
  exact h4 j c hc

def dmCells (d : Dm) : List Value := [.string d.1, .int .i64 d.2]
def hdCells (h : Hd) (kids : Value) : List Value :=
  [.int .i64 h.op, .string h.val.1, .int .i64 h.val.2, .string h.wid.1, .int .i64 h.wid.2, .string h.hi.1, .int .i64 h.hi.2, .string h.lo.1, .int .i64 h.lo.2, .string h.name, kids]
/-- an expression's eleven cells -/
inductive ExAt (w : World) : Ex → List Value → Prop
  | mk (h : Hd) (ks : List Ex) (v : Value) (css : List (List Value)) (hr : RowC w 11 v css) (hl : css.length = ks.length) (hk : ∀ (j : Nat) (t : Ex) (c : List Value), ks[j]? = some t → css[j]? = some c → ExAt w t c) (hc : h.cl = true → Cln w v) : ExAt w (.mk h ks) (hdCells h v)
/-- a row's block, if it has anything -/
theorem RowC.lt {w : World} {size : Nat} {g o n c : Nat} {css : List (List Value)} (h : RowC w size (.slice (some ⟨g, o, none⟩) n c) css) (hn : 0 < n) : g < w.heap.size := by
  obtain ⟨_, _, A, cap, h2, _, h4, _⟩ := h
  injection h2 with e1 e2 e3
  obtain ⟨g', o', e4, hl, _⟩ := h4 0 (css[0]'(by omega)) (List.getElem?_eq_getElem (by omega))
  rw [← e1] at e4
  cases e4
  exact hl
theorem Cln.gr {w w' : World} {size : Nat} {v : Value} {css : List (List Value)} (h : Cln w v) (hr : RowC w size v css) (hg : Gr w w') : Cln w' v := fun g o n c e hn => by
  subst e
  obtain ⟨cs, t, h1⟩ := h g o n c rfl hn
  exact ⟨cs, t, hg.keep h1⟩
theorem ExAt.gr {w w' : World} (hg : Gr w w') {t : Ex} {cs : List Value} (h : ExAt w t cs) : ExAt w' t cs := by
  induction h with
  | mk h ks v css hr hl _ hc ih => exact .mk h ks v css (hr.gr hg) hl ih (fun e => (hc e).gr hr hg)
theorem ExAt.open {w : World} {t : Ex} {cs : List Value} (h : ExAt w t cs) : ∃ v css, cs = hdCells t.hd v ∧ RowC w 11 v css ∧ css.length = t.kids.length ∧ ∀ (j : Nat) (k : Ex) (c : List Value), t.kids[j]? = some k → css[j]? = some c → ExAt w k c := by
  cases h with
  | mk h ks v css hr hl hk hc => exact ⟨v, css, rfl, hr, hl, hk⟩
theorem ExAt.cln {w : World} {t : Ex} {hd : Hd} {v : Value} (h : ExAt w t (hdCells hd v)) (hc : t.hd.cl = true) : Cln w v := by
  generalize hcs : hdCells hd v = cs at h
  cases h with
  | mk h ks v' css hr hl hk hcl =>
    have e := congrArg (fun l => l[10]?) hcs
    simp [hdCells] at e
    subst e
    exact hcl hc
def ArgsAt (w : World) (args : List Dm) (v : Value) : Prop := RowC w 2 v (args.map dmCells)
def BindsAt (w : World) (binds : List (ByteArray × Ex)) (v : Value) : Prop :=
  ∃ css : List (List Value), RowC w 12 v css ∧ css.length = binds.length ∧ ∀ (j : Nat) (b : ByteArray × Ex), binds[j]? = some b → ∃ ce, css[j]? = some (.string b.1 :: ce) ∧ ExAt w b.2 ce
def itCells (i : It) (av bv : Value) (ce ca ci : List Value) : List Value :=
  [.int .i64 i.kind, .string i.name, .string i.wid.1, .int .i64 i.wid.2, .string i.val.1, .int .i64 i.val.2, .string i.mod, av, bv] ++ (ce ++ (ca ++ ci))
def ItAt (w : World) (i : It) (cs : List Value) : Prop :=
  ∃ av bv ce ca ci, cs = itCells i av bv ce ca ci ∧ ArgsAt w i.args av ∧ BindsAt w i.binds bv ∧ ExAt w i.e ce ∧ ExAt w i.at_ ca ∧ ExAt w i.if_ ci
theorem BindsAt.gr {w w' : World} (hg : Gr w w') {bs : List (ByteArray × Ex)} {v : Value} (h : BindsAt w bs v) : BindsAt w' bs v := by
  obtain ⟨css, h1, h2, h3⟩ := h
  refine ⟨css, h1.gr hg, h2, fun j b hb => ?_⟩
  obtain ⟨ce, e1, e2⟩ := h3 j b hb
  exact ⟨ce, e1, e2.gr hg⟩
theorem ItAt.gr {w w' : World} (hg : Gr w w') {i : It} {cs : List Value} (h : ItAt w i cs) : ItAt w' i cs := by
  obtain ⟨av, bv, ce, ca, ci, e, h1, h2, h3, h4, h5⟩ := h
  exact ⟨av, bv, ce, ca, ci, e, h1.gr hg, h2.gr hg, h3.gr hg, h4.gr hg, h5.gr hg⟩
def portCells (p : Bool × ByteArray × Dm) : List Value := [.bool p.1, .string p.2.1, .string p.2.2.1, .int .i64 p.2.2.2]
def ParamsAt (w : World) (ps : List ByteArray) (v : Value) : Prop := RowC w 1 v (ps.map fun s => [Value.string s])
def PortsAt (w : World) (ps : List (Bool × ByteArray × Dm)) (v : Value) : Prop := RowC w 4 v (ps.map portCells)
def ItemsAt (w : World) (is : List It) (v : Value) : Prop :=
  ∃ css : List (List Value), RowC w 42 v css ∧ css.length = is.length ∧ ∀ (j : Nat) (i : It), is[j]? = some i → ∃ cs, css[j]? = some cs ∧ ItAt w i cs
def MoAt (w : World) (m : Mo) (cs : List Value) : Prop := ∃ pv qv iv, cs = [.string m.name, pv, qv, iv] ∧ ParamsAt w m.params pv ∧ PortsAt w m.ports qv ∧ ItemsAt w m.items iv
def ModsAt (w : World) (ms : List Mo) (v : Value) : Prop :=
  ∃ css : List (List Value), RowC w 4 v css ∧ css.length = ms.length ∧ ∀ (j : Nat) (m : Mo), ms[j]? = some m → ∃ cs, css[j]? = some cs ∧ MoAt w m cs
theorem ItemsAt.gr {w w' : World} (hg : Gr w w') {is : List It} {v : Value} (h : ItemsAt w is v) : ItemsAt w' is v := by
  obtain ⟨css, h1, h2, h3⟩ := h
  refine ⟨css, h1.gr hg, h2, fun j b hb => ?_⟩
  obtain ⟨ce, e1, e2⟩ := h3 j b hb
  exact ⟨ce, e1, e2.gr hg⟩
theorem MoAt.gr {w w' : World} (hg : Gr w w') {m : Mo} {cs : List Value} (h : MoAt w m cs) : MoAt w' m cs := by
  obtain ⟨pv, qv, iv, e, h1, h2, h3⟩ := h
  exact ⟨pv, qv, iv, e, h1.gr hg, h2.gr hg, h3.gr hg⟩
theorem ModsAt.gr {w w' : World} (hg : Gr w w') {ms : List Mo} {v : Value} (h : ModsAt w ms v) : ModsAt w' ms v := by
  obtain ⟨css, h1, h2, h3⟩ := h
  refine ⟨css, h1.gr hg, h2, fun j b hb => ?_⟩
  obtain ⟨ce, e1, e2⟩ := h3 j b hb
  exact ⟨ce, e1, e2.gr hg⟩
theorem ex_len {w : World} {t : Ex} {cs : List Value} (h : ExAt w t cs) : cs.length = 11 := by
  obtain ⟨v, css, rfl, _⟩ := h.open
  rfl
theorem it_len {w : World} {i : It} {cs : List Value} (h : ItAt w i cs) : cs.length = 42 := by
  obtain ⟨av, bv, ce, ca, ci, rfl, _, _, h3, h4, h5⟩ := h
  simp [itCells, ex_len h3, ex_len h4, ex_len h5]
theorem size47 : (Try.prog.info? 47).map (·.size) = some 11 := by kernel_rfl
theorem size49 : (Try.prog.info? 49).map (·.size) = some 42 := by kernel_rfl
end Go.Proofs.Ytjkaeabnjkhllaa
