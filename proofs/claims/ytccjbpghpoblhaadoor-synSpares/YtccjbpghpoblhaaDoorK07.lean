/-
  EXPRESSIONS IN MEMORY; made, WALKED.
-/
import Derived.Test.YtccjbpghpoblhaaDoorK06
import Derived.Deep.RegionHeld3
import Derived.Deep.AppendLies
import Derived.Deep.RegionLaw
import Derived.Deep.DeepCutAuto
import Derived.Deep.Upon
import Derived.Deep.Light
namespace Go.Proofs.YtccjbpghpoblhaaDoor
open Go.RowKit

/-- what stands in an expression besides its kids -/
structure Hd where
  op : Nat
  val : Dm
  wid : Dm
  hi : Dm
  lo : Dm
  name : List UInt8

inductive Ex where
  | n0 (h : Hd)
  | n1 (h : Hd) (a : Ex)
  | n2 (h : Hd) (a b : Ex)
  | n3 (h : Hd) (a b c : Ex)

def Ex.deep : Ex → Nat
  | .n0 _ => 0
  | .n1 _ a => a.deep + 1
  | .n2 _ a b => max (a.deep + 1) (b.deep + 1)
  | .n3 _ a b c => max (max (a.deep + 1) (b.deep + 1)) (c.deep + 1)

def dmCells (d : Dm) : List Value := [.string (str d.1), .int .i64 (d.2 : Nat)]
def hdCells (h : Hd) (kids : Value) : List Value :=
  [.int .i64 (h.op : Nat), .string (str h.val.1), .int .i64 (h.val.2 : Nat), .string (str h.wid.1), .int .i64 (h.wid.2 : Nat), .string (str h.hi.1), .int .i64 (h.hi.2 : Nat), .string (str h.lo.1), .int .i64 (h.lo.2 : Nat), .string (str h.name), kids]

/-- kids in memory: a row of its own, in a block that F lets -/
def KidsAt (w : World) (F : Nat → Prop) (v : Value) (n : Nat) (xs : List Value) : Prop := w.ownsRow 0 57 11 v n xs ∧ ∀ g, v.ownBlock = some g → F g

/-- an expression's eleven cells -/
def ExAt (w : World) (F : Nat → Prop) : Ex → List Value → Prop
  | .n0 h, cs => cs = hdCells h (.slice none 0 0)
  | .n1 h a, cs => ∃ v ca, cs = hdCells h v ∧ KidsAt w F v 1 ca ∧ ExAt w F a ca
  | .n2 h a b, cs => ∃ v ca cb, cs = hdCells h v ∧ KidsAt w F v 2 (ca ++ cb) ∧ ExAt w F a ca ∧ ExAt w F b cb
  | .n3 h a b c, cs => ∃ v ca cb cc, cs = hdCells h v ∧ KidsAt w F v 3 (ca ++ cb ++ cc) ∧ ExAt w F a ca ∧ ExAt w F b cb ∧ ExAt w F c cc

/-- a tree behind a pointer -/
def TreeAt (w : World) (F : Nat → Prop) (t : Ex) (v : Value) : Prop :=
  ∃ g cs, v = .pointer (some ⟨g, 0, none⟩) ∧ F g ∧ w.heap[g]? = some (.cells (cs ++ [.int .i64 (t.deep : Nat)]).toArray 109 (0, 0)) ∧ ExAt w F t cs

theorem KidsAt.keep {w w' : World} {F F' : Nat → Prop} {v : Value} {n : Nat} {xs : List Value} (h : KidsAt w F v n xs) (hF : ∀ g, F g → F' g) (hk : ∀ g o, F g → w.heap[g]? = some o → w'.heap[g]? = some o) : KidsAt w' F' v n xs := by
  obtain ⟨⟨hl, h1⟩, h2⟩ := h
  refine ⟨⟨hl, ?_⟩, fun g hg => hF g (h2 g hg)⟩
  rcases h1 with h1 | ⟨g, cap, cur, hv, hb, hh, r⟩
  · exact .inl h1
  · exact .inr ⟨g, cap, cur, hv, hb, hk g _ (h2 g (by rw [hv]; rfl)) hh, r⟩

theorem ExAt.keep {w w' : World} {F F' : Nat → Prop} (hF : ∀ g, F g → F' g) (hk : ∀ g o, F g → w.heap[g]? = some o → w'.heap[g]? = some o) : ∀ (t : Ex) (cs : List Value), ExAt w F t cs → ExAt w' F' t cs
  | .n0 _, _, h => h
  | .n1 _ a, _, ⟨v, ca, e, h1, h2⟩ => ⟨v, ca, e, h1.keep hF hk, ExAt.keep hF hk a ca h2⟩
  | .n2 _ a b, _, ⟨v, ca, cb, e, h1, h2, h3⟩ => ⟨v, ca, cb, e, h1.keep hF hk, ExAt.keep hF hk a ca h2, ExAt.keep hF hk b cb h3⟩
  | .n3 _ a b c, _, ⟨v, ca, cb, cc, e, h1, h2, h3, h4⟩ => ⟨v, ca, cb, cc, e, h1.keep hF hk, ExAt.keep hF hk a ca h2, ExAt.keep hF hk b cb h3, ExAt.keep hF hk c cc h4⟩

theorem TreeAt.keep {w w' : World} {F F' : Nat → Prop} {t : Ex} {v : Value} (h : TreeAt w F t v) (hF : ∀ g, F g → F' g) (hk : ∀ g o, F g → w.heap[g]? = some o → w'.heap[g]? = some o) : TreeAt w' F' t v := by
  obtain ⟨g, cs, e, h1, h2, h3⟩ := h
  exact ⟨g, cs, e, hF g h1, hk g _ h1 h2, ExAt.keep hF hk t cs h3⟩

theorem ExAt.cells {w : World} {F : Nat → Prop} {t : Ex} {cs : List Value} (h : ExAt w F t cs) : ∃ hd A m c, cs = hdCells hd (.slice A m c) := by
  have one : ∀ {v n xs}, KidsAt w F v n xs → ∃ A m c, v = .slice A m c := by
    rintro v n xs ⟨⟨_, h1⟩, _⟩
    rcases h1 with ⟨rfl, _⟩ | ⟨g, cap, cur, rfl, _⟩ <;> exact ⟨_, _, _, rfl⟩
  cases t with
  | n0 hd => exact ⟨hd, _, _, _, h⟩
  | n1 hd a => obtain ⟨v, ca, e, h1, _⟩ := h; obtain ⟨A, m, c, rfl⟩ := one h1; exact ⟨hd, A, m, c, e⟩
  | n2 hd a b => obtain ⟨v, ca, cb, e, h1, _⟩ := h; obtain ⟨A, m, c, rfl⟩ := one h1; exact ⟨hd, A, m, c, e⟩
  | n3 hd a b c => obtain ⟨v, ca, cb, cc, e, h1, _⟩ := h; obtain ⟨A, m, c, rfl⟩ := one h1; exact ⟨hd, A, m, c, e⟩

/-- nothing old has turned -/
abbrev Gr (w w' : World) : Prop := w.grownBy w' none

theorem info57 : (Tryd.prog.info? 57).map (fun i => (i.zero, i.size, i.bytes)) = some (some (.agg #[.int .i64 0, .string ⟨#[]⟩, .int .i64 0, .string ⟨#[]⟩, .int .i64 0, .string ⟨#[]⟩, .int .i64 0, .string ⟨#[]⟩, .int .i64 0, .string ⟨#[]⟩, .slice none 0 0]), 11, 144) := by kernel_rfl

def exZero (op : Nat) : Hd := ⟨op, ([], 0), ([], 0), ([], 0), ([], 0), []⟩
def deeps (ks : List Ex) : Nat := ks.foldl (fun m k => max m (k.deep + 1)) 0

/-- the kids' pointers, in a row -/
def PtrsAt (w : World) (F : Nat → Prop) (gs : Nat) (ks : List Ex) : Prop := ∀ i t, ks[i]? = some t → ∃ v, w.cell? ⟨gs, i, none⟩ = some v ∧ TreeAt w F t v

/-- what is there of the kids while made goes over them -/
def Half (w : World) (F : Nat → Prop) (op : Nat) (ks : List Ex) (i : Nat) (wr : World) : Prop :=
  Gr w wr ∧ ∃ (v : Value) (xss : List (List Value)), wr.heap[w.heap.size]? = some (.cells ((hdCells (exZero op) v) ++ [Value.int .i64 (deeps (ks.take i) : Nat)]).toArray 109 (0, 0)) ∧ wr.ownsRow (w.heap.size + 1) 57 11 v i xss.flatten ∧ xss.length = i ∧ (∀ (j : Nat) (t : Ex), (ks.take i)[j]? = some t → ∃ cs : List Value, xss[j]? = some cs ∧ ExAt w F t cs)

theorem own_form {w : World} {base : Nat} {e : TypeId} {size : Nat} {v : Value} {n : Nat} {xs : List Value} (h : w.ownsRow base e size v n xs) : ∃ A c, v = .slice A n c := by
  rcases h.2 with ⟨rfl, rfl⟩ | ⟨g, cap, cur, rfl, _⟩
  · exact ⟨none, 0, rfl⟩
  · exact ⟨_, _, rfl⟩
theorem own_far {w : World} {base : Nat} {e : TypeId} {size : Nat} {v : Value} {n : Nat} {xs : List Value} (h : w.ownsRow base e size v n xs) {k : Nat} (hk : k < base) : some k ≠ v.ownBlock := by
  rcases h.2 with ⟨rfl, rfl⟩ | ⟨g, cap, cur, rfl, hb, _⟩
  · intro e; cases e
  · intro e
    have : k = g := Option.some.inj e
    omega
theorem own_ge {w : World} {base : Nat} {e : TypeId} {size g cap n : Nat} {xs : List Value} (h : w.ownsRow base e size (.slice (some ⟨g, 0, none⟩) n cap) n xs) : base ≤ g := by
  rcases h.2 with ⟨h1, _⟩ | ⟨g', cap', cur, hv, hb, _⟩
  · cases h1
  · injection hv with e1 e2 e3
    injection e1 with e1
    injection e1 with e1
    subst e1; exact hb
/-- the last element's cells are there -/
theorem own_last {w : World} {base : Nat} {e : TypeId} {g cap n : Nat} {xs : List Value} (h : w.ownsRow base e 11 (.slice (some ⟨g, 0, none⟩) (n + 1) cap) (n + 1) xs) :
    ∃ y : Nat → Value, (∀ j, j < 11 → w.cell? ⟨g, n * 11 + j, none⟩ = some (y j)) ∧ ∀ o, w.frozen? ⟨g, o, none⟩ = false := by
  rcases h.2 with ⟨h1, _⟩ | ⟨g', cap', cur, hv, hb, hh, hle, _, hsz, _⟩
  · cases h1
  · injection hv with e1 e2 e3
    injection e1 with e1
    injection e1 with e1
    subst e1 e3
    refine ⟨fun j => cur.getD (n * 11 + j) undef, fun j hj => ?_, fun o => frozen_at hh⟩
    rw [cell_at hh]
    have : n * 11 + j < cur.size := by rw [hsz]; omega
    rw [Array.getElem?_eq_getElem this]
    simp [Array.getD, this]

theorem setCells_block (g : Nat) (t : TypeId) (z : Nat × Nat) : ∀ (vs : List Value) (o : Nat) (w : World) (cur : Array Value), w.heap[g]? = some (.cells cur t z) → o + vs.length ≤ cur.size →
    ∃ cur' : Array Value, (w.setCells g o vs).heap[g]? = some (.cells cur' t z) ∧ cur'.size = cur.size ∧ cur'.toList = cur.toList.take o ++ vs ++ cur.toList.drop (o + vs.length)
  | [], o, w, cur, h, _ => ⟨cur, h, rfl, by simp⟩
  | v :: r, o, w, cur, h, hl => by
    have h1 : (w.setCell ⟨g, o, none⟩ v).heap[g]? = some (.cells (cur.setIfInBounds o v) t z) := by
      simp only [World.setCell, Array.getElem?_modify, h]
      rfl
    simp only [List.length_cons] at hl
    obtain ⟨cur', h2, h3, h4⟩ := setCells_block g t z r (o + 1) _ _ h1 (by simp; omega)
    refine ⟨cur', h2, by rw [h3]; simp, ?_⟩
    rw [h4]
    have hlen : o < cur.toList.length := by simp; omega
    simp only [Array.toList_setIfInBounds, List.length_cons]
    rw [List.take_set, List.drop_set_of_lt (by omega)]
    have e1 : (cur.toList.take (o + 1)).set o v = cur.toList.take o ++ [v] := by
      rw [List.set_eq_take_append_cons_drop, if_pos (by rw [List.length_take]; omega), List.take_take, List.drop_eq_nil_of_le (by rw [List.length_take]; omega)]
      rw [Nat.min_eq_left (by omega)]
    rw [e1, show o + 1 + r.length = o + (r.length + 1) from by omega]
    simp

theorem tape_setCells : ∀ (vs : List Value) (w : World) (g o : Nat), (w.setCells g o vs).tape = w.tape
  | [], _, _, _ => rfl
  | _ :: r, _, g, o => (tape_setCells r _ g (o + 1)).trans rfl

/-- a row's last element, stored anew -/
theorem own_store {w : World} {base : Nat} {e : TypeId} {g cap n : Nat} {xs zs cs : List Value} (h : w.ownsRow base e 11 (.slice (some ⟨g, 0, none⟩) (n + 1) cap) (n + 1) (xs ++ zs)) (hx : xs.length = n * 11) (hc : cs.length = 11) :
    (w.setCells g (n * 11) cs).ownsRow base e 11 (.slice (some ⟨g, 0, none⟩) (n + 1) cap) (n + 1) (xs ++ cs) := by
  rcases h.2 with ⟨h1, _⟩ | ⟨g', cap', cur, hv, hb, hh, hle, hm, hsz, htk⟩
  · cases h1
  · injection hv with e1 e2 e3
    injection e1 with e1
    injection e1 with e1
    subst e1 e3
    obtain ⟨cur', k1, k2, k3⟩ := setCells_block g e (0, 0) cs (n * 11) w cur hh (by rw [hc, hsz]; omega)
    refine ⟨by rw [List.length_append, hx, hc]; omega, .inr ⟨g, cap, cur', rfl, hb, k1, hle, hm, by rw [k2, hsz], ?_⟩⟩
    have hcl : cur.toList.length = cap * 11 := by simp [hsz]
    have ex : cur.toList.take (n * 11) = xs := by
      have h5 : cur.toList.take (n * 11) = (cur.toList.take ((n + 1) * 11)).take (n * 11) := by rw [List.take_take, Nat.min_eq_left (by omega)]
      rw [h5, htk, ← hx, List.take_left]
    rw [k3, ex, show (n + 1) * 11 = (xs ++ cs).length from by rw [List.length_append, hx, hc]; omega, List.append_assoc, ← List.append_assoc, List.take_left]

theorem setCells11 (w : World) (g o : Nat) (x0 x1 x2 x3 x4 x5 x6 x7 x8 x9 x10 : Value) : w.setCells g o [x0, x1, x2, x3, x4, x5, x6, x7, x8, x9, x10] = ((((((((((w.setCell ⟨g, o, none⟩ x0).setCell ⟨g, o + 1, none⟩ x1).setCell ⟨g, o + 2, none⟩ x2).setCell ⟨g, o + 3, none⟩ x3).setCell ⟨g, o + 4, none⟩ x4).setCell ⟨g, o + 5, none⟩ x5).setCell ⟨g, o + 6, none⟩ x6).setCell ⟨g, o + 7, none⟩ x7).setCell ⟨g, o + 8, none⟩ x8).setCell ⟨g, o + 9, none⟩ x9).setCell ⟨g, o + 10, none⟩ x10 := rfl

theorem setCell_swap (w : World) (a b : Addr) (u v : Value) (h : a.block ≠ b.block) : (w.setCell a u).setCell b v = (w.setCell b v).setCell a u := by
  unfold World.setCell
  congr 1
  apply Array.ext_getElem?
  intro i
  simp only [Array.getElem?_modify]
  by_cases h1 : a.block = i <;> by_cases h2 : b.block = i
  · omega
  · simp [h1, h2]
  · simp [h1, h2]
  · simp [h1, h2]
theorem setCells_swap (g : Nat) (a : Addr) (u : Value) (h : a.block ≠ g) : ∀ (vs : List Value) (w : World) (o : Nat), (w.setCell a u).setCells g o vs = (w.setCells g o vs).setCell a u
  | [], _, _ => rfl
  | v :: r, w, o => by
    show (((w.setCell a u).setCell ⟨g, o, none⟩ v).setCells g (o + 1) r) = ((w.setCell ⟨g, o, none⟩ v).setCells g (o + 1) r).setCell a u
    rw [setCell_swap w a ⟨g, o, none⟩ u v h, setCells_swap g a u h r]

/-- what made has behind one more kid, but for how deep it is -/
def Mid (w : World) (op i d : Nat) (xs : List Value) (wx : World) : Prop :=
  Gr w wx ∧ ∃ g cap, wx.heap[w.heap.size]? = some (.cells ((hdCells (exZero op) (.slice (some ⟨g, 0, none⟩) (i + 1) cap)) ++ [Value.int .i64 (d : Nat)]).toArray 109 (0, 0)) ∧ wx.ownsRow (w.heap.size + 1) 57 11 (.slice (some ⟨g, 0, none⟩) (i + 1) cap) (i + 1) xs

theorem mid_of {w wr w1 : World} {o : Obj} {op i d g cap : Nat} {A : Option Addr} {c0 : Nat} {xs zs cs : List Value} (hgr : Gr w wr) (hb : wr.heap[w.heap.size]? = some (.cells ((hdCells (exZero op) (.slice A i c0)) ++ [Value.int .i64 (d : Nat)]).toArray 109 (0, 0)))
    (hown : wr.ownsRow (w.heap.size + 1) 57 11 (.slice A i c0) i xs) (hgrow : ((wr.alloc o).drew).grownBy w1 (Value.slice A i c0).ownBlock)
    (hown1 : w1.ownsRow (w.heap.size + 1) 57 11 (.slice (some ⟨g, 0, none⟩) (i + 1) cap) (i + 1) (xs ++ zs)) (hc : cs.length = 11) :
    Mid w op i d (xs ++ cs) ((w1.setCells g (i * 11) cs).setCell ⟨w.heap.size, 10, none⟩ (.slice (some ⟨g, 0, none⟩) (i + 1) cap)) := by
  have hwlt := heap_lt hb
  have hge := own_ge hown1
  have far : ∀ k, k < w.heap.size + 1 → w1.heap[k]? = wr.heap[k]? := fun k hk => by
    have h1 := hgrow.block k (by show k < (wr.alloc o).heap.size; simp; omega) (own_far hown hk)
    rw [h1]
    exact Below.heap_alloc _ _ _ (by omega)
  have hsz : w1.heap.size ≥ wr.heap.size := by
    have := hgrow.size
    have h2 : ((wr.alloc o).drew).heap.size = wr.heap.size + 1 := by show (wr.alloc o).heap.size = _; simp
    omega
  have hk0 : ∀ k, k < w.heap.size + 1 → (w1.setCells g (i * 11) cs).heap[k]? = wr.heap[k]? := fun k hk => (World.heap_setCells_other w1 g _ _ (by omega) (by omega)).trans (far k hk)
  refine ⟨⟨?_, ?_, ?_, ?_, ?_⟩, g, cap, ?_, ?_⟩
  · show (w1.setCells g (i * 11) cs).os = w.os
    rw [World.os_setCells]; exact hgrow.os.trans hgr.os
  · show (w1.setCells g (i * 11) cs).tape = w.tape
    exact (tape_setCells _ w1 _ _).trans (hgrow.tape.trans hgr.tape)
  · show (w1.setCells g (i * 11) cs).output = w.output
    rw [World.output_setCells]; exact hgrow.output.trans hgr.output
  · have h1 := heap_lt ((hk0 w.heap.size (by omega)).trans hb)
    have h2 : ((w1.setCells g (i * 11) cs).setCell ⟨w.heap.size, 10, none⟩ (.slice (some ⟨g, 0, none⟩) (i + 1) cap)).heap.size = (w1.setCells g (i * 11) cs).heap.size := by simp [World.setCell]
    omega
  · intro k hk _
    rw [Below.heap_setCell _ _ _ _ (by simp; omega), hk0 k (by omega)]
    exact hgr.block k hk (by simp)
  · have h1 := (hk0 w.heap.size (by omega)).trans hb
    simp only [World.setCell, Array.getElem?_modify, h1]
    rfl
  · have h1 := own_store hown1 hown.1 hc
    exact ownsRow_setCell_below h1 (by simp) _

theorem far_new {wr w1 : World} {o : Obj} {row : Option Nat} (hg : ((wr.alloc o).drew).grownBy w1 row) {b off : Nat} {v : Value} (hb : b < wr.heap.size) (hn : some b ≠ row) (hc : wr.cell? ⟨b, off, none⟩ = some v) : w1.cell? ⟨b, off, none⟩ = some v := by
  have h1 := hg.cell_far ⟨b, off, none⟩ (by show b < (wr.alloc o).heap.size; simp; omega) hn
  have h2 : ((wr.alloc o).drew).cell? ⟨b, off, none⟩ = (wr.alloc o).cell? ⟨b, off, none⟩ := rfl
  rw [h1, h2, World.cell?_alloc_past _ _ _ hb]; exact hc
theorem far_frz {wr w1 : World} {o : Obj} {row : Option Nat} (hg : ((wr.alloc o).drew).grownBy w1 row) {b off : Nat} (hb : b < wr.heap.size) (hn : some b ≠ row) (hc : wr.frozen? ⟨b, off, none⟩ = false) : w1.frozen? ⟨b, off, none⟩ = false := by
  have h1 := hg.frozen_far ⟨b, off, none⟩ (by show b < (wr.alloc o).heap.size; simp; omega) hn
  have h2 : ((wr.alloc o).drew).frozen? ⟨b, off, none⟩ = (wr.alloc o).frozen? ⟨b, off, none⟩ := rfl
  rw [h1, h2, World.frozen?_alloc_past _ _ _ hb]; exact hc

def mkEx (h : Hd) : List Ex → Ex
  | [a] => .n1 h a
  | [a, b] => .n2 h a b
  | [a, b, c] => .n3 h a b c
  | _ => .n0 h
def MadeRet (at_ op : Nat) (ks : List Ex) (F : Nat → Prop) (w : World) (e : Ending) (w' : World) : Prop :=
  Gr w w' ∧ ((deeps ks ≤ 8 ∧ ∃ v, e = .returned v ∧ TreeAt w' (fun g => F g ∨ w.heap.size ≤ g) (mkEx (exZero op) ks) v) ∨ (8 < deeps ks ∧ e = panicV 2 at_))

theorem deeps_snoc {ks : List Ex} {i : Nat} {t : Ex} (h : ks[i]? = some t) : deeps (ks.take (i + 1)) = max (deeps (ks.take i)) (t.deep + 1) := by
  unfold deeps
  rw [List.take_add_one, h, List.foldl_append]
  rfl
theorem deeps_le : ∀ (ks : List Ex) (m : Nat), m ≤ 9 → (∀ k ∈ ks, k.deep ≤ 8) → ks.foldl (fun m k => max m (k.deep + 1)) m ≤ 9
  | [], m, h, _ => h
  | k :: r, m, h, hk => by
    rw [List.foldl_cons]
    have h1 := hk k (by simp)
    exact deeps_le r _ (by omega) (fun x hx => hk x (by simp [hx]))

theorem half_next {w wc : World} {F : Nat → Prop} {op : Nat} {ks : List Ex} {i : Nat} {t : Ex} {g2 cap2 : Nat} {xss : List (List Value)} {cs : List Value} {x : Int}
    (ht : ks[i]? = some t) (hgr : Gr w wc) (hb : wc.heap[w.heap.size]? = some (.cells ((hdCells (exZero op) (.slice (some ⟨g2, 0, none⟩) (i + 1) cap2)) ++ [Value.int .i64 (deeps (ks.take i) : Nat)]).toArray 109 (0, 0)))
    (hown : wc.ownsRow (w.heap.size + 1) 57 11 (.slice (some ⟨g2, 0, none⟩) (i + 1) cap2) (i + 1) (xss.flatten ++ cs)) (hxl : xss.length = i)
    (hxs : ∀ (j : Nat) (t : Ex), (ks.take i)[j]? = some t → ∃ cs : List Value, xss[j]? = some cs ∧ ExAt w F t cs) (hex : ExAt w F t cs) (hx : x = (deeps (ks.take (i + 1)) : Nat)) :
    Half w F op ks (i + 1) (wc.setCell ⟨w.heap.size, 11, none⟩ (.int .i64 x)).drew := by
  subst hx
  refine ⟨⟨hgr.os, hgr.tape, hgr.output, ?_, ?_⟩, .slice (some ⟨g2, 0, none⟩) (i + 1) cap2, xss ++ [cs], ?_, ?_, by simp [hxl], ?_⟩
  · show w.heap.size ≤ (wc.setCell _ _).heap.size
    have := hgr.size
    simpa [World.setCell] using this
  · intro k hk h2
    exact (Below.heap_setCell _ _ _ _ (by show k ≠ w.heap.size; omega)).trans (hgr.block k hk h2)
  · show (wc.setCell _ _).heap[w.heap.size]? = _
    simp only [World.setCell, Array.getElem?_modify, hb]
    rfl
  · have h1 := ownsRow_setCell_below hown (a := ⟨w.heap.size, 11, none⟩) (by simp) (.int .i64 ((deeps (ks.take (i + 1)) : Nat) : Int))
    have e : (xss ++ [cs]).flatten = xss.flatten ++ cs := by simp
    rw [e]
    exact h1
  · intro j u hj
    have hl : i < ks.length := (List.getElem?_eq_some_iff.1 ht).1
    rw [List.take_add_one, ht] at hj
    by_cases hji : j < i
    · rw [List.getElem?_append_left (by rw [List.length_take]; omega)] at hj
      obtain ⟨c, h1, h2⟩ := hxs j u hj
      exact ⟨c, by rw [List.getElem?_append_left (by omega)]; exact h1, h2⟩
    · rw [List.getElem?_append_right (by rw [List.length_take]; omega), List.length_take, Nat.min_eq_left (by omega)] at hj
      have hj0 : j = i := by
        rcases Nat.lt_or_ge (j - i) 1 with h3 | h3
        · omega
        · rw [List.getElem?_eq_none (by simpa using h3)] at hj; cases hj
      subst hj0
      simp at hj
      subst hj
      exact ⟨cs, by rw [List.getElem?_append_right (by omega), hxl]; simp, hex⟩

theorem made_tree {w wr : World} {F : Nat → Prop} {op : Nat} {ks : List Ex} (h1 : 1 ≤ ks.length) (h3 : ks.length ≤ 3) (h : Half w F op ks ks.length wr) : TreeAt wr (fun g => F g ∨ w.heap.size ≤ g) (mkEx (exZero op) ks) (.pointer (some ⟨w.heap.size, 0, none⟩)) := by
  obtain ⟨hgr, v, xss, hb, hown, hxl, hxs⟩ := h
  have hv : KidsAt wr (fun g => F g ∨ w.heap.size ≤ g) v ks.length xss.flatten := by
    refine ⟨⟨hown.1, ?_⟩, ?_⟩
    · rcases hown.2 with h | ⟨g, cap, cur, a, b, r⟩
      · exact .inl h
      · exact .inr ⟨g, cap, cur, a, Nat.zero_le _, r⟩
    · intro g hg
      rcases hown.2 with ⟨rfl, _⟩ | ⟨g', cap, cur, rfl, hb', _⟩
      · cases hg
      · have : g' = g := Option.some.inj hg
        exact .inr (by omega)
  have kp : ∀ (t : Ex) (cs : List Value), ExAt w F t cs → ExAt wr (fun g => F g ∨ w.heap.size ≤ g) t cs := fun t cs h => ExAt.keep (fun g hg => .inl hg) (fun g o _ ho => (hgr.block g (heap_lt ho) (by simp)).trans ho) t cs h
  rw [List.take_length] at hb hxs
  have hdp : (mkEx (exZero op) ks).deep = deeps ks ∧ ExAt wr (fun g => F g ∨ w.heap.size ≤ g) (mkEx (exZero op) ks) (hdCells (exZero op) v) := by
    match ks, xss, h1, h3, hxl, hxs, hv with
    | [a], [ca], _, _, _, hxs, hv =>
      obtain ⟨c, e1, e2⟩ := hxs 0 a rfl
      obtain rfl : ca = c := by simpa using e1
      refine ⟨by simp [mkEx, Ex.deep, deeps], v, ca, rfl, by simpa using hv, kp _ _ e2⟩
    | [a, b], [ca, cb], _, _, _, hxs, hv =>
      obtain ⟨c, e1, e2⟩ := hxs 0 a rfl
      obtain rfl : ca = c := by simpa using e1
      obtain ⟨c, e1, e3⟩ := hxs 1 b rfl
      obtain rfl : cb = c := by simpa using e1
      refine ⟨by simp [mkEx, Ex.deep, deeps], v, ca, cb, rfl, by simpa using hv, kp _ _ e2, kp _ _ e3⟩
    | [a, b, d], [ca, cb, cd], _, _, _, hxs, hv =>
      obtain ⟨c, e1, e2⟩ := hxs 0 a rfl
      obtain rfl : ca = c := by simpa using e1
      obtain ⟨c, e1, e3⟩ := hxs 1 b rfl
      obtain rfl : cb = c := by simpa using e1
      obtain ⟨c, e1, e4⟩ := hxs 2 d rfl
      obtain rfl : cd = c := by simpa using e1
      refine ⟨by simp [mkEx, Ex.deep, deeps], v, ca, cb, cd, rfl, by simpa using hv, kp _ _ e2, kp _ _ e3, kp _ _ e4⟩
    | [], _, h1, _, _, _, _ => simp at h1
    | _ :: _ :: _ :: _ :: _, _, _, h3, _, _, _ => simp at h3
    | [_], [], _, _, h, _, _ => simp at h
    | [_], _ :: _ :: _, _, _, h, _, _ => simp at h
    | [_, _], [], _, _, h, _, _ => simp at h
    | [_, _], [_], _, _, h, _, _ => simp at h
    | [_, _], _ :: _ :: _ :: _, _, _, h, _, _ => simp at h
    | [_, _, _], [], _, _, h, _, _ => simp at h
    | [_, _, _], [_], _, _, h, _, _ => simp at h
    | [_, _, _], [_, _], _, _, h, _, _ => simp at h
    | [_, _, _], _ :: _ :: _ :: _ :: _, _, _, h, _, _ => simp at h
  exact ⟨w.heap.size, _, rfl, .inr (Nat.le_refl _), by rw [hb, hdp.1], hdp.2⟩

set_option maxRecDepth 100000 in
set_option maxHeartbeats 2000000 in
theorem made_any (at_ op : Nat) (gs cp : Nat) (ks : List Ex) (F : Nat → Prop) (w : World) (hk1 : 1 ≤ ks.length) (hks : ks.length ≤ 3) (hdp : ∀ k ∈ ks, k.deep ≤ 8) (hgs : gs < w.heap.size) (hp : Hid (PtrsAt w F gs ks)) :
    Calls Tryd.prog 75 #[.int .i64 (at_ : Nat), .int .i64 (op : Nat), .slice (some ⟨gs, 0, none⟩) ks.length cp] w (MadeRet at_ op ks F w) := by
  have HDP := Lib.hid hdp
  clear hdp
  obtain ⟨i0, hi, hz0, hz1, hz2⟩ := info_parts info57
  have HI := Lib.hid (And.intro hi (And.intro hz0 (And.intro hz1 hz2)))
  clear hi hz0 hz1 hz2
  go_enter Tryd.func75, Tryd.ntmps75
  go_wp2_with fail
  go_loopg [16] ks.length (fun g x wr => ∃ i : Nat, i + g = ks.length ∧ x = .int .i64 (i : Nat) ∧ Hid (Half w F op ks i wr))
  case atStart =>
    refine ⟨0, by omega, rfl, Lib.hid ⟨⟨rfl, rfl, rfl, by simp, fun k hk _ => Below.heap_alloc _ _ _ hk⟩, .slice none 0 0, [], ?_, ?_, rfl, ?_⟩⟩
    · exact new_at w _
    · exact World.ownsRow_nil _ _ _ _
    · intro j t ht; simp at ht
  case round =>
    obtain ⟨i, hig, rfl, HH⟩ := hrel
    have HK := Lib.hid hig
    clear hig
    by_cases hlt : i < ks.length
    · obtain ⟨hgr, v, xss, hb, hown, hxl, hxs⟩ := HH.out
      have hgrs := hgr.size
      obtain ⟨A, c0, rfl⟩ := own_form hown
      obtain ⟨t, ht⟩ : ∃ t, ks[i]? = some t := ⟨_, List.getElem?_eq_getElem hlt⟩
      obtain ⟨pv, hpc, gk, cs, rfl, hFg, hgk, hex⟩ := hp.out i t ht
      have hgklt := heap_lt hgk
      have htd : t.deep ≤ 8 := HDP.out t (List.mem_of_getElem? ht)
      have hdd : deeps (ks.take i) ≤ 9 := deeps_le _ 0 (by omega) (fun k hk => HDP.out k (List.mem_of_mem_take hk))
      obtain ⟨hd, kA, km, kc, rfl⟩ := hex.cells
      have hgk' : wr.heap[gk]? = _ := (hgr.block gk hgklt (by simp)).trans hgk
      have hpc' : wr.cell? ⟨gs, i, none⟩ = some (.pointer (some ⟨gk, 0, none⟩)) := (World.cell?_of_block (a := ⟨gs, i, none⟩) (hgr.block gs hgs (by simp))).trans hpc
      have hwlt := heap_lt hb
      have hi0 : (0 : Int) ≤ (i : Int) := Int.natCast_nonneg _
      have hi1 : (i : Int) < (ks.length : Int) := by omega
      have hi2 : (i : Int) < (i : Int) + 1 := by omega
      have hi3 : (i : Int) < ((i + 1 : Nat) : Int) := by omega
      have t10 : wr.cell? ⟨w.heap.size, 10, none⟩ = some (.slice A i c0) := by rw [cell_at hb]; rfl
      have t11 : wr.cell? ⟨w.heap.size, 11, none⟩ = some (.int .i64 (deeps (ks.take i) : Nat)) := by rw [cell_at hb]; rfl
      have k0 : wr.cell? ⟨gk, 0, none⟩ = some (.int .i64 (hd.op : Nat)) := by rw [cell_at hgk']; rfl
      have k1 : wr.cell? ⟨gk, 1, none⟩ = some (.string (str hd.val.1)) := by rw [cell_at hgk']; rfl
      have k2 : wr.cell? ⟨gk, 2, none⟩ = some (.int .i64 (hd.val.2 : Nat)) := by rw [cell_at hgk']; rfl
      have k3 : wr.cell? ⟨gk, 3, none⟩ = some (.string (str hd.wid.1)) := by rw [cell_at hgk']; rfl
      have k4 : wr.cell? ⟨gk, 4, none⟩ = some (.int .i64 (hd.wid.2 : Nat)) := by rw [cell_at hgk']; rfl
      have k5 : wr.cell? ⟨gk, 5, none⟩ = some (.string (str hd.hi.1)) := by rw [cell_at hgk']; rfl
      have k6 : wr.cell? ⟨gk, 6, none⟩ = some (.int .i64 (hd.hi.2 : Nat)) := by rw [cell_at hgk']; rfl
      have k7 : wr.cell? ⟨gk, 7, none⟩ = some (.string (str hd.lo.1)) := by rw [cell_at hgk']; rfl
      have k8 : wr.cell? ⟨gk, 8, none⟩ = some (.int .i64 (hd.lo.2 : Nat)) := by rw [cell_at hgk']; rfl
      have k9 : wr.cell? ⟨gk, 9, none⟩ = some (.string (str hd.name)) := by rw [cell_at hgk']; rfl
      have k10 : wr.cell? ⟨gk, 10, none⟩ = some (.slice kA km kc) := by rw [cell_at hgk']; rfl
      have k11 : wr.cell? ⟨gk, 11, none⟩ = some (.int .i64 (t.deep : Nat)) := by rw [cell_at hgk']; rfl
      have f10 : wr.frozen? ⟨w.heap.size, 10, none⟩ = false := frozen_at hb
      have f11 : wr.frozen? ⟨w.heap.size, 11, none⟩ = false := frozen_at hb
      have a1 := own_far hown (k := w.heap.size) (by omega)
      have a2 := own_far hown (k := gk) (by omega)
      have HA := Lib.hid (And.intro a1 a2)
      have HO := Lib.hid hown
      have HX := Lib.hid (And.intro hb (And.intro hgk (And.intro hxl (And.intro hxs (And.intro ht (And.intro hex hgr))))))
      have hgklt2 : gk < wr.heap.size := by omega
      clear hb hgk' hxl hxs ht hex hown hgr hgk hpc HH a1 a2
      go_upto_region 5 with fail
      go_cut [] (fun wx => Hid (Mid w op i (deeps (ks.take i)) (xss.flatten ++ hdCells hd (.slice kA km kc)) wx))
      case first =>
        go_region_law
          ((refine step_append_lies _ (by rfl) _ _ _ (by rfl) (w.heap.size + 1) 57 i0 _ 11 144 Tryd.underlying55 HI.out.1 HI.out.2.1 HI.out.2.2.1 HI.out.2.2.2 rfl (by omega) (.slice A i c0) i xss.flatten (by rfl) ((HO.out.alloc _).drew)
              ⟨wr.heap.size, 0, none⟩ 1 1 [.int .i64 0, .string ⟨#[]⟩, .int .i64 0, .string ⟨#[]⟩, .int .i64 0, .string ⟨#[]⟩, .int .i64 0, .string ⟨#[]⟩, .int .i64 0, .string ⟨#[]⟩, .slice none 0 0] (by rfl) (by rfl) (World.news_of_block (cs := #[.int .i64 0, .string ⟨#[]⟩, .int .i64 0, .string ⟨#[]⟩, .int .i64 0, .string ⟨#[]⟩, .int .i64 0, .string ⟨#[]⟩, .int .i64 0, .string ⟨#[]⟩, .slice none 0 0]) (t := 57) (fr := (0, 0)) (heap_alloc_new wr _)) (by simp [Value.oneCell'])
              (by omega) (by unfold maxLen; omega) (by omega) (by simp; omega) (wr.heap.size + 1) (by simp) ?_; intro g cap w1 hown1 hgrow hat1 hlt1; obtain ⟨y, hy, hfz⟩ := own_last hown1; have q0 : w1.cell? ⟨g, i * 11, none⟩ = some (y 0) := hy 0 (by omega); have q1 := hy 1 (by omega); have q2 := hy 2 (by omega); have q3 := hy 3 (by omega); have q4 := hy 4 (by omega); have q5 := hy 5 (by omega); have q6 := hy 6 (by omega); have q7 := hy 7 (by omega); have q8 := hy 8 (by omega); have q9 := hy 9 (by omega); have q10 := hy 10 (by omega); clear hy; have t10' := far_new hgrow hwlt HA.out.1 t10; have t11' := far_new hgrow hwlt HA.out.1 t11; have k11' := far_new hgrow hgklt2 HA.out.2 k11; have hge := own_ge hown1; have hg1 : ¬ g = w.heap.size := (by omega); have hg2 : ¬ w.heap.size = g := (by omega); have hg3 : ¬ g = gk := (by omega); have hg4 : ¬ gk = g := (by omega); have f10' := far_frz hgrow hwlt HA.out.1 f10; have f11' := far_frz hgrow hwlt HA.out.1 f11))
        all_goals
          go_wp2_with fail
          go_meet
        all_goals
          refine Lib.hid ?_
          first
            | (rw [← setCells11 w1 g (i * 11)]; exact mid_of HX.out.2.2.2.2.2.2 HX.out.1 HO.out hgrow hown1 rfl)
            | (rw [← setCells11 (w1.setCell ⟨w.heap.size, 10, none⟩ (.slice (some ⟨g, 0, none⟩) (i + 1) cap)) g (i * 11), setCells_swap g _ _ (by show w.heap.size ≠ g; omega)]; exact mid_of HX.out.2.2.2.2.2.2 HX.out.1 HO.out hgrow hown1 rfl)
      case rest =>
        obtain ⟨hgr2, g2, cap2, hb2, hown2⟩ := hcut.out
        have u11 : wc.cell? ⟨w.heap.size, 11, none⟩ = some (.int .i64 (deeps (ks.take i) : Nat)) := by rw [cell_at hb2]; rfl
        have y11 : wc.cell? ⟨gk, 11, none⟩ = some (.int .i64 (t.deep : Nat)) := by rw [cell_at ((hgr2.block gk hgklt (by simp)).trans HX.out.2.1)]; rfl
        have v11 : wc.frozen? ⟨w.heap.size, 11, none⟩ = false := frozen_at hb2
        have HC := Lib.hid (And.intro hgr2 (And.intro hb2 hown2))
        clear hgr2 hb2 hown2 hcut t10 t11 k0 k1 k2 k3 k4 k5 k6 k7 k8 k9 k10 k11 f10 f11
        go_wp2_with fail
        go_region
        all_goals go_wp2_with fail
        all_goals
          go_roundg (ks.length - (i + 1))
          case measure => go_light; have h1 := HK.out; omega
          case rel =>
            refine ⟨i + 1, by omega, by go_num, Lib.hid ?_⟩
            refine half_next HX.out.2.2.2.2.1 HC.out.1 HC.out.2.1 HC.out.2.2 HX.out.2.2.1 HX.out.2.2.2.1 HX.out.2.2.2.2.2.1 ?_
            rw [deeps_snoc HX.out.2.2.2.2.1]
            go_light
            omega
    · obtain rfl : i = ks.length := by have := HK.out; omega
      obtain ⟨hgr, v, xss, hb, hrest⟩ := HH.out
      have t11 : wr.cell? ⟨w.heap.size, 11, none⟩ = some (.int .i64 (deeps ks : Nat)) := by rw [cell_at hb, List.take_length]; rfl
      have HG := Lib.hid hgr
      clear hb hrest hgr
      by_cases h8 : deeps ks ≤ 8
      · have h8' : ¬ (8 : Int) < (deeps ks : Int) := by omega
        go_wp2_with fail
        go_ret
        exact ⟨HG.out, .inl ⟨h8, _, rfl, made_tree hk1 hks HH.out⟩⟩
      · have h8' : (8 : Int) < (deeps ks : Int) := by omega
        go_wp2_with fail
        exact ⟨rfl, HG.out, .inr ⟨by omega, rfl⟩⟩

end Go.Proofs.YtccjbpghpoblhaaDoor

