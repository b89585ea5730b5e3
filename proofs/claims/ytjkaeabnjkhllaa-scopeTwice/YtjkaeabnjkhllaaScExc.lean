/-
  A kid is put on top of what is left: the region by itself, in each of its orders.
-/
import Derived.Test.YtjkaeabnjkhllaaScExb
namespace Go.Proofs.Ytjkaeabnjkhllaa
open Go.RowKit Go.Shelf
attribute [local go_sem] Oper.semAt_some

theorem World.ownsRow.drewN {w : World} {base : Nat} {e : TypeId} {size : Nat} {v : Value} {n : Nat} {xs : List Value} (h : w.ownsRow base e size v n xs) (k : Nat) : (w.drewN k).ownsRow base e size v n xs := h
/-- the frame of a round over kids -/
def FrK (w : World) (ck : Array Value) (i : Value) (ev : Array Value) (u : Nat → Value) (x : Kc) (Bx : Nat) : Array Value :=
  #[.agg ck, i, .agg ev, .pointer (some ⟨w.heap.size, 0, none⟩), undef, .pointer (some ⟨w.heap.size + 1, 0, none⟩), .int .i64 0, .pointer (some ⟨w.heap.size + 4, 0, none⟩), .map (some (w.heap.size + 3)), u 9, u 10, u 11, .pointer (some ⟨Bx, 0, none⟩), u 13, u 14, u 15, u 16, u 17, u 18, u 19, u 20, u 21, u 22, u 23, u 24, u 25, u 26, u 27, u 28, u 29, u 30, u 31, u 32, u 33, u 34, u 35, u 36, u 37, u 38, u 39, u 40, u 41, u 42, u 43, u 44, u 45, u 46, u 47, u 48, u 49, u 50, u 51, u 52, u 53, u 54, u 55, u 56, u 57, u 58, u 59, u 60, u 61, u 62, .int .i64 (x.1 : Nat), .agg #[.int .i64 x.2.1.op, .string x.2.1.val.1, .int .i64 x.2.1.val.2, .string x.2.1.wid.1, .int .i64 x.2.1.wid.2, .string x.2.1.hi.1, .int .i64 x.2.1.hi.2, .string x.2.1.lo.1, .int .i64 x.2.1.lo.2, .string x.2.1.name, .slice x.2.2.1 x.2.2.2.1 x.2.2.2.2], u 65, u 66, u 67, u 68, u 69, u 70]
def kcArr (x : Kc) : Array Value := #[.int .i64 x.2.1.op, .string x.2.1.val.1, .int .i64 x.2.1.val.2, .string x.2.1.wid.1, .int .i64 x.2.1.wid.2, .string x.2.1.hi.1, .int .i64 x.2.1.hi.2, .string x.2.1.lo.1, .int .i64 x.2.1.lo.2, .string x.2.1.name, .slice x.2.2.1 x.2.2.2.1 x.2.2.2.2]
/-- a round begins: the kid lies in a box -/
def KX3 (B : Nat) (T : Kc → Nat → Array Value) (x : Kc) (a' : Act) (W : World) : Prop := ∃ Bx, B ≤ Bx ∧ W.heap[Bx]? = some (.cells (kcArr x) 47 (0, 0)) ∧ a' = { tmps := T x Bx, defers := [] }
theorem KX3.own (B : Nat) (T : Kc → Nat → Array Value) (x : Kc) (a' : Act) (B' : Nat) : OwnFrom B' (fun (_ : Unit) W => KX3 B T x a' W) := by
  rintro s W W' row ⟨Bx, h1, h2, h3⟩ hg hr
  refine ⟨Bx, h1, (hg.block Bx (heap_lt h2) (fun e => ?_)).trans h2, h3⟩
  obtain ⟨_, o, q1, q2⟩ := hr Bx e.symm
  rw [h2] at q1
  cases q1
  cases q2

/-- one block alone may be another one -/
def Only (g : Nat) (u v : World) : Prop := v.os = u.os ∧ v.tape = u.tape ∧ v.output = u.output ∧ v.heap.size = u.heap.size ∧ ∀ j, j ≠ g → v.heap[j]? = u.heap[j]?
theorem only_set (u : World) (b o : Nat) (v : Value) : Only b u (u.setCell ⟨b, o, none⟩ v) := ⟨rfl, rfl, rfl, by simp [World.setCell], fun _ hj => set_block (Ne.symm hj)⟩
theorem Only.trans {g : Nat} {a b c : World} (h : Only g a b) (k : Only g b c) : Only g a c := ⟨k.1.trans h.1, k.2.1.trans h.2.1, k.2.2.1.trans h.2.2.1, k.2.2.2.1.trans h.2.2.2.1, fun j hj => (k.2.2.2.2 j hj).trans (h.2.2.2.2 j hj)⟩
theorem only_sets {g : Nat} : ∀ (vs : List Value) (o : Nat) (u : World), Only g u (u.setCells g o vs)
  | [], _, _ => ⟨rfl, rfl, rfl, rfl, fun _ _ => rfl⟩
  | v :: r, o, u => (only_set u g o v).trans (only_sets r (o + 1) _)
/-- what a round has reached -/
def Fin (w : World) (ck : Array Value) (B Bn : Nat) (ks : List (Addr × Nat)) (sl : Value) (n0 : Nat) (base : List (List Value)) (Ds : List Nat) (pre : List Kc) (x : Kc) (W W' : World) : Prop :=
  KeepsFrom B W W' ∧ KB w.heap.size Bn W W' ∧ BI w ck B Bn ks sl n0 base Ds (pre ++ [x]) W'
set_option maxHeartbeats 2000000 in
theorem bi_leaf {w W w5 : World} {ck : Array Value} {B Bn : Nat} {ks : List (Addr × Nat)} {sl : Value} {n0 : Nat} {base : List (List Value)} {Ds : List Nat} {pre : List Kc} {x : Kc} {A : Option Addr} {c kk : Nat} (hkk : n0 + pre.length = kk) (h : BI w ck B Bn ks sl n0 base Ds pre W)
    (h4 : W.heap[w.heap.size + 4]? = some (.cells #[.slice A kk c] 45 (0, 0))) (ho : W.ownsRow (w.heap.size + 2) 47 11 (.slice A kk c) kk (base ++ pre.map kcCells).flatten)
    (hB : w.heap.size + 4 < B) (hbn : Bn ≠ w.heap.size + 4) {o : Obj} {news : List Value} {g cap : Nat} (hown : w5.ownsRow (w.heap.size + 2) 47 11 (.slice (some ⟨g, 0, none⟩) (kk + 1) cap) (kk + 1) ((base ++ pre.map kcCells).flatten ++ news)) (hgrow : (W.drew.alloc o).grownBy w5 (Value.slice A kk c).ownBlock)
    (hat : (Value.slice A kk c).ownBlock = some g ∨ g = (W.drew.alloc o).heap.size) :
    (Fin w ck B Bn ks sl n0 base Ds pre x W ((w5.setCells g (kk * 11) (kcCells x)).setCell ⟨w.heap.size + 4, 0, none⟩ (.slice (some ⟨g, 0, none⟩) (kk + 1) cap)) ∧
     Fin w ck B Bn ks sl n0 base Ds pre x W ((w5.setCell ⟨w.heap.size + 4, 0, none⟩ (.slice (some ⟨g, 0, none⟩) (kk + 1) cap)).setCells g (kk * 11) (kcCells x))) ∧
    (w5.cell? ⟨w.heap.size + 4, 0, none⟩ = some (.slice A kk c) ∧ w5.frozen? ⟨w.heap.size + 4, 0, none⟩ = false ∧ (w5.setCells g (kk * 11) (kcCells x)).cell? ⟨w.heap.size + 4, 0, none⟩ = some (.slice A kk c) ∧ (w5.setCells g (kk * 11) (kcCells x)).frozen? ⟨w.heap.size + 4, 0, none⟩ = false ∧
     w5.there g (kk * 11) 11 ∧ (w5.setCell ⟨w.heap.size + 4, 0, none⟩ (.slice (some ⟨g, 0, none⟩) (kk + 1) cap)).there g (kk * 11) 11) := by
  subst hkk
  have hsz : (W.drew.alloc o).heap.size = W.heap.size + 1 := by simp
  have l4 := heap_lt h4
  have far : ∀ j, j < W.heap.size → some j ≠ (Value.slice A (n0 + pre.length) c).ownBlock → w5.heap[j]? = W.heap[j]? := fun j hj hne => (hgrow.block j (by omega) hne).trans (Below.heap_alloc _ _ _ hj)
  have h45 : w5.heap[w.heap.size + 4]? = some (.cells #[.slice A (n0 + pre.length) c] 45 (0, 0)) := by
    rw [far _ l4 (fun e => by obtain ⟨_, cs, q⟩ := own_old ho e; rw [h4] at q; cases q)]
    exact h4
  obtain ⟨cur, _, hg5, _⟩ := own_form hown
  have hne : w.heap.size + 4 ≠ g := by
    rintro rfl
    rw [h45] at hg5
    cases hg5
  have hx : (base ++ pre.map kcCells).flatten.length = (n0 + pre.length) * 11 := ho.1
  have e1 : (w5.setCells g ((n0 + pre.length) * 11) (kcCells x)).heap[w.heap.size + 4]? = some (.cells #[.slice A (n0 + pre.length) c] 45 (0, 0)) := by rw [sets_block hne]; exact h45
  have e2 : (w5.setCell ⟨w.heap.size + 4, 0, none⟩ (.slice (some ⟨g, 0, none⟩) (n0 + pre.length + 1) cap)).heap[g]? = w5.heap[g]? := set_block hne
  have fr : ∀ V W' : World, Only g w5 V → Only (w.heap.size + 4) V W' → Far w W W' (.slice A (n0 + pre.length) c) := fun V W' a b => by
    refine ⟨(b.1.trans a.1).trans hgrow.os, (b.2.1.trans a.2.1).trans hgrow.tape, (b.2.2.1.trans a.2.2.1).trans hgrow.output, by have := hgrow.size; have := a.2.2.2.1; have := b.2.2.2.1; omega, fun j hj h1 h2 => ?_⟩
    rw [b.2.2.2.2 j h1, a.2.2.2.2 j (fun e => by subst e; rcases hat with q | q; exact h2 q.symm; omega), far j hj h2]
  have fr2 : ∀ V W' : World, Only (w.heap.size + 4) w5 V → Only g V W' → Far w W W' (.slice A (n0 + pre.length) c) := fun V W' a b => by
    refine ⟨(b.1.trans a.1).trans hgrow.os, (b.2.1.trans a.2.1).trans hgrow.tape, (b.2.2.1.trans a.2.2.1).trans hgrow.output, by have := hgrow.size; have := a.2.2.2.1; have := b.2.2.2.1; omega, fun j hj h1 h2 => ?_⟩
    rw [b.2.2.2.2 j (fun e => by subst e; rcases hat with q | q; exact h2 q.symm; omega), a.2.2.2.2 j h1, far j hj h2]
  have o1 := own_store (cells := kcCells x) hown hx rfl
  have o2 := own_store (cells := kcCells x) (own_kept hown e2) hx rfl
  have o3 := own_there hown
  have o4 := own_there (own_kept hown e2)
  have n1 : Only g w5 (w5.setCells g ((n0 + pre.length) * 11) (kcCells x)) := only_sets _ _ _
  have n2 := only_set w5 (w.heap.size + 4) 0 (.slice (some ⟨g, 0, none⟩) (n0 + pre.length + 1) cap)
  have n3 : Only g (w5.setCell ⟨w.heap.size + 4, 0, none⟩ (.slice (some ⟨g, 0, none⟩) (n0 + pre.length + 1) cap)) ((w5.setCell ⟨w.heap.size + 4, 0, none⟩ (.slice (some ⟨g, 0, none⟩) (n0 + pre.length + 1) cap)).setCells g ((n0 + pre.length) * 11) (kcCells x)) := only_sets _ _ _
  have e3 := set_same (y := .slice (some ⟨g, 0, none⟩) (n0 + pre.length + 1) cap) h45
  generalize w5.setCells g ((n0 + pre.length) * 11) (kcCells x) = V at e1 o1 n1 ⊢
  generalize w5.setCell ⟨w.heap.size + 4, 0, none⟩ (.slice (some ⟨g, 0, none⟩) (n0 + pre.length + 1) cap) = U at e2 e3 o2 o4 n2 n3 ⊢
  generalize U.setCells g ((n0 + pre.length) * 11) (kcCells x) = U2 at o2 n3 ⊢
  have n4 := only_set V (w.heap.size + 4) 0 (.slice (some ⟨g, 0, none⟩) (n0 + pre.length + 1) cap)
  have e4 := set_same (y := .slice (some ⟨g, 0, none⟩) (n0 + pre.length + 1) cap) e1
  have o5 := own_kept o1 (n4.2.2.2.2 g (Ne.symm hne))
  generalize V.setCell ⟨w.heap.size + 4, 0, none⟩ (.slice (some ⟨g, 0, none⟩) (n0 + pre.length + 1) cap) = V2 at n4 e4 o5 ⊢
  refine ⟨⟨bi_next h h4 ho hB hbn (fr V V2 n1 n4) e4 o5, bi_next h h4 ho hB hbn (fr2 U U2 n2 n3) ((n3.2.2.2.2 _ hne).trans e3) o2⟩, ?_, frozen_at h45, ?_, frozen_at e1, o3, o4⟩
  · rw [cell_at h45]; rfl
  · rw [cell_at e1]; rfl

set_option maxRecDepth 100000 in
set_option maxHeartbeats 8000000 in
theorem region12 (F : Fence) (rm l : Nat) (w W : World) (ck : Array Value) (i : Value) (ev : Array Value) (u : Nat → Value) (B Bn : Nat) (ks : List (Addr × Nat)) (sl : Value) (n0 : Nat) (base : List (List Value)) (Ds : List Nat) (pre : List Kc) (x : Kc) (Bx : Nat) (Q : Exit → Act → World → Prop)
    (h : BI w ck B Bn ks sl n0 base Ds pre W) (hB : w.heap.size + 4 < B) (hbn : Bn ≠ w.heap.size + 4) (hx : W.heap[Bx]? = some (.cells (kcArr x) 47 (0, 0))) (hbd : n0 + pre.length + 1 ≤ 200000) (hQ : ∀ a' W', Fin w ck B Bn ks sl n0 base Ds pre x W W' → Q .normal a' W') :
    (Code.region 12 #[{ dst := some 65, op := Op.load 45 (Operand.tmp 7), type := 45, pos := "check.go:213", after := #[], guard := none }, { dst := some 66, op := Op.load 47 (Operand.tmp 12), type := 47, pos := "check.go:213", after := #[], guard := none }, { dst := some 67, op := Op.call { callee := Callee.builtin Builtin.len, args := #[Operand.tmp 65], argTypes := #[45] }, type := 3, pos := "check.go:213", after := #[{ on := 0, ground := Ground.data }], guard := none }, { dst := some 68, op := Op.buildSlice 45 1 #[(0, Operand.const (Value.agg #[Value.int IntKind.i64 0, Value.string { data := #[] }, Value.int IntKind.i64 0, Value.string { data := #[] }, Value.int IntKind.i64 0, Value.string { data := #[] }, Value.int IntKind.i64 0, Value.string { data := #[] }, Value.int IntKind.i64 0, Value.string { data := #[] }, Value.slice none 0 0]))], type := 45, pos := "check.go:213", after := #[], guard := none }, { dst := some 69, op := Op.call { callee := Callee.builtin Builtin.append, args := #[Operand.tmp 65, Operand.tmp 68], argTypes := #[45, 45] }, type := 45, pos := "check.go:213", after := #[{ on := 0, ground := Ground.data }, { on := 3, ground := Ground.data }, { on := 0, ground := Ground.phase }, { on := 1, ground := Ground.phase }, { on := 2, ground := Ground.phase }, { on := 3, ground := Ground.phase }], guard := none }, { dst := some 70, op := Op.indexAddr 45 (Operand.tmp 69) (Operand.tmp 67), type := 0, pos := "check.go:213", after := #[{ on := 4, ground := Ground.data }, { on := 2, ground := Ground.data }, { on := 0, ground := Ground.phase }, { on := 1, ground := Ground.phase }, { on := 2, ground := Ground.phase }, { on := 3, ground := Ground.phase }, { on := 4, ground := Ground.phase }, { on := 7, ground := Ground.gcOnly Departure.appendInPlace }], guard := none }, { dst := none, op := Op.store 47 (Operand.tmp 70) (Operand.tmp 66), type := 0, pos := "check.go:213", after := #[{ on := 5, ground := Ground.data }, { on := 1, ground := Ground.data }, { on := 4, ground := Ground.chain }, { on := 0, ground := Ground.phase }, { on := 1, ground := Ground.phase }, { on := 2, ground := Ground.phase }, { on := 3, ground := Ground.phase }, { on := 4, ground := Ground.phase }, { on := 7, ground := Ground.gcOnly Departure.appendInPlace }], guard := none }, { dst := none, op := Op.store 45 (Operand.tmp 7) (Operand.tmp 69), type := 0, pos := "check.go:213", after := #[{ on := 4, ground := Ground.data }, { on := 4, ground := Ground.chain }, { on := 6, ground := Ground.textOnly Departure.appendInPlace }, { on := 0, ground := Ground.phase }, { on := 1, ground := Ground.phase }, { on := 2, ground := Ground.phase }, { on := 3, ground := Ground.phase }, { on := 4, ground := Ground.phase }, { on := 5, ground := Ground.textOnly Departure.appendInPlace }, { on := 6, ground := Ground.textOnly Departure.appendInPlace }], guard := none }] true).wpIn (F.inRound l) rm Try.prog Q { tmps := FrK w ck i ev u x Bx, defers := [] } W := by
  obtain ⟨A, c, h4, ho⟩ := h.row
  have HL0 := Lib.hid (And.intro h (And.intro h4 ho))
  have HSZ := Lib.hid (show w.heap.size + 4 < W.heap.size from heap_lt h4)
  obtain ⟨kk, hkk⟩ : ∃ kk, n0 + pre.length = kk := ⟨_, rfl⟩
  rw [hkk] at h4 ho hbd
  have HL := Lib.hid (fun g cap w5 hown hgrow hat => (bi_leaf (g := g) (cap := cap) (w5 := w5) (x := x) (o := .cells #[.int .i64 0, .string ⟨#[]⟩, .int .i64 0, .string ⟨#[]⟩, .int .i64 0, .string ⟨#[]⟩, .int .i64 0, .string ⟨#[]⟩, .int .i64 0, .string ⟨#[]⟩, .slice none 0 0] 47) (news := (#[.int .i64 0, .string ⟨#[]⟩, .int .i64 0, .string ⟨#[]⟩, .int .i64 0, .string ⟨#[]⟩, .int .i64 0, .string ⟨#[]⟩, .int .i64 0, .string ⟨#[]⟩, .slice none 0 0] : Array Value).toList) hkk h h4 ho hB hbn hown hgrow hat).1)
  have HF := Lib.hid (fun g cap w5 hown hgrow hat => (bi_leaf (g := g) (cap := cap) (w5 := w5) (x := x) (o := .cells #[.int .i64 0, .string ⟨#[]⟩, .int .i64 0, .string ⟨#[]⟩, .int .i64 0, .string ⟨#[]⟩, .int .i64 0, .string ⟨#[]⟩, .int .i64 0, .string ⟨#[]⟩, .slice none 0 0] 47) (news := (#[.int .i64 0, .string ⟨#[]⟩, .int .i64 0, .string ⟨#[]⟩, .int .i64 0, .string ⟨#[]⟩, .int .i64 0, .string ⟨#[]⟩, .int .i64 0, .string ⟨#[]⟩, .slice none 0 0] : Array Value).toList) hkk h h4 ho hB hbn hown hgrow hat).2)
  have HO := Lib.hid ho
  obtain ⟨i0, hi0, hz0, hz1, hz2⟩ := info_parts info47
  have HI0 := Lib.hid (And.intro hi0 (And.intro hz0 (And.intro hz1 hz2)))
  have HI47 := Lib.hid (show (Try.prog.info? 47).map (·.size) = some (#[.int .i64 x.2.1.op, .string x.2.1.val.1, .int .i64 x.2.1.val.2, .string x.2.1.wid.1, .int .i64 x.2.1.wid.2, .string x.2.1.hi.1, .int .i64 x.2.1.hi.2, .string x.2.1.lo.1, .int .i64 x.2.1.lo.2, .string x.2.1.name, .slice x.2.2.1 x.2.2.2.1 x.2.2.2.2] : Array Value).size from size47)
  have HZ := Lib.hid (show ∀ j v, ((#[.int .i64 0, .string ⟨#[]⟩, .int .i64 0, .string ⟨#[]⟩, .int .i64 0, .string ⟨#[]⟩, .int .i64 0, .string ⟨#[]⟩, .int .i64 0, .string ⟨#[]⟩, .slice none 0 0] : Array Value).toList)[j]? = some v → (W.drew.alloc (.cells #[.int .i64 0, .string ⟨#[]⟩, .int .i64 0, .string ⟨#[]⟩, .int .i64 0, .string ⟨#[]⟩, .int .i64 0, .string ⟨#[]⟩, .int .i64 0, .string ⟨#[]⟩, .slice none 0 0] 47)).cell? ((⟨W.heap.size, 0, none⟩ : Addr).add j) = some v from fun j v hv => by rw [add_zero', cell_at (show (W.drew.alloc (.cells #[.int .i64 0, .string ⟨#[]⟩, .int .i64 0, .string ⟨#[]⟩, .int .i64 0, .string ⟨#[]⟩, .int .i64 0, .string ⟨#[]⟩, .int .i64 0, .string ⟨#[]⟩, .slice none 0 0] 47)).heap[W.heap.size]? = _ from new_at W.drew _), ← Array.getElem?_toList]; exact hv)
  have b4 : W.cell? ⟨w.heap.size + 4, 0, none⟩ = some (.slice A kk c) := by rw [cell_at h4]; rfl
  have l4 := heap_lt h4
  have lx := heap_lt hx
  have x0 : W.cell? ⟨Bx, 0, none⟩ = some (.int .i64 x.2.1.op) := by rw [cell_at hx]; rfl
  have x1 : W.cell? ⟨Bx, 1, none⟩ = some (.string x.2.1.val.1) := by rw [cell_at hx]; rfl
  have x2 : W.cell? ⟨Bx, 2, none⟩ = some (.int .i64 x.2.1.val.2) := by rw [cell_at hx]; rfl
  have x3 : W.cell? ⟨Bx, 3, none⟩ = some (.string x.2.1.wid.1) := by rw [cell_at hx]; rfl
  have x4 : W.cell? ⟨Bx, 4, none⟩ = some (.int .i64 x.2.1.wid.2) := by rw [cell_at hx]; rfl
  have x5 : W.cell? ⟨Bx, 5, none⟩ = some (.string x.2.1.hi.1) := by rw [cell_at hx]; rfl
  have x6 : W.cell? ⟨Bx, 6, none⟩ = some (.int .i64 x.2.1.hi.2) := by rw [cell_at hx]; rfl
  have x7 : W.cell? ⟨Bx, 7, none⟩ = some (.string x.2.1.lo.1) := by rw [cell_at hx]; rfl
  have x8 : W.cell? ⟨Bx, 8, none⟩ = some (.int .i64 x.2.1.lo.2) := by rw [cell_at hx]; rfl
  have x9 : W.cell? ⟨Bx, 9, none⟩ = some (.string x.2.1.name) := by rw [cell_at hx]; rfl
  have x10 : W.cell? ⟨Bx, 10, none⟩ = some (.slice x.2.2.1 x.2.2.2.1 x.2.2.2.2) := by rw [cell_at hx]; rfl
  have hk1 : (kk : Int) < (kk : Int) + 1 := by omega
  have hk0 : (0 : Int) ≤ (kk : Int) := by omega
  have HQ := Lib.hid hQ
  clear h4 ho hi0 hz0 hz1 hz2 hkk hx h hQ
  unfold FrK
  refine wpIn_region_any (by kernel_rfl) ?_
  rw [show ({ W with drawn := W.drawn + 1 } : World) = W.drew from rfl]
  refine wpAnyIn_ready (rs := [0, 1, 3]) (by kernel_rfl) (by simp) ?_
  refine AllReadyIn.cons rfl (fun K0 hK0 => ?_) ?_
  · go_simp
    refine hK0 _ _ ?_
    refine wpAnyIn_ready (rs := [1, 2, 3]) (by kernel_rfl) (by simp) ?_
    refine AllReadyIn.cons rfl (fun K1 hK1 => ?_) ?_
    · go_simp
      refine hK1 _ _ ?_
      refine wpAnyIn_ready (rs := [2, 3]) (by kernel_rfl) (by simp) ?_
      refine AllReadyIn.cons rfl (fun K2 hK2 => ?_) ?_
      · go_simp
        refine hK2 _ _ ?_
        refine wpAnyIn_ready (rs := [3]) (by kernel_rfl) (by simp) ?_
        refine AllReadyIn.cons rfl (fun K3 hK3 => ?_) ?_
        · go_simp
          refine hK3 _ _ ?_
          refine wpAnyIn_ready (rs := [4]) (by kernel_rfl) (by simp) ?_
          refine AllReadyIn.cons rfl (fun K4 hK4 => ?_) ?_
          · refine stepIn_append_lies rfl _ _ 45 rfl (w.heap.size + 2) 47 i0 _ 11 144 Try.underlying45 HI0.out.1 HI0.out.2.1 HI0.out.2.2.1 HI0.out.2.2.2 rfl (by decide) (.slice A kk c) kk (base ++ pre.map kcCells).flatten rfl ((World.ownsRow.drewN HO.out 1).alloc _) ⟨W.heap.size, 0, none⟩ 1 1 (#[.int .i64 0, .string ⟨#[]⟩, .int .i64 0, .string ⟨#[]⟩, .int .i64 0, .string ⟨#[]⟩, .int .i64 0, .string ⟨#[]⟩, .int .i64 0, .string ⟨#[]⟩, .slice none 0 0] : Array Value).toList rfl rfl HZ.out (by decide) (by decide) (by unfold maxLen; omega) (by omega) (by have := HSZ.out; simp; omega) _ rfl ?_
            intro g5 cap5 w5 hown hgrow hat hlt5
            have hl := HL.out _ _ _ hown hgrow hat
            obtain ⟨c4, f4, c4V, f4V, TH⟩ := HF.out _ _ _ hown hgrow hat
            obtain ⟨V, hV⟩ : ∃ V, w5.setCells g5 (kk * 11) (kcCells x) = V := ⟨_, rfl⟩
            obtain ⟨U2, hU2⟩ : ∃ U2, (w5.setCell ⟨w.heap.size + 4, 0, none⟩ (.slice (some ⟨g5, 0, none⟩) (kk + 1) cap5)).setCells g5 (kk * 11) (kcCells x) = U2 := ⟨_, rfl⟩
            rw [hV] at c4V f4V hl
            rw [hU2] at hl
            have HLEAF := Lib.hid hl
            have THH := Lib.hid (And.intro TH (And.intro hV hU2))
            clear hown hgrow hat hlt5 TH hV hU2 hl
            refine hK4 _ _ ?_
            refine wpAnyIn_ready (rs := [5, 7]) (by kernel_rfl) (by simp) ?_
            refine AllReadyIn.cons rfl (fun K5 hK5 => ?_) ?_
            · go_simp
              refine hK5 _ _ ?_
              refine wpAnyIn_ready (rs := [6, 7]) (by kernel_rfl) (by simp) ?_
              refine AllReadyIn.cons rfl (fun K6 hK6 => ?_) ?_
              · refine stepIn_store_mid rfl 47 (.tmp 70) (.tmp 66) rfl g5 (kk * 11) #[.int .i64 x.2.1.op, .string x.2.1.val.1, .int .i64 x.2.1.val.2, .string x.2.1.wid.1, .int .i64 x.2.1.wid.2, .string x.2.1.hi.1, .int .i64 x.2.1.hi.2, .string x.2.1.lo.1, .int .i64 x.2.1.lo.2, .string x.2.1.name, .slice x.2.2.1 x.2.2.2.1 x.2.2.2.2] ?_ rfl THH.out.1.1 HI47.out (by simp [Value.oneCell']) V THH.out.2.1 ?_
                · go_simp
                refine hK6 _ _ ?_
                refine wpAnyIn_ready (rs := [7]) (by kernel_rfl) (by simp) ?_
                refine AllReadyIn.cons rfl (fun K7 hK7 => ?_) ?_
                · go_simp
                  refine hK7 _ _ ?_
                  refine wpAnyIn_done (by kernel_rfl) ?_ _
                  exact HQ.out _ _ HLEAF.out.1
                exact AllReadyIn.nil
              refine AllReadyIn.cons rfl (fun K6 hK6 => ?_) ?_
              · go_simp
                refine hK6 _ _ ?_
                refine wpAnyIn_ready (rs := [6]) (by kernel_rfl) (by simp) ?_
                refine AllReadyIn.cons rfl (fun K7 hK7 => ?_) ?_
                · refine stepIn_store_mid rfl 47 (.tmp 70) (.tmp 66) rfl g5 (kk * 11) #[.int .i64 x.2.1.op, .string x.2.1.val.1, .int .i64 x.2.1.val.2, .string x.2.1.wid.1, .int .i64 x.2.1.wid.2, .string x.2.1.hi.1, .int .i64 x.2.1.hi.2, .string x.2.1.lo.1, .int .i64 x.2.1.lo.2, .string x.2.1.name, .slice x.2.2.1 x.2.2.2.1 x.2.2.2.2] ?_ rfl THH.out.1.2 HI47.out (by simp [Value.oneCell']) U2 THH.out.2.2 ?_
                  · go_simp
                  refine hK7 _ _ ?_
                  refine wpAnyIn_done (by kernel_rfl) ?_ _
                  exact HQ.out _ _ HLEAF.out.2
                exact AllReadyIn.nil
              exact AllReadyIn.nil
            refine AllReadyIn.cons rfl (fun K5 hK5 => ?_) ?_
            · go_simp
              refine hK5 _ _ ?_
              refine wpAnyIn_ready (rs := [5]) (by kernel_rfl) (by simp) ?_
              refine AllReadyIn.cons rfl (fun K6 hK6 => ?_) ?_
              · go_simp
                refine hK6 _ _ ?_
                refine wpAnyIn_ready (rs := [6]) (by kernel_rfl) (by simp) ?_
                refine AllReadyIn.cons rfl (fun K7 hK7 => ?_) ?_
                · refine stepIn_store_mid rfl 47 (.tmp 70) (.tmp 66) rfl g5 (kk * 11) #[.int .i64 x.2.1.op, .string x.2.1.val.1, .int .i64 x.2.1.val.2, .string x.2.1.wid.1, .int .i64 x.2.1.wid.2, .string x.2.1.hi.1, .int .i64 x.2.1.hi.2, .string x.2.1.lo.1, .int .i64 x.2.1.lo.2, .string x.2.1.name, .slice x.2.2.1 x.2.2.2.1 x.2.2.2.2] ?_ rfl THH.out.1.2 HI47.out (by simp [Value.oneCell']) U2 THH.out.2.2 ?_
                  · go_simp
                  refine hK7 _ _ ?_
                  refine wpAnyIn_done (by kernel_rfl) ?_ _
                  exact HQ.out _ _ HLEAF.out.2
                exact AllReadyIn.nil
              exact AllReadyIn.nil
            exact AllReadyIn.nil
          exact AllReadyIn.nil
        exact AllReadyIn.nil
      refine AllReadyIn.cons rfl (fun K2 hK2 => ?_) ?_
      · go_simp
        refine hK2 _ _ ?_
        refine wpAnyIn_ready (rs := [2]) (by kernel_rfl) (by simp) ?_
        refine AllReadyIn.cons rfl (fun K3 hK3 => ?_) ?_
        · go_simp
          refine hK3 _ _ ?_
          refine wpAnyIn_ready (rs := [4]) (by kernel_rfl) (by simp) ?_
          refine AllReadyIn.cons rfl (fun K4 hK4 => ?_) ?_
          · refine stepIn_append_lies rfl _ _ 45 rfl (w.heap.size + 2) 47 i0 _ 11 144 Try.underlying45 HI0.out.1 HI0.out.2.1 HI0.out.2.2.1 HI0.out.2.2.2 rfl (by decide) (.slice A kk c) kk (base ++ pre.map kcCells).flatten rfl ((World.ownsRow.drewN HO.out 1).alloc _) ⟨W.heap.size, 0, none⟩ 1 1 (#[.int .i64 0, .string ⟨#[]⟩, .int .i64 0, .string ⟨#[]⟩, .int .i64 0, .string ⟨#[]⟩, .int .i64 0, .string ⟨#[]⟩, .int .i64 0, .string ⟨#[]⟩, .slice none 0 0] : Array Value).toList rfl rfl HZ.out (by decide) (by decide) (by unfold maxLen; omega) (by omega) (by have := HSZ.out; simp; omega) _ rfl ?_
            intro g5 cap5 w5 hown hgrow hat hlt5
            have hl := HL.out _ _ _ hown hgrow hat
            obtain ⟨c4, f4, c4V, f4V, TH⟩ := HF.out _ _ _ hown hgrow hat
            obtain ⟨V, hV⟩ : ∃ V, w5.setCells g5 (kk * 11) (kcCells x) = V := ⟨_, rfl⟩
            obtain ⟨U2, hU2⟩ : ∃ U2, (w5.setCell ⟨w.heap.size + 4, 0, none⟩ (.slice (some ⟨g5, 0, none⟩) (kk + 1) cap5)).setCells g5 (kk * 11) (kcCells x) = U2 := ⟨_, rfl⟩
            rw [hV] at c4V f4V hl
            rw [hU2] at hl
            have HLEAF := Lib.hid hl
            have THH := Lib.hid (And.intro TH (And.intro hV hU2))
            clear hown hgrow hat hlt5 TH hV hU2 hl
            refine hK4 _ _ ?_
            refine wpAnyIn_ready (rs := [5, 7]) (by kernel_rfl) (by simp) ?_
            refine AllReadyIn.cons rfl (fun K5 hK5 => ?_) ?_
            · go_simp
              refine hK5 _ _ ?_
              refine wpAnyIn_ready (rs := [6, 7]) (by kernel_rfl) (by simp) ?_
              refine AllReadyIn.cons rfl (fun K6 hK6 => ?_) ?_
              · refine stepIn_store_mid rfl 47 (.tmp 70) (.tmp 66) rfl g5 (kk * 11) #[.int .i64 x.2.1.op, .string x.2.1.val.1, .int .i64 x.2.1.val.2, .string x.2.1.wid.1, .int .i64 x.2.1.wid.2, .string x.2.1.hi.1, .int .i64 x.2.1.hi.2, .string x.2.1.lo.1, .int .i64 x.2.1.lo.2, .string x.2.1.name, .slice x.2.2.1 x.2.2.2.1 x.2.2.2.2] ?_ rfl THH.out.1.1 HI47.out (by simp [Value.oneCell']) V THH.out.2.1 ?_
                · go_simp
                refine hK6 _ _ ?_
                refine wpAnyIn_ready (rs := [7]) (by kernel_rfl) (by simp) ?_
                refine AllReadyIn.cons rfl (fun K7 hK7 => ?_) ?_
                · go_simp
                  refine hK7 _ _ ?_
                  refine wpAnyIn_done (by kernel_rfl) ?_ _
                  exact HQ.out _ _ HLEAF.out.1
                exact AllReadyIn.nil
              refine AllReadyIn.cons rfl (fun K6 hK6 => ?_) ?_
              · go_simp
                refine hK6 _ _ ?_
                refine wpAnyIn_ready (rs := [6]) (by kernel_rfl) (by simp) ?_
                refine AllReadyIn.cons rfl (fun K7 hK7 => ?_) ?_
                · refine stepIn_store_mid rfl 47 (.tmp 70) (.tmp 66) rfl g5 (kk * 11) #[.int .i64 x.2.1.op, .string x.2.1.val.1, .int .i64 x.2.1.val.2, .string x.2.1.wid.1, .int .i64 x.2.1.wid.2, .string x.2.1.hi.1, .int .i64 x.2.1.hi.2, .string x.2.1.lo.1, .int .i64 x.2.1.lo.2, .string x.2.1.name, .slice x.2.2.1 x.2.2.2.1 x.2.2.2.2] ?_ rfl THH.out.1.2 HI47.out (by simp [Value.oneCell']) U2 THH.out.2.2 ?_
                  · go_simp
                  refine hK7 _ _ ?_
                  refine wpAnyIn_done (by kernel_rfl) ?_ _
                  exact HQ.out _ _ HLEAF.out.2
                exact AllReadyIn.nil
              exact AllReadyIn.nil
            refine AllReadyIn.cons rfl (fun K5 hK5 => ?_) ?_
            · go_simp
              refine hK5 _ _ ?_
              refine wpAnyIn_ready (rs := [5]) (by kernel_rfl) (by simp) ?_
              refine AllReadyIn.cons rfl (fun K6 hK6 => ?_) ?_
              · go_simp
                refine hK6 _ _ ?_
                refine wpAnyIn_ready (rs := [6]) (by kernel_rfl) (by simp) ?_
                refine AllReadyIn.cons rfl (fun K7 hK7 => ?_) ?_
                · refine stepIn_store_mid rfl 47 (.tmp 70) (.tmp 66) rfl g5 (kk * 11) #[.int .i64 x.2.1.op, .string x.2.1.val.1, .int .i64 x.2.1.val.2, .string x.2.1.wid.1, .int .i64 x.2.1.wid.2, .string x.2.1.hi.1, .int .i64 x.2.1.hi.2, .string x.2.1.lo.1, .int .i64 x.2.1.lo.2, .string x.2.1.name, .slice x.2.2.1 x.2.2.2.1 x.2.2.2.2] ?_ rfl THH.out.1.2 HI47.out (by simp [Value.oneCell']) U2 THH.out.2.2 ?_
                  · go_simp
                  refine hK7 _ _ ?_
                  refine wpAnyIn_done (by kernel_rfl) ?_ _
                  exact HQ.out _ _ HLEAF.out.2
                exact AllReadyIn.nil
              exact AllReadyIn.nil
            exact AllReadyIn.nil
          exact AllReadyIn.nil
        exact AllReadyIn.nil
      exact AllReadyIn.nil
    refine AllReadyIn.cons rfl (fun K1 hK1 => ?_) ?_
    · go_simp
      refine hK1 _ _ ?_
      refine wpAnyIn_ready (rs := [1, 3]) (by kernel_rfl) (by simp) ?_
      refine AllReadyIn.cons rfl (fun K2 hK2 => ?_) ?_
      · go_simp
        refine hK2 _ _ ?_
        refine wpAnyIn_ready (rs := [3]) (by kernel_rfl) (by simp) ?_
        refine AllReadyIn.cons rfl (fun K3 hK3 => ?_) ?_
        · go_simp
          refine hK3 _ _ ?_
          refine wpAnyIn_ready (rs := [4]) (by kernel_rfl) (by simp) ?_
          refine AllReadyIn.cons rfl (fun K4 hK4 => ?_) ?_
          · refine stepIn_append_lies rfl _ _ 45 rfl (w.heap.size + 2) 47 i0 _ 11 144 Try.underlying45 HI0.out.1 HI0.out.2.1 HI0.out.2.2.1 HI0.out.2.2.2 rfl (by decide) (.slice A kk c) kk (base ++ pre.map kcCells).flatten rfl ((World.ownsRow.drewN HO.out 1).alloc _) ⟨W.heap.size, 0, none⟩ 1 1 (#[.int .i64 0, .string ⟨#[]⟩, .int .i64 0, .string ⟨#[]⟩, .int .i64 0, .string ⟨#[]⟩, .int .i64 0, .string ⟨#[]⟩, .int .i64 0, .string ⟨#[]⟩, .slice none 0 0] : Array Value).toList rfl rfl HZ.out (by decide) (by decide) (by unfold maxLen; omega) (by omega) (by have := HSZ.out; simp; omega) _ rfl ?_
            intro g5 cap5 w5 hown hgrow hat hlt5
            have hl := HL.out _ _ _ hown hgrow hat
            obtain ⟨c4, f4, c4V, f4V, TH⟩ := HF.out _ _ _ hown hgrow hat
            obtain ⟨V, hV⟩ : ∃ V, w5.setCells g5 (kk * 11) (kcCells x) = V := ⟨_, rfl⟩
            obtain ⟨U2, hU2⟩ : ∃ U2, (w5.setCell ⟨w.heap.size + 4, 0, none⟩ (.slice (some ⟨g5, 0, none⟩) (kk + 1) cap5)).setCells g5 (kk * 11) (kcCells x) = U2 := ⟨_, rfl⟩
            rw [hV] at c4V f4V hl
            rw [hU2] at hl
            have HLEAF := Lib.hid hl
            have THH := Lib.hid (And.intro TH (And.intro hV hU2))
            clear hown hgrow hat hlt5 TH hV hU2 hl
            refine hK4 _ _ ?_
            refine wpAnyIn_ready (rs := [5, 7]) (by kernel_rfl) (by simp) ?_
            refine AllReadyIn.cons rfl (fun K5 hK5 => ?_) ?_
            · go_simp
              refine hK5 _ _ ?_
              refine wpAnyIn_ready (rs := [6, 7]) (by kernel_rfl) (by simp) ?_
              refine AllReadyIn.cons rfl (fun K6 hK6 => ?_) ?_
              · refine stepIn_store_mid rfl 47 (.tmp 70) (.tmp 66) rfl g5 (kk * 11) #[.int .i64 x.2.1.op, .string x.2.1.val.1, .int .i64 x.2.1.val.2, .string x.2.1.wid.1, .int .i64 x.2.1.wid.2, .string x.2.1.hi.1, .int .i64 x.2.1.hi.2, .string x.2.1.lo.1, .int .i64 x.2.1.lo.2, .string x.2.1.name, .slice x.2.2.1 x.2.2.2.1 x.2.2.2.2] ?_ rfl THH.out.1.1 HI47.out (by simp [Value.oneCell']) V THH.out.2.1 ?_
                · go_simp
                refine hK6 _ _ ?_
                refine wpAnyIn_ready (rs := [7]) (by kernel_rfl) (by simp) ?_
                refine AllReadyIn.cons rfl (fun K7 hK7 => ?_) ?_
                · go_simp
                  refine hK7 _ _ ?_
                  refine wpAnyIn_done (by kernel_rfl) ?_ _
                  exact HQ.out _ _ HLEAF.out.1
                exact AllReadyIn.nil
              refine AllReadyIn.cons rfl (fun K6 hK6 => ?_) ?_
              · go_simp
                refine hK6 _ _ ?_
                refine wpAnyIn_ready (rs := [6]) (by kernel_rfl) (by simp) ?_
                refine AllReadyIn.cons rfl (fun K7 hK7 => ?_) ?_
                · refine stepIn_store_mid rfl 47 (.tmp 70) (.tmp 66) rfl g5 (kk * 11) #[.int .i64 x.2.1.op, .string x.2.1.val.1, .int .i64 x.2.1.val.2, .string x.2.1.wid.1, .int .i64 x.2.1.wid.2, .string x.2.1.hi.1, .int .i64 x.2.1.hi.2, .string x.2.1.lo.1, .int .i64 x.2.1.lo.2, .string x.2.1.name, .slice x.2.2.1 x.2.2.2.1 x.2.2.2.2] ?_ rfl THH.out.1.2 HI47.out (by simp [Value.oneCell']) U2 THH.out.2.2 ?_
                  · go_simp
                  refine hK7 _ _ ?_
                  refine wpAnyIn_done (by kernel_rfl) ?_ _
                  exact HQ.out _ _ HLEAF.out.2
                exact AllReadyIn.nil
              exact AllReadyIn.nil
            refine AllReadyIn.cons rfl (fun K5 hK5 => ?_) ?_
            · go_simp
              refine hK5 _ _ ?_
              refine wpAnyIn_ready (rs := [5]) (by kernel_rfl) (by simp) ?_
              refine AllReadyIn.cons rfl (fun K6 hK6 => ?_) ?_
              · go_simp
                refine hK6 _ _ ?_
                refine wpAnyIn_ready (rs := [6]) (by kernel_rfl) (by simp) ?_
                refine AllReadyIn.cons rfl (fun K7 hK7 => ?_) ?_
                · refine stepIn_store_mid rfl 47 (.tmp 70) (.tmp 66) rfl g5 (kk * 11) #[.int .i64 x.2.1.op, .string x.2.1.val.1, .int .i64 x.2.1.val.2, .string x.2.1.wid.1, .int .i64 x.2.1.wid.2, .string x.2.1.hi.1, .int .i64 x.2.1.hi.2, .string x.2.1.lo.1, .int .i64 x.2.1.lo.2, .string x.2.1.name, .slice x.2.2.1 x.2.2.2.1 x.2.2.2.2] ?_ rfl THH.out.1.2 HI47.out (by simp [Value.oneCell']) U2 THH.out.2.2 ?_
                  · go_simp
                  refine hK7 _ _ ?_
                  refine wpAnyIn_done (by kernel_rfl) ?_ _
                  exact HQ.out _ _ HLEAF.out.2
                exact AllReadyIn.nil
              exact AllReadyIn.nil
            exact AllReadyIn.nil
          exact AllReadyIn.nil
        exact AllReadyIn.nil
      refine AllReadyIn.cons rfl (fun K2 hK2 => ?_) ?_
      · go_simp
        refine hK2 _ _ ?_
        refine wpAnyIn_ready (rs := [1]) (by kernel_rfl) (by simp) ?_
        refine AllReadyIn.cons rfl (fun K3 hK3 => ?_) ?_
        · go_simp
          refine hK3 _ _ ?_
          refine wpAnyIn_ready (rs := [4]) (by kernel_rfl) (by simp) ?_
          refine AllReadyIn.cons rfl (fun K4 hK4 => ?_) ?_
          · refine stepIn_append_lies rfl _ _ 45 rfl (w.heap.size + 2) 47 i0 _ 11 144 Try.underlying45 HI0.out.1 HI0.out.2.1 HI0.out.2.2.1 HI0.out.2.2.2 rfl (by decide) (.slice A kk c) kk (base ++ pre.map kcCells).flatten rfl ((World.ownsRow.drewN HO.out 1).alloc _) ⟨W.heap.size, 0, none⟩ 1 1 (#[.int .i64 0, .string ⟨#[]⟩, .int .i64 0, .string ⟨#[]⟩, .int .i64 0, .string ⟨#[]⟩, .int .i64 0, .string ⟨#[]⟩, .int .i64 0, .string ⟨#[]⟩, .slice none 0 0] : Array Value).toList rfl rfl HZ.out (by decide) (by decide) (by unfold maxLen; omega) (by omega) (by have := HSZ.out; simp; omega) _ rfl ?_
            intro g5 cap5 w5 hown hgrow hat hlt5
            have hl := HL.out _ _ _ hown hgrow hat
            obtain ⟨c4, f4, c4V, f4V, TH⟩ := HF.out _ _ _ hown hgrow hat
            obtain ⟨V, hV⟩ : ∃ V, w5.setCells g5 (kk * 11) (kcCells x) = V := ⟨_, rfl⟩
            obtain ⟨U2, hU2⟩ : ∃ U2, (w5.setCell ⟨w.heap.size + 4, 0, none⟩ (.slice (some ⟨g5, 0, none⟩) (kk + 1) cap5)).setCells g5 (kk * 11) (kcCells x) = U2 := ⟨_, rfl⟩
            rw [hV] at c4V f4V hl
            rw [hU2] at hl
            have HLEAF := Lib.hid hl
            have THH := Lib.hid (And.intro TH (And.intro hV hU2))
            clear hown hgrow hat hlt5 TH hV hU2 hl
            refine hK4 _ _ ?_
            refine wpAnyIn_ready (rs := [5, 7]) (by kernel_rfl) (by simp) ?_
            refine AllReadyIn.cons rfl (fun K5 hK5 => ?_) ?_
            · go_simp
              refine hK5 _ _ ?_
              refine wpAnyIn_ready (rs := [6, 7]) (by kernel_rfl) (by simp) ?_
              refine AllReadyIn.cons rfl (fun K6 hK6 => ?_) ?_
              · refine stepIn_store_mid rfl 47 (.tmp 70) (.tmp 66) rfl g5 (kk * 11) #[.int .i64 x.2.1.op, .string x.2.1.val.1, .int .i64 x.2.1.val.2, .string x.2.1.wid.1, .int .i64 x.2.1.wid.2, .string x.2.1.hi.1, .int .i64 x.2.1.hi.2, .string x.2.1.lo.1, .int .i64 x.2.1.lo.2, .string x.2.1.name, .slice x.2.2.1 x.2.2.2.1 x.2.2.2.2] ?_ rfl THH.out.1.1 HI47.out (by simp [Value.oneCell']) V THH.out.2.1 ?_
                · go_simp
                refine hK6 _ _ ?_
                refine wpAnyIn_ready (rs := [7]) (by kernel_rfl) (by simp) ?_
                refine AllReadyIn.cons rfl (fun K7 hK7 => ?_) ?_
                · go_simp
                  refine hK7 _ _ ?_
                  refine wpAnyIn_done (by kernel_rfl) ?_ _
                  exact HQ.out _ _ HLEAF.out.1
                exact AllReadyIn.nil
              refine AllReadyIn.cons rfl (fun K6 hK6 => ?_) ?_
              · go_simp
                refine hK6 _ _ ?_
                refine wpAnyIn_ready (rs := [6]) (by kernel_rfl) (by simp) ?_
                refine AllReadyIn.cons rfl (fun K7 hK7 => ?_) ?_
                · refine stepIn_store_mid rfl 47 (.tmp 70) (.tmp 66) rfl g5 (kk * 11) #[.int .i64 x.2.1.op, .string x.2.1.val.1, .int .i64 x.2.1.val.2, .string x.2.1.wid.1, .int .i64 x.2.1.wid.2, .string x.2.1.hi.1, .int .i64 x.2.1.hi.2, .string x.2.1.lo.1, .int .i64 x.2.1.lo.2, .string x.2.1.name, .slice x.2.2.1 x.2.2.2.1 x.2.2.2.2] ?_ rfl THH.out.1.2 HI47.out (by simp [Value.oneCell']) U2 THH.out.2.2 ?_
                  · go_simp
                  refine hK7 _ _ ?_
                  refine wpAnyIn_done (by kernel_rfl) ?_ _
                  exact HQ.out _ _ HLEAF.out.2
                exact AllReadyIn.nil
              exact AllReadyIn.nil
            refine AllReadyIn.cons rfl (fun K5 hK5 => ?_) ?_
            · go_simp
              refine hK5 _ _ ?_
              refine wpAnyIn_ready (rs := [5]) (by kernel_rfl) (by simp) ?_
              refine AllReadyIn.cons rfl (fun K6 hK6 => ?_) ?_
              · go_simp
                refine hK6 _ _ ?_
                refine wpAnyIn_ready (rs := [6]) (by kernel_rfl) (by simp) ?_
                refine AllReadyIn.cons rfl (fun K7 hK7 => ?_) ?_
                · refine stepIn_store_mid rfl 47 (.tmp 70) (.tmp 66) rfl g5 (kk * 11) #[.int .i64 x.2.1.op, .string x.2.1.val.1, .int .i64 x.2.1.val.2, .string x.2.1.wid.1, .int .i64 x.2.1.wid.2, .string x.2.1.hi.1, .int .i64 x.2.1.hi.2, .string x.2.1.lo.1, .int .i64 x.2.1.lo.2, .string x.2.1.name, .slice x.2.2.1 x.2.2.2.1 x.2.2.2.2] ?_ rfl THH.out.1.2 HI47.out (by simp [Value.oneCell']) U2 THH.out.2.2 ?_
                  · go_simp
                  refine hK7 _ _ ?_
                  refine wpAnyIn_done (by kernel_rfl) ?_ _
                  exact HQ.out _ _ HLEAF.out.2
                exact AllReadyIn.nil
              exact AllReadyIn.nil
            exact AllReadyIn.nil
          exact AllReadyIn.nil
        exact AllReadyIn.nil
      exact AllReadyIn.nil
    refine AllReadyIn.cons rfl (fun K1 hK1 => ?_) ?_
    · go_simp
      refine hK1 _ _ ?_
      refine wpAnyIn_ready (rs := [1, 2]) (by kernel_rfl) (by simp) ?_
      refine AllReadyIn.cons rfl (fun K2 hK2 => ?_) ?_
      · go_simp
        refine hK2 _ _ ?_
        refine wpAnyIn_ready (rs := [2]) (by kernel_rfl) (by simp) ?_
        refine AllReadyIn.cons rfl (fun K3 hK3 => ?_) ?_
        · go_simp
          refine hK3 _ _ ?_
          refine wpAnyIn_ready (rs := [4]) (by kernel_rfl) (by simp) ?_
          refine AllReadyIn.cons rfl (fun K4 hK4 => ?_) ?_
          · refine stepIn_append_lies rfl _ _ 45 rfl (w.heap.size + 2) 47 i0 _ 11 144 Try.underlying45 HI0.out.1 HI0.out.2.1 HI0.out.2.2.1 HI0.out.2.2.2 rfl (by decide) (.slice A kk c) kk (base ++ pre.map kcCells).flatten rfl ((World.ownsRow.drewN HO.out 1).alloc _) ⟨W.heap.size, 0, none⟩ 1 1 (#[.int .i64 0, .string ⟨#[]⟩, .int .i64 0, .string ⟨#[]⟩, .int .i64 0, .string ⟨#[]⟩, .int .i64 0, .string ⟨#[]⟩, .int .i64 0, .string ⟨#[]⟩, .slice none 0 0] : Array Value).toList rfl rfl HZ.out (by decide) (by decide) (by unfold maxLen; omega) (by omega) (by have := HSZ.out; simp; omega) _ rfl ?_
            intro g5 cap5 w5 hown hgrow hat hlt5
            have hl := HL.out _ _ _ hown hgrow hat
            obtain ⟨c4, f4, c4V, f4V, TH⟩ := HF.out _ _ _ hown hgrow hat
            obtain ⟨V, hV⟩ : ∃ V, w5.setCells g5 (kk * 11) (kcCells x) = V := ⟨_, rfl⟩
            obtain ⟨U2, hU2⟩ : ∃ U2, (w5.setCell ⟨w.heap.size + 4, 0, none⟩ (.slice (some ⟨g5, 0, none⟩) (kk + 1) cap5)).setCells g5 (kk * 11) (kcCells x) = U2 := ⟨_, rfl⟩
            rw [hV] at c4V f4V hl
            rw [hU2] at hl
            have HLEAF := Lib.hid hl
            have THH := Lib.hid (And.intro TH (And.intro hV hU2))
            clear hown hgrow hat hlt5 TH hV hU2 hl
            refine hK4 _ _ ?_
            refine wpAnyIn_ready (rs := [5, 7]) (by kernel_rfl) (by simp) ?_
            refine AllReadyIn.cons rfl (fun K5 hK5 => ?_) ?_
            · go_simp
              refine hK5 _ _ ?_
              refine wpAnyIn_ready (rs := [6, 7]) (by kernel_rfl) (by simp) ?_
              refine AllReadyIn.cons rfl (fun K6 hK6 => ?_) ?_
              · refine stepIn_store_mid rfl 47 (.tmp 70) (.tmp 66) rfl g5 (kk * 11) #[.int .i64 x.2.1.op, .string x.2.1.val.1, .int .i64 x.2.1.val.2, .string x.2.1.wid.1, .int .i64 x.2.1.wid.2, .string x.2.1.hi.1, .int .i64 x.2.1.hi.2, .string x.2.1.lo.1, .int .i64 x.2.1.lo.2, .string x.2.1.name, .slice x.2.2.1 x.2.2.2.1 x.2.2.2.2] ?_ rfl THH.out.1.1 HI47.out (by simp [Value.oneCell']) V THH.out.2.1 ?_
                · go_simp
                refine hK6 _ _ ?_
                refine wpAnyIn_ready (rs := [7]) (by kernel_rfl) (by simp) ?_
                refine AllReadyIn.cons rfl (fun K7 hK7 => ?_) ?_
                · go_simp
                  refine hK7 _ _ ?_
                  refine wpAnyIn_done (by kernel_rfl) ?_ _
                  exact HQ.out _ _ HLEAF.out.1
                exact AllReadyIn.nil
              refine AllReadyIn.cons rfl (fun K6 hK6 => ?_) ?_
              · go_simp
                refine hK6 _ _ ?_
                refine wpAnyIn_ready (rs := [6]) (by kernel_rfl) (by simp) ?_
                refine AllReadyIn.cons rfl (fun K7 hK7 => ?_) ?_
                · refine stepIn_store_mid rfl 47 (.tmp 70) (.tmp 66) rfl g5 (kk * 11) #[.int .i64 x.2.1.op, .string x.2.1.val.1, .int .i64 x.2.1.val.2, .string x.2.1.wid.1, .int .i64 x.2.1.wid.2, .string x.2.1.hi.1, .int .i64 x.2.1.hi.2, .string x.2.1.lo.1, .int .i64 x.2.1.lo.2, .string x.2.1.name, .slice x.2.2.1 x.2.2.2.1 x.2.2.2.2] ?_ rfl THH.out.1.2 HI47.out (by simp [Value.oneCell']) U2 THH.out.2.2 ?_
                  · go_simp
                  refine hK7 _ _ ?_
                  refine wpAnyIn_done (by kernel_rfl) ?_ _
                  exact HQ.out _ _ HLEAF.out.2
                exact AllReadyIn.nil
              exact AllReadyIn.nil
            refine AllReadyIn.cons rfl (fun K5 hK5 => ?_) ?_
            · go_simp
              refine hK5 _ _ ?_
              refine wpAnyIn_ready (rs := [5]) (by kernel_rfl) (by simp) ?_
              refine AllReadyIn.cons rfl (fun K6 hK6 => ?_) ?_
              · go_simp
                refine hK6 _ _ ?_
                refine wpAnyIn_ready (rs := [6]) (by kernel_rfl) (by simp) ?_
                refine AllReadyIn.cons rfl (fun K7 hK7 => ?_) ?_
                · refine stepIn_store_mid rfl 47 (.tmp 70) (.tmp 66) rfl g5 (kk * 11) #[.int .i64 x.2.1.op, .string x.2.1.val.1, .int .i64 x.2.1.val.2, .string x.2.1.wid.1, .int .i64 x.2.1.wid.2, .string x.2.1.hi.1, .int .i64 x.2.1.hi.2, .string x.2.1.lo.1, .int .i64 x.2.1.lo.2, .string x.2.1.name, .slice x.2.2.1 x.2.2.2.1 x.2.2.2.2] ?_ rfl THH.out.1.2 HI47.out (by simp [Value.oneCell']) U2 THH.out.2.2 ?_
                  · go_simp
                  refine hK7 _ _ ?_
                  refine wpAnyIn_done (by kernel_rfl) ?_ _
                  exact HQ.out _ _ HLEAF.out.2
                exact AllReadyIn.nil
              exact AllReadyIn.nil
            exact AllReadyIn.nil
          exact AllReadyIn.nil
        exact AllReadyIn.nil
      refine AllReadyIn.cons rfl (fun K2 hK2 => ?_) ?_
      · go_simp
        refine hK2 _ _ ?_
        refine wpAnyIn_ready (rs := [1]) (by kernel_rfl) (by simp) ?_
        refine AllReadyIn.cons rfl (fun K3 hK3 => ?_) ?_
        · go_simp
          refine hK3 _ _ ?_
          refine wpAnyIn_ready (rs := [4]) (by kernel_rfl) (by simp) ?_
          refine AllReadyIn.cons rfl (fun K4 hK4 => ?_) ?_
          · refine stepIn_append_lies rfl _ _ 45 rfl (w.heap.size + 2) 47 i0 _ 11 144 Try.underlying45 HI0.out.1 HI0.out.2.1 HI0.out.2.2.1 HI0.out.2.2.2 rfl (by decide) (.slice A kk c) kk (base ++ pre.map kcCells).flatten rfl ((World.ownsRow.drewN HO.out 1).alloc _) ⟨W.heap.size, 0, none⟩ 1 1 (#[.int .i64 0, .string ⟨#[]⟩, .int .i64 0, .string ⟨#[]⟩, .int .i64 0, .string ⟨#[]⟩, .int .i64 0, .string ⟨#[]⟩, .int .i64 0, .string ⟨#[]⟩, .slice none 0 0] : Array Value).toList rfl rfl HZ.out (by decide) (by decide) (by unfold maxLen; omega) (by omega) (by have := HSZ.out; simp; omega) _ rfl ?_
            intro g5 cap5 w5 hown hgrow hat hlt5
            have hl := HL.out _ _ _ hown hgrow hat
            obtain ⟨c4, f4, c4V, f4V, TH⟩ := HF.out _ _ _ hown hgrow hat
            obtain ⟨V, hV⟩ : ∃ V, w5.setCells g5 (kk * 11) (kcCells x) = V := ⟨_, rfl⟩
            obtain ⟨U2, hU2⟩ : ∃ U2, (w5.setCell ⟨w.heap.size + 4, 0, none⟩ (.slice (some ⟨g5, 0, none⟩) (kk + 1) cap5)).setCells g5 (kk * 11) (kcCells x) = U2 := ⟨_, rfl⟩
            rw [hV] at c4V f4V hl
            rw [hU2] at hl
            have HLEAF := Lib.hid hl
            have THH := Lib.hid (And.intro TH (And.intro hV hU2))
            clear hown hgrow hat hlt5 TH hV hU2 hl
            refine hK4 _ _ ?_
            refine wpAnyIn_ready (rs := [5, 7]) (by kernel_rfl) (by simp) ?_
            refine AllReadyIn.cons rfl (fun K5 hK5 => ?_) ?_
            · go_simp
              refine hK5 _ _ ?_
              refine wpAnyIn_ready (rs := [6, 7]) (by kernel_rfl) (by simp) ?_
              refine AllReadyIn.cons rfl (fun K6 hK6 => ?_) ?_
              · refine stepIn_store_mid rfl 47 (.tmp 70) (.tmp 66) rfl g5 (kk * 11) #[.int .i64 x.2.1.op, .string x.2.1.val.1, .int .i64 x.2.1.val.2, .string x.2.1.wid.1, .int .i64 x.2.1.wid.2, .string x.2.1.hi.1, .int .i64 x.2.1.hi.2, .string x.2.1.lo.1, .int .i64 x.2.1.lo.2, .string x.2.1.name, .slice x.2.2.1 x.2.2.2.1 x.2.2.2.2] ?_ rfl THH.out.1.1 HI47.out (by simp [Value.oneCell']) V THH.out.2.1 ?_
                · go_simp
                refine hK6 _ _ ?_
                refine wpAnyIn_ready (rs := [7]) (by kernel_rfl) (by simp) ?_
                refine AllReadyIn.cons rfl (fun K7 hK7 => ?_) ?_
                · go_simp
                  refine hK7 _ _ ?_
                  refine wpAnyIn_done (by kernel_rfl) ?_ _
                  exact HQ.out _ _ HLEAF.out.1
                exact AllReadyIn.nil
              refine AllReadyIn.cons rfl (fun K6 hK6 => ?_) ?_
              · go_simp
                refine hK6 _ _ ?_
                refine wpAnyIn_ready (rs := [6]) (by kernel_rfl) (by simp) ?_
                refine AllReadyIn.cons rfl (fun K7 hK7 => ?_) ?_
                · refine stepIn_store_mid rfl 47 (.tmp 70) (.tmp 66) rfl g5 (kk * 11) #[.int .i64 x.2.1.op, .string x.2.1.val.1, .int .i64 x.2.1.val.2, .string x.2.1.wid.1, .int .i64 x.2.1.wid.2, .string x.2.1.hi.1, .int .i64 x.2.1.hi.2, .string x.2.1.lo.1, .int .i64 x.2.1.lo.2, .string x.2.1.name, .slice x.2.2.1 x.2.2.2.1 x.2.2.2.2] ?_ rfl THH.out.1.2 HI47.out (by simp [Value.oneCell']) U2 THH.out.2.2 ?_
                  · go_simp
                  refine hK7 _ _ ?_
                  refine wpAnyIn_done (by kernel_rfl) ?_ _
                  exact HQ.out _ _ HLEAF.out.2
                exact AllReadyIn.nil
              exact AllReadyIn.nil
            refine AllReadyIn.cons rfl (fun K5 hK5 => ?_) ?_
            · go_simp
              refine hK5 _ _ ?_
              refine wpAnyIn_ready (rs := [5]) (by kernel_rfl) (by simp) ?_
              refine AllReadyIn.cons rfl (fun K6 hK6 => ?_) ?_
              · go_simp
                refine hK6 _ _ ?_
                refine wpAnyIn_ready (rs := [6]) (by kernel_rfl) (by simp) ?_
                refine AllReadyIn.cons rfl (fun K7 hK7 => ?_) ?_
                · refine stepIn_store_mid rfl 47 (.tmp 70) (.tmp 66) rfl g5 (kk * 11) #[.int .i64 x.2.1.op, .string x.2.1.val.1, .int .i64 x.2.1.val.2, .string x.2.1.wid.1, .int .i64 x.2.1.wid.2, .string x.2.1.hi.1, .int .i64 x.2.1.hi.2, .string x.2.1.lo.1, .int .i64 x.2.1.lo.2, .string x.2.1.name, .slice x.2.2.1 x.2.2.2.1 x.2.2.2.2] ?_ rfl THH.out.1.2 HI47.out (by simp [Value.oneCell']) U2 THH.out.2.2 ?_
                  · go_simp
                  refine hK7 _ _ ?_
                  refine wpAnyIn_done (by kernel_rfl) ?_ _
                  exact HQ.out _ _ HLEAF.out.2
                exact AllReadyIn.nil
              exact AllReadyIn.nil
            exact AllReadyIn.nil
          exact AllReadyIn.nil
        exact AllReadyIn.nil
      exact AllReadyIn.nil
    exact AllReadyIn.nil
  refine AllReadyIn.cons rfl (fun K0 hK0 => ?_) ?_
  · go_simp
    refine hK0 _ _ ?_
    refine wpAnyIn_ready (rs := [0, 3]) (by kernel_rfl) (by simp) ?_
    refine AllReadyIn.cons rfl (fun K1 hK1 => ?_) ?_
    · go_simp
      refine hK1 _ _ ?_
      refine wpAnyIn_ready (rs := [2, 3]) (by kernel_rfl) (by simp) ?_
      refine AllReadyIn.cons rfl (fun K2 hK2 => ?_) ?_
      · go_simp
        refine hK2 _ _ ?_
        refine wpAnyIn_ready (rs := [3]) (by kernel_rfl) (by simp) ?_
        refine AllReadyIn.cons rfl (fun K3 hK3 => ?_) ?_
        · go_simp
          refine hK3 _ _ ?_
          refine wpAnyIn_ready (rs := [4]) (by kernel_rfl) (by simp) ?_
          refine AllReadyIn.cons rfl (fun K4 hK4 => ?_) ?_
          · refine stepIn_append_lies rfl _ _ 45 rfl (w.heap.size + 2) 47 i0 _ 11 144 Try.underlying45 HI0.out.1 HI0.out.2.1 HI0.out.2.2.1 HI0.out.2.2.2 rfl (by decide) (.slice A kk c) kk (base ++ pre.map kcCells).flatten rfl ((World.ownsRow.drewN HO.out 1).alloc _) ⟨W.heap.size, 0, none⟩ 1 1 (#[.int .i64 0, .string ⟨#[]⟩, .int .i64 0, .string ⟨#[]⟩, .int .i64 0, .string ⟨#[]⟩, .int .i64 0, .string ⟨#[]⟩, .int .i64 0, .string ⟨#[]⟩, .slice none 0 0] : Array Value).toList rfl rfl HZ.out (by decide) (by decide) (by unfold maxLen; omega) (by omega) (by have := HSZ.out; simp; omega) _ rfl ?_
            intro g5 cap5 w5 hown hgrow hat hlt5
            have hl := HL.out _ _ _ hown hgrow hat
            obtain ⟨c4, f4, c4V, f4V, TH⟩ := HF.out _ _ _ hown hgrow hat
            obtain ⟨V, hV⟩ : ∃ V, w5.setCells g5 (kk * 11) (kcCells x) = V := ⟨_, rfl⟩
            obtain ⟨U2, hU2⟩ : ∃ U2, (w5.setCell ⟨w.heap.size + 4, 0, none⟩ (.slice (some ⟨g5, 0, none⟩) (kk + 1) cap5)).setCells g5 (kk * 11) (kcCells x) = U2 := ⟨_, rfl⟩
            rw [hV] at c4V f4V hl
            rw [hU2] at hl
            have HLEAF := Lib.hid hl
            have THH := Lib.hid (And.intro TH (And.intro hV hU2))
            clear hown hgrow hat hlt5 TH hV hU2 hl
            refine hK4 _ _ ?_
            refine wpAnyIn_ready (rs := [5, 7]) (by kernel_rfl) (by simp) ?_
            refine AllReadyIn.cons rfl (fun K5 hK5 => ?_) ?_
            · go_simp
              refine hK5 _ _ ?_
              refine wpAnyIn_ready (rs := [6, 7]) (by kernel_rfl) (by simp) ?_
              refine AllReadyIn.cons rfl (fun K6 hK6 => ?_) ?_
              · refine stepIn_store_mid rfl 47 (.tmp 70) (.tmp 66) rfl g5 (kk * 11) #[.int .i64 x.2.1.op, .string x.2.1.val.1, .int .i64 x.2.1.val.2, .string x.2.1.wid.1, .int .i64 x.2.1.wid.2, .string x.2.1.hi.1, .int .i64 x.2.1.hi.2, .string x.2.1.lo.1, .int .i64 x.2.1.lo.2, .string x.2.1.name, .slice x.2.2.1 x.2.2.2.1 x.2.2.2.2] ?_ rfl THH.out.1.1 HI47.out (by simp [Value.oneCell']) V THH.out.2.1 ?_
                · go_simp
                refine hK6 _ _ ?_
                refine wpAnyIn_ready (rs := [7]) (by kernel_rfl) (by simp) ?_
                refine AllReadyIn.cons rfl (fun K7 hK7 => ?_) ?_
                · go_simp
                  refine hK7 _ _ ?_
                  refine wpAnyIn_done (by kernel_rfl) ?_ _
                  exact HQ.out _ _ HLEAF.out.1
                exact AllReadyIn.nil
              refine AllReadyIn.cons rfl (fun K6 hK6 => ?_) ?_
              · go_simp
                refine hK6 _ _ ?_
                refine wpAnyIn_ready (rs := [6]) (by kernel_rfl) (by simp) ?_
                refine AllReadyIn.cons rfl (fun K7 hK7 => ?_) ?_
                · refine stepIn_store_mid rfl 47 (.tmp 70) (.tmp 66) rfl g5 (kk * 11) #[.int .i64 x.2.1.op, .string x.2.1.val.1, .int .i64 x.2.1.val.2, .string x.2.1.wid.1, .int .i64 x.2.1.wid.2, .string x.2.1.hi.1, .int .i64 x.2.1.hi.2, .string x.2.1.lo.1, .int .i64 x.2.1.lo.2, .string x.2.1.name, .slice x.2.2.1 x.2.2.2.1 x.2.2.2.2] ?_ rfl THH.out.1.2 HI47.out (by simp [Value.oneCell']) U2 THH.out.2.2 ?_
                  · go_simp
                  refine hK7 _ _ ?_
                  refine wpAnyIn_done (by kernel_rfl) ?_ _
                  exact HQ.out _ _ HLEAF.out.2
                exact AllReadyIn.nil
              exact AllReadyIn.nil
            refine AllReadyIn.cons rfl (fun K5 hK5 => ?_) ?_
            · go_simp
              refine hK5 _ _ ?_
              refine wpAnyIn_ready (rs := [5]) (by kernel_rfl) (by simp) ?_
              refine AllReadyIn.cons rfl (fun K6 hK6 => ?_) ?_
              · go_simp
                refine hK6 _ _ ?_
                refine wpAnyIn_ready (rs := [6]) (by kernel_rfl) (by simp) ?_
                refine AllReadyIn.cons rfl (fun K7 hK7 => ?_) ?_
                · refine stepIn_store_mid rfl 47 (.tmp 70) (.tmp 66) rfl g5 (kk * 11) #[.int .i64 x.2.1.op, .string x.2.1.val.1, .int .i64 x.2.1.val.2, .string x.2.1.wid.1, .int .i64 x.2.1.wid.2, .string x.2.1.hi.1, .int .i64 x.2.1.hi.2, .string x.2.1.lo.1, .int .i64 x.2.1.lo.2, .string x.2.1.name, .slice x.2.2.1 x.2.2.2.1 x.2.2.2.2] ?_ rfl THH.out.1.2 HI47.out (by simp [Value.oneCell']) U2 THH.out.2.2 ?_
                  · go_simp
                  refine hK7 _ _ ?_
                  refine wpAnyIn_done (by kernel_rfl) ?_ _
                  exact HQ.out _ _ HLEAF.out.2
                exact AllReadyIn.nil
              exact AllReadyIn.nil
            exact AllReadyIn.nil
          exact AllReadyIn.nil
        exact AllReadyIn.nil
      refine AllReadyIn.cons rfl (fun K2 hK2 => ?_) ?_
      · go_simp
        refine hK2 _ _ ?_
        refine wpAnyIn_ready (rs := [2]) (by kernel_rfl) (by simp) ?_
        refine AllReadyIn.cons rfl (fun K3 hK3 => ?_) ?_
        · go_simp
          refine hK3 _ _ ?_
          refine wpAnyIn_ready (rs := [4]) (by kernel_rfl) (by simp) ?_
          refine AllReadyIn.cons rfl (fun K4 hK4 => ?_) ?_
          · refine stepIn_append_lies rfl _ _ 45 rfl (w.heap.size + 2) 47 i0 _ 11 144 Try.underlying45 HI0.out.1 HI0.out.2.1 HI0.out.2.2.1 HI0.out.2.2.2 rfl (by decide) (.slice A kk c) kk (base ++ pre.map kcCells).flatten rfl ((World.ownsRow.drewN HO.out 1).alloc _) ⟨W.heap.size, 0, none⟩ 1 1 (#[.int .i64 0, .string ⟨#[]⟩, .int .i64 0, .string ⟨#[]⟩, .int .i64 0, .string ⟨#[]⟩, .int .i64 0, .string ⟨#[]⟩, .int .i64 0, .string ⟨#[]⟩, .slice none 0 0] : Array Value).toList rfl rfl HZ.out (by decide) (by decide) (by unfold maxLen; omega) (by omega) (by have := HSZ.out; simp; omega) _ rfl ?_
            intro g5 cap5 w5 hown hgrow hat hlt5
            have hl := HL.out _ _ _ hown hgrow hat
            obtain ⟨c4, f4, c4V, f4V, TH⟩ := HF.out _ _ _ hown hgrow hat
            obtain ⟨V, hV⟩ : ∃ V, w5.setCells g5 (kk * 11) (kcCells x) = V := ⟨_, rfl⟩
            obtain ⟨U2, hU2⟩ : ∃ U2, (w5.setCell ⟨w.heap.size + 4, 0, none⟩ (.slice (some ⟨g5, 0, none⟩) (kk + 1) cap5)).setCells g5 (kk * 11) (kcCells x) = U2 := ⟨_, rfl⟩
            rw [hV] at c4V f4V hl
            rw [hU2] at hl
            have HLEAF := Lib.hid hl
            have THH := Lib.hid (And.intro TH (And.intro hV hU2))
            clear hown hgrow hat hlt5 TH hV hU2 hl
            refine hK4 _ _ ?_
            refine wpAnyIn_ready (rs := [5, 7]) (by kernel_rfl) (by simp) ?_
            refine AllReadyIn.cons rfl (fun K5 hK5 => ?_) ?_
            · go_simp
              refine hK5 _ _ ?_
              refine wpAnyIn_ready (rs := [6, 7]) (by kernel_rfl) (by simp) ?_
              refine AllReadyIn.cons rfl (fun K6 hK6 => ?_) ?_
              · refine stepIn_store_mid rfl 47 (.tmp 70) (.tmp 66) rfl g5 (kk * 11) #[.int .i64 x.2.1.op, .string x.2.1.val.1, .int .i64 x.2.1.val.2, .string x.2.1.wid.1, .int .i64 x.2.1.wid.2, .string x.2.1.hi.1, .int .i64 x.2.1.hi.2, .string x.2.1.lo.1, .int .i64 x.2.1.lo.2, .string x.2.1.name, .slice x.2.2.1 x.2.2.2.1 x.2.2.2.2] ?_ rfl THH.out.1.1 HI47.out (by simp [Value.oneCell']) V THH.out.2.1 ?_
                · go_simp
                refine hK6 _ _ ?_
                refine wpAnyIn_ready (rs := [7]) (by kernel_rfl) (by simp) ?_
                refine AllReadyIn.cons rfl (fun K7 hK7 => ?_) ?_
                · go_simp
                  refine hK7 _ _ ?_
                  refine wpAnyIn_done (by kernel_rfl) ?_ _
                  exact HQ.out _ _ HLEAF.out.1
                exact AllReadyIn.nil
              refine AllReadyIn.cons rfl (fun K6 hK6 => ?_) ?_
              · go_simp
                refine hK6 _ _ ?_
                refine wpAnyIn_ready (rs := [6]) (by kernel_rfl) (by simp) ?_
                refine AllReadyIn.cons rfl (fun K7 hK7 => ?_) ?_
                · refine stepIn_store_mid rfl 47 (.tmp 70) (.tmp 66) rfl g5 (kk * 11) #[.int .i64 x.2.1.op, .string x.2.1.val.1, .int .i64 x.2.1.val.2, .string x.2.1.wid.1, .int .i64 x.2.1.wid.2, .string x.2.1.hi.1, .int .i64 x.2.1.hi.2, .string x.2.1.lo.1, .int .i64 x.2.1.lo.2, .string x.2.1.name, .slice x.2.2.1 x.2.2.2.1 x.2.2.2.2] ?_ rfl THH.out.1.2 HI47.out (by simp [Value.oneCell']) U2 THH.out.2.2 ?_
                  · go_simp
                  refine hK7 _ _ ?_
                  refine wpAnyIn_done (by kernel_rfl) ?_ _
                  exact HQ.out _ _ HLEAF.out.2
                exact AllReadyIn.nil
              exact AllReadyIn.nil
            refine AllReadyIn.cons rfl (fun K5 hK5 => ?_) ?_
            · go_simp
              refine hK5 _ _ ?_
              refine wpAnyIn_ready (rs := [5]) (by kernel_rfl) (by simp) ?_
              refine AllReadyIn.cons rfl (fun K6 hK6 => ?_) ?_
              · go_simp
                refine hK6 _ _ ?_
                refine wpAnyIn_ready (rs := [6]) (by kernel_rfl) (by simp) ?_
                refine AllReadyIn.cons rfl (fun K7 hK7 => ?_) ?_
                · refine stepIn_store_mid rfl 47 (.tmp 70) (.tmp 66) rfl g5 (kk * 11) #[.int .i64 x.2.1.op, .string x.2.1.val.1, .int .i64 x.2.1.val.2, .string x.2.1.wid.1, .int .i64 x.2.1.wid.2, .string x.2.1.hi.1, .int .i64 x.2.1.hi.2, .string x.2.1.lo.1, .int .i64 x.2.1.lo.2, .string x.2.1.name, .slice x.2.2.1 x.2.2.2.1 x.2.2.2.2] ?_ rfl THH.out.1.2 HI47.out (by simp [Value.oneCell']) U2 THH.out.2.2 ?_
                  · go_simp
                  refine hK7 _ _ ?_
                  refine wpAnyIn_done (by kernel_rfl) ?_ _
                  exact HQ.out _ _ HLEAF.out.2
                exact AllReadyIn.nil
              exact AllReadyIn.nil
            exact AllReadyIn.nil
          exact AllReadyIn.nil
        exact AllReadyIn.nil
      exact AllReadyIn.nil
    refine AllReadyIn.cons rfl (fun K1 hK1 => ?_) ?_
    · go_simp
      refine hK1 _ _ ?_
      refine wpAnyIn_ready (rs := [0]) (by kernel_rfl) (by simp) ?_
      refine AllReadyIn.cons rfl (fun K2 hK2 => ?_) ?_
      · go_simp
        refine hK2 _ _ ?_
        refine wpAnyIn_ready (rs := [2]) (by kernel_rfl) (by simp) ?_
        refine AllReadyIn.cons rfl (fun K3 hK3 => ?_) ?_
        · go_simp
          refine hK3 _ _ ?_
          refine wpAnyIn_ready (rs := [4]) (by kernel_rfl) (by simp) ?_
          refine AllReadyIn.cons rfl (fun K4 hK4 => ?_) ?_
          · refine stepIn_append_lies rfl _ _ 45 rfl (w.heap.size + 2) 47 i0 _ 11 144 Try.underlying45 HI0.out.1 HI0.out.2.1 HI0.out.2.2.1 HI0.out.2.2.2 rfl (by decide) (.slice A kk c) kk (base ++ pre.map kcCells).flatten rfl ((World.ownsRow.drewN HO.out 1).alloc _) ⟨W.heap.size, 0, none⟩ 1 1 (#[.int .i64 0, .string ⟨#[]⟩, .int .i64 0, .string ⟨#[]⟩, .int .i64 0, .string ⟨#[]⟩, .int .i64 0, .string ⟨#[]⟩, .int .i64 0, .string ⟨#[]⟩, .slice none 0 0] : Array Value).toList rfl rfl HZ.out (by decide) (by decide) (by unfold maxLen; omega) (by omega) (by have := HSZ.out; simp; omega) _ rfl ?_
            intro g5 cap5 w5 hown hgrow hat hlt5
            have hl := HL.out _ _ _ hown hgrow hat
            obtain ⟨c4, f4, c4V, f4V, TH⟩ := HF.out _ _ _ hown hgrow hat
            obtain ⟨V, hV⟩ : ∃ V, w5.setCells g5 (kk * 11) (kcCells x) = V := ⟨_, rfl⟩
            obtain ⟨U2, hU2⟩ : ∃ U2, (w5.setCell ⟨w.heap.size + 4, 0, none⟩ (.slice (some ⟨g5, 0, none⟩) (kk + 1) cap5)).setCells g5 (kk * 11) (kcCells x) = U2 := ⟨_, rfl⟩
            rw [hV] at c4V f4V hl
            rw [hU2] at hl
            have HLEAF := Lib.hid hl
            have THH := Lib.hid (And.intro TH (And.intro hV hU2))
            clear hown hgrow hat hlt5 TH hV hU2 hl
            refine hK4 _ _ ?_
            refine wpAnyIn_ready (rs := [5, 7]) (by kernel_rfl) (by simp) ?_
            refine AllReadyIn.cons rfl (fun K5 hK5 => ?_) ?_
            · go_simp
              refine hK5 _ _ ?_
              refine wpAnyIn_ready (rs := [6, 7]) (by kernel_rfl) (by simp) ?_
              refine AllReadyIn.cons rfl (fun K6 hK6 => ?_) ?_
              · refine stepIn_store_mid rfl 47 (.tmp 70) (.tmp 66) rfl g5 (kk * 11) #[.int .i64 x.2.1.op, .string x.2.1.val.1, .int .i64 x.2.1.val.2, .string x.2.1.wid.1, .int .i64 x.2.1.wid.2, .string x.2.1.hi.1, .int .i64 x.2.1.hi.2, .string x.2.1.lo.1, .int .i64 x.2.1.lo.2, .string x.2.1.name, .slice x.2.2.1 x.2.2.2.1 x.2.2.2.2] ?_ rfl THH.out.1.1 HI47.out (by simp [Value.oneCell']) V THH.out.2.1 ?_
                · go_simp
                refine hK6 _ _ ?_
                refine wpAnyIn_ready (rs := [7]) (by kernel_rfl) (by simp) ?_
                refine AllReadyIn.cons rfl (fun K7 hK7 => ?_) ?_
                · go_simp
                  refine hK7 _ _ ?_
                  refine wpAnyIn_done (by kernel_rfl) ?_ _
                  exact HQ.out _ _ HLEAF.out.1
                exact AllReadyIn.nil
              refine AllReadyIn.cons rfl (fun K6 hK6 => ?_) ?_
              · go_simp
                refine hK6 _ _ ?_
                refine wpAnyIn_ready (rs := [6]) (by kernel_rfl) (by simp) ?_
                refine AllReadyIn.cons rfl (fun K7 hK7 => ?_) ?_
                · refine stepIn_store_mid rfl 47 (.tmp 70) (.tmp 66) rfl g5 (kk * 11) #[.int .i64 x.2.1.op, .string x.2.1.val.1, .int .i64 x.2.1.val.2, .string x.2.1.wid.1, .int .i64 x.2.1.wid.2, .string x.2.1.hi.1, .int .i64 x.2.1.hi.2, .string x.2.1.lo.1, .int .i64 x.2.1.lo.2, .string x.2.1.name, .slice x.2.2.1 x.2.2.2.1 x.2.2.2.2] ?_ rfl THH.out.1.2 HI47.out (by simp [Value.oneCell']) U2 THH.out.2.2 ?_
                  · go_simp
                  refine hK7 _ _ ?_
                  refine wpAnyIn_done (by kernel_rfl) ?_ _
                  exact HQ.out _ _ HLEAF.out.2
                exact AllReadyIn.nil
              exact AllReadyIn.nil
            refine AllReadyIn.cons rfl (fun K5 hK5 => ?_) ?_
            · go_simp
              refine hK5 _ _ ?_
              refine wpAnyIn_ready (rs := [5]) (by kernel_rfl) (by simp) ?_
              refine AllReadyIn.cons rfl (fun K6 hK6 => ?_) ?_
              · go_simp
                refine hK6 _ _ ?_
                refine wpAnyIn_ready (rs := [6]) (by kernel_rfl) (by simp) ?_
                refine AllReadyIn.cons rfl (fun K7 hK7 => ?_) ?_
                · refine stepIn_store_mid rfl 47 (.tmp 70) (.tmp 66) rfl g5 (kk * 11) #[.int .i64 x.2.1.op, .string x.2.1.val.1, .int .i64 x.2.1.val.2, .string x.2.1.wid.1, .int .i64 x.2.1.wid.2, .string x.2.1.hi.1, .int .i64 x.2.1.hi.2, .string x.2.1.lo.1, .int .i64 x.2.1.lo.2, .string x.2.1.name, .slice x.2.2.1 x.2.2.2.1 x.2.2.2.2] ?_ rfl THH.out.1.2 HI47.out (by simp [Value.oneCell']) U2 THH.out.2.2 ?_
                  · go_simp
                  refine hK7 _ _ ?_
                  refine wpAnyIn_done (by kernel_rfl) ?_ _
                  exact HQ.out _ _ HLEAF.out.2
                exact AllReadyIn.nil
              exact AllReadyIn.nil
            exact AllReadyIn.nil
          exact AllReadyIn.nil
        exact AllReadyIn.nil
      exact AllReadyIn.nil
    exact AllReadyIn.nil
  refine AllReadyIn.cons rfl (fun K0 hK0 => ?_) ?_
  · go_simp
    refine hK0 _ _ ?_
    refine wpAnyIn_ready (rs := [0, 1]) (by kernel_rfl) (by simp) ?_
    refine AllReadyIn.cons rfl (fun K1 hK1 => ?_) ?_
    · go_simp
      refine hK1 _ _ ?_
      refine wpAnyIn_ready (rs := [1, 2]) (by kernel_rfl) (by simp) ?_
      refine AllReadyIn.cons rfl (fun K2 hK2 => ?_) ?_
      · go_simp
        refine hK2 _ _ ?_
        refine wpAnyIn_ready (rs := [2]) (by kernel_rfl) (by simp) ?_
        refine AllReadyIn.cons rfl (fun K3 hK3 => ?_) ?_
        · go_simp
          refine hK3 _ _ ?_
          refine wpAnyIn_ready (rs := [4]) (by kernel_rfl) (by simp) ?_
          refine AllReadyIn.cons rfl (fun K4 hK4 => ?_) ?_
          · refine stepIn_append_lies rfl _ _ 45 rfl (w.heap.size + 2) 47 i0 _ 11 144 Try.underlying45 HI0.out.1 HI0.out.2.1 HI0.out.2.2.1 HI0.out.2.2.2 rfl (by decide) (.slice A kk c) kk (base ++ pre.map kcCells).flatten rfl ((World.ownsRow.drewN HO.out 1).alloc _) ⟨W.heap.size, 0, none⟩ 1 1 (#[.int .i64 0, .string ⟨#[]⟩, .int .i64 0, .string ⟨#[]⟩, .int .i64 0, .string ⟨#[]⟩, .int .i64 0, .string ⟨#[]⟩, .int .i64 0, .string ⟨#[]⟩, .slice none 0 0] : Array Value).toList rfl rfl HZ.out (by decide) (by decide) (by unfold maxLen; omega) (by omega) (by have := HSZ.out; simp; omega) _ rfl ?_
            intro g5 cap5 w5 hown hgrow hat hlt5
            have hl := HL.out _ _ _ hown hgrow hat
            obtain ⟨c4, f4, c4V, f4V, TH⟩ := HF.out _ _ _ hown hgrow hat
            obtain ⟨V, hV⟩ : ∃ V, w5.setCells g5 (kk * 11) (kcCells x) = V := ⟨_, rfl⟩
            obtain ⟨U2, hU2⟩ : ∃ U2, (w5.setCell ⟨w.heap.size + 4, 0, none⟩ (.slice (some ⟨g5, 0, none⟩) (kk + 1) cap5)).setCells g5 (kk * 11) (kcCells x) = U2 := ⟨_, rfl⟩
            rw [hV] at c4V f4V hl
            rw [hU2] at hl
            have HLEAF := Lib.hid hl
            have THH := Lib.hid (And.intro TH (And.intro hV hU2))
            clear hown hgrow hat hlt5 TH hV hU2 hl
            refine hK4 _ _ ?_
            refine wpAnyIn_ready (rs := [5, 7]) (by kernel_rfl) (by simp) ?_
            refine AllReadyIn.cons rfl (fun K5 hK5 => ?_) ?_
            · go_simp
              refine hK5 _ _ ?_
              refine wpAnyIn_ready (rs := [6, 7]) (by kernel_rfl) (by simp) ?_
              refine AllReadyIn.cons rfl (fun K6 hK6 => ?_) ?_
              · refine stepIn_store_mid rfl 47 (.tmp 70) (.tmp 66) rfl g5 (kk * 11) #[.int .i64 x.2.1.op, .string x.2.1.val.1, .int .i64 x.2.1.val.2, .string x.2.1.wid.1, .int .i64 x.2.1.wid.2, .string x.2.1.hi.1, .int .i64 x.2.1.hi.2, .string x.2.1.lo.1, .int .i64 x.2.1.lo.2, .string x.2.1.name, .slice x.2.2.1 x.2.2.2.1 x.2.2.2.2] ?_ rfl THH.out.1.1 HI47.out (by simp [Value.oneCell']) V THH.out.2.1 ?_
                · go_simp
                refine hK6 _ _ ?_
                refine wpAnyIn_ready (rs := [7]) (by kernel_rfl) (by simp) ?_
                refine AllReadyIn.cons rfl (fun K7 hK7 => ?_) ?_
                · go_simp
                  refine hK7 _ _ ?_
                  refine wpAnyIn_done (by kernel_rfl) ?_ _
                  exact HQ.out _ _ HLEAF.out.1
                exact AllReadyIn.nil
              refine AllReadyIn.cons rfl (fun K6 hK6 => ?_) ?_
              · go_simp
                refine hK6 _ _ ?_
                refine wpAnyIn_ready (rs := [6]) (by kernel_rfl) (by simp) ?_
                refine AllReadyIn.cons rfl (fun K7 hK7 => ?_) ?_
                · refine stepIn_store_mid rfl 47 (.tmp 70) (.tmp 66) rfl g5 (kk * 11) #[.int .i64 x.2.1.op, .string x.2.1.val.1, .int .i64 x.2.1.val.2, .string x.2.1.wid.1, .int .i64 x.2.1.wid.2, .string x.2.1.hi.1, .int .i64 x.2.1.hi.2, .string x.2.1.lo.1, .int .i64 x.2.1.lo.2, .string x.2.1.name, .slice x.2.2.1 x.2.2.2.1 x.2.2.2.2] ?_ rfl THH.out.1.2 HI47.out (by simp [Value.oneCell']) U2 THH.out.2.2 ?_
                  · go_simp
                  refine hK7 _ _ ?_
                  refine wpAnyIn_done (by kernel_rfl) ?_ _
                  exact HQ.out _ _ HLEAF.out.2
                exact AllReadyIn.nil
              exact AllReadyIn.nil
            refine AllReadyIn.cons rfl (fun K5 hK5 => ?_) ?_
            · go_simp
              refine hK5 _ _ ?_
              refine wpAnyIn_ready (rs := [5]) (by kernel_rfl) (by simp) ?_
              refine AllReadyIn.cons rfl (fun K6 hK6 => ?_) ?_
              · go_simp
                refine hK6 _ _ ?_
                refine wpAnyIn_ready (rs := [6]) (by kernel_rfl) (by simp) ?_
                refine AllReadyIn.cons rfl (fun K7 hK7 => ?_) ?_
                · refine stepIn_store_mid rfl 47 (.tmp 70) (.tmp 66) rfl g5 (kk * 11) #[.int .i64 x.2.1.op, .string x.2.1.val.1, .int .i64 x.2.1.val.2, .string x.2.1.wid.1, .int .i64 x.2.1.wid.2, .string x.2.1.hi.1, .int .i64 x.2.1.hi.2, .string x.2.1.lo.1, .int .i64 x.2.1.lo.2, .string x.2.1.name, .slice x.2.2.1 x.2.2.2.1 x.2.2.2.2] ?_ rfl THH.out.1.2 HI47.out (by simp [Value.oneCell']) U2 THH.out.2.2 ?_
                  · go_simp
                  refine hK7 _ _ ?_
                  refine wpAnyIn_done (by kernel_rfl) ?_ _
                  exact HQ.out _ _ HLEAF.out.2
                exact AllReadyIn.nil
              exact AllReadyIn.nil
            exact AllReadyIn.nil
          exact AllReadyIn.nil
        exact AllReadyIn.nil
      refine AllReadyIn.cons rfl (fun K2 hK2 => ?_) ?_
      · go_simp
        refine hK2 _ _ ?_
        refine wpAnyIn_ready (rs := [1]) (by kernel_rfl) (by simp) ?_
        refine AllReadyIn.cons rfl (fun K3 hK3 => ?_) ?_
        · go_simp
          refine hK3 _ _ ?_
          refine wpAnyIn_ready (rs := [4]) (by kernel_rfl) (by simp) ?_
          refine AllReadyIn.cons rfl (fun K4 hK4 => ?_) ?_
          · refine stepIn_append_lies rfl _ _ 45 rfl (w.heap.size + 2) 47 i0 _ 11 144 Try.underlying45 HI0.out.1 HI0.out.2.1 HI0.out.2.2.1 HI0.out.2.2.2 rfl (by decide) (.slice A kk c) kk (base ++ pre.map kcCells).flatten rfl ((World.ownsRow.drewN HO.out 1).alloc _) ⟨W.heap.size, 0, none⟩ 1 1 (#[.int .i64 0, .string ⟨#[]⟩, .int .i64 0, .string ⟨#[]⟩, .int .i64 0, .string ⟨#[]⟩, .int .i64 0, .string ⟨#[]⟩, .int .i64 0, .string ⟨#[]⟩, .slice none 0 0] : Array Value).toList rfl rfl HZ.out (by decide) (by decide) (by unfold maxLen; omega) (by omega) (by have := HSZ.out; simp; omega) _ rfl ?_
            intro g5 cap5 w5 hown hgrow hat hlt5
            have hl := HL.out _ _ _ hown hgrow hat
            obtain ⟨c4, f4, c4V, f4V, TH⟩ := HF.out _ _ _ hown hgrow hat
            obtain ⟨V, hV⟩ : ∃ V, w5.setCells g5 (kk * 11) (kcCells x) = V := ⟨_, rfl⟩
            obtain ⟨U2, hU2⟩ : ∃ U2, (w5.setCell ⟨w.heap.size + 4, 0, none⟩ (.slice (some ⟨g5, 0, none⟩) (kk + 1) cap5)).setCells g5 (kk * 11) (kcCells x) = U2 := ⟨_, rfl⟩
            rw [hV] at c4V f4V hl
            rw [hU2] at hl
            have HLEAF := Lib.hid hl
            have THH := Lib.hid (And.intro TH (And.intro hV hU2))
            clear hown hgrow hat hlt5 TH hV hU2 hl
            refine hK4 _ _ ?_
            refine wpAnyIn_ready (rs := [5, 7]) (by kernel_rfl) (by simp) ?_
            refine AllReadyIn.cons rfl (fun K5 hK5 => ?_) ?_
            · go_simp
              refine hK5 _ _ ?_
              refine wpAnyIn_ready (rs := [6, 7]) (by kernel_rfl) (by simp) ?_
              refine AllReadyIn.cons rfl (fun K6 hK6 => ?_) ?_
              · refine stepIn_store_mid rfl 47 (.tmp 70) (.tmp 66) rfl g5 (kk * 11) #[.int .i64 x.2.1.op, .string x.2.1.val.1, .int .i64 x.2.1.val.2, .string x.2.1.wid.1, .int .i64 x.2.1.wid.2, .string x.2.1.hi.1, .int .i64 x.2.1.hi.2, .string x.2.1.lo.1, .int .i64 x.2.1.lo.2, .string x.2.1.name, .slice x.2.2.1 x.2.2.2.1 x.2.2.2.2] ?_ rfl THH.out.1.1 HI47.out (by simp [Value.oneCell']) V THH.out.2.1 ?_
                · go_simp
                refine hK6 _ _ ?_
                refine wpAnyIn_ready (rs := [7]) (by kernel_rfl) (by simp) ?_
                refine AllReadyIn.cons rfl (fun K7 hK7 => ?_) ?_
                · go_simp
                  refine hK7 _ _ ?_
                  refine wpAnyIn_done (by kernel_rfl) ?_ _
                  exact HQ.out _ _ HLEAF.out.1
                exact AllReadyIn.nil
              refine AllReadyIn.cons rfl (fun K6 hK6 => ?_) ?_
              · go_simp
                refine hK6 _ _ ?_
                refine wpAnyIn_ready (rs := [6]) (by kernel_rfl) (by simp) ?_
                refine AllReadyIn.cons rfl (fun K7 hK7 => ?_) ?_
                · refine stepIn_store_mid rfl 47 (.tmp 70) (.tmp 66) rfl g5 (kk * 11) #[.int .i64 x.2.1.op, .string x.2.1.val.1, .int .i64 x.2.1.val.2, .string x.2.1.wid.1, .int .i64 x.2.1.wid.2, .string x.2.1.hi.1, .int .i64 x.2.1.hi.2, .string x.2.1.lo.1, .int .i64 x.2.1.lo.2, .string x.2.1.name, .slice x.2.2.1 x.2.2.2.1 x.2.2.2.2] ?_ rfl THH.out.1.2 HI47.out (by simp [Value.oneCell']) U2 THH.out.2.2 ?_
                  · go_simp
                  refine hK7 _ _ ?_
                  refine wpAnyIn_done (by kernel_rfl) ?_ _
                  exact HQ.out _ _ HLEAF.out.2
                exact AllReadyIn.nil
              exact AllReadyIn.nil
            refine AllReadyIn.cons rfl (fun K5 hK5 => ?_) ?_
            · go_simp
              refine hK5 _ _ ?_
              refine wpAnyIn_ready (rs := [5]) (by kernel_rfl) (by simp) ?_
              refine AllReadyIn.cons rfl (fun K6 hK6 => ?_) ?_
              · go_simp
                refine hK6 _ _ ?_
                refine wpAnyIn_ready (rs := [6]) (by kernel_rfl) (by simp) ?_
                refine AllReadyIn.cons rfl (fun K7 hK7 => ?_) ?_
                · refine stepIn_store_mid rfl 47 (.tmp 70) (.tmp 66) rfl g5 (kk * 11) #[.int .i64 x.2.1.op, .string x.2.1.val.1, .int .i64 x.2.1.val.2, .string x.2.1.wid.1, .int .i64 x.2.1.wid.2, .string x.2.1.hi.1, .int .i64 x.2.1.hi.2, .string x.2.1.lo.1, .int .i64 x.2.1.lo.2, .string x.2.1.name, .slice x.2.2.1 x.2.2.2.1 x.2.2.2.2] ?_ rfl THH.out.1.2 HI47.out (by simp [Value.oneCell']) U2 THH.out.2.2 ?_
                  · go_simp
                  refine hK7 _ _ ?_
                  refine wpAnyIn_done (by kernel_rfl) ?_ _
                  exact HQ.out _ _ HLEAF.out.2
                exact AllReadyIn.nil
              exact AllReadyIn.nil
            exact AllReadyIn.nil
          exact AllReadyIn.nil
        exact AllReadyIn.nil
      exact AllReadyIn.nil
    refine AllReadyIn.cons rfl (fun K1 hK1 => ?_) ?_
    · go_simp
      refine hK1 _ _ ?_
      refine wpAnyIn_ready (rs := [0]) (by kernel_rfl) (by simp) ?_
      refine AllReadyIn.cons rfl (fun K2 hK2 => ?_) ?_
      · go_simp
        refine hK2 _ _ ?_
        refine wpAnyIn_ready (rs := [2]) (by kernel_rfl) (by simp) ?_
        refine AllReadyIn.cons rfl (fun K3 hK3 => ?_) ?_
        · go_simp
          refine hK3 _ _ ?_
          refine wpAnyIn_ready (rs := [4]) (by kernel_rfl) (by simp) ?_
          refine AllReadyIn.cons rfl (fun K4 hK4 => ?_) ?_
          · refine stepIn_append_lies rfl _ _ 45 rfl (w.heap.size + 2) 47 i0 _ 11 144 Try.underlying45 HI0.out.1 HI0.out.2.1 HI0.out.2.2.1 HI0.out.2.2.2 rfl (by decide) (.slice A kk c) kk (base ++ pre.map kcCells).flatten rfl ((World.ownsRow.drewN HO.out 1).alloc _) ⟨W.heap.size, 0, none⟩ 1 1 (#[.int .i64 0, .string ⟨#[]⟩, .int .i64 0, .string ⟨#[]⟩, .int .i64 0, .string ⟨#[]⟩, .int .i64 0, .string ⟨#[]⟩, .int .i64 0, .string ⟨#[]⟩, .slice none 0 0] : Array Value).toList rfl rfl HZ.out (by decide) (by decide) (by unfold maxLen; omega) (by omega) (by have := HSZ.out; simp; omega) _ rfl ?_
            intro g5 cap5 w5 hown hgrow hat hlt5
            have hl := HL.out _ _ _ hown hgrow hat
            obtain ⟨c4, f4, c4V, f4V, TH⟩ := HF.out _ _ _ hown hgrow hat
            obtain ⟨V, hV⟩ : ∃ V, w5.setCells g5 (kk * 11) (kcCells x) = V := ⟨_, rfl⟩
            obtain ⟨U2, hU2⟩ : ∃ U2, (w5.setCell ⟨w.heap.size + 4, 0, none⟩ (.slice (some ⟨g5, 0, none⟩) (kk + 1) cap5)).setCells g5 (kk * 11) (kcCells x) = U2 := ⟨_, rfl⟩
            rw [hV] at c4V f4V hl
            rw [hU2] at hl
            have HLEAF := Lib.hid hl
            have THH := Lib.hid (And.intro TH (And.intro hV hU2))
            clear hown hgrow hat hlt5 TH hV hU2 hl
            refine hK4 _ _ ?_
            refine wpAnyIn_ready (rs := [5, 7]) (by kernel_rfl) (by simp) ?_
            refine AllReadyIn.cons rfl (fun K5 hK5 => ?_) ?_
            · go_simp
              refine hK5 _ _ ?_
              refine wpAnyIn_ready (rs := [6, 7]) (by kernel_rfl) (by simp) ?_
              refine AllReadyIn.cons rfl (fun K6 hK6 => ?_) ?_
              · refine stepIn_store_mid rfl 47 (.tmp 70) (.tmp 66) rfl g5 (kk * 11) #[.int .i64 x.2.1.op, .string x.2.1.val.1, .int .i64 x.2.1.val.2, .string x.2.1.wid.1, .int .i64 x.2.1.wid.2, .string x.2.1.hi.1, .int .i64 x.2.1.hi.2, .string x.2.1.lo.1, .int .i64 x.2.1.lo.2, .string x.2.1.name, .slice x.2.2.1 x.2.2.2.1 x.2.2.2.2] ?_ rfl THH.out.1.1 HI47.out (by simp [Value.oneCell']) V THH.out.2.1 ?_
                · go_simp
                refine hK6 _ _ ?_
                refine wpAnyIn_ready (rs := [7]) (by kernel_rfl) (by simp) ?_
                refine AllReadyIn.cons rfl (fun K7 hK7 => ?_) ?_
                · go_simp
                  refine hK7 _ _ ?_
                  refine wpAnyIn_done (by kernel_rfl) ?_ _
                  exact HQ.out _ _ HLEAF.out.1
                exact AllReadyIn.nil
              refine AllReadyIn.cons rfl (fun K6 hK6 => ?_) ?_
              · go_simp
                refine hK6 _ _ ?_
                refine wpAnyIn_ready (rs := [6]) (by kernel_rfl) (by simp) ?_
                refine AllReadyIn.cons rfl (fun K7 hK7 => ?_) ?_
                · refine stepIn_store_mid rfl 47 (.tmp 70) (.tmp 66) rfl g5 (kk * 11) #[.int .i64 x.2.1.op, .string x.2.1.val.1, .int .i64 x.2.1.val.2, .string x.2.1.wid.1, .int .i64 x.2.1.wid.2, .string x.2.1.hi.1, .int .i64 x.2.1.hi.2, .string x.2.1.lo.1, .int .i64 x.2.1.lo.2, .string x.2.1.name, .slice x.2.2.1 x.2.2.2.1 x.2.2.2.2] ?_ rfl THH.out.1.2 HI47.out (by simp [Value.oneCell']) U2 THH.out.2.2 ?_
                  · go_simp
                  refine hK7 _ _ ?_
                  refine wpAnyIn_done (by kernel_rfl) ?_ _
                  exact HQ.out _ _ HLEAF.out.2
                exact AllReadyIn.nil
              exact AllReadyIn.nil
            refine AllReadyIn.cons rfl (fun K5 hK5 => ?_) ?_
            · go_simp
              refine hK5 _ _ ?_
              refine wpAnyIn_ready (rs := [5]) (by kernel_rfl) (by simp) ?_
              refine AllReadyIn.cons rfl (fun K6 hK6 => ?_) ?_
              · go_simp
                refine hK6 _ _ ?_
                refine wpAnyIn_ready (rs := [6]) (by kernel_rfl) (by simp) ?_
                refine AllReadyIn.cons rfl (fun K7 hK7 => ?_) ?_
                · refine stepIn_store_mid rfl 47 (.tmp 70) (.tmp 66) rfl g5 (kk * 11) #[.int .i64 x.2.1.op, .string x.2.1.val.1, .int .i64 x.2.1.val.2, .string x.2.1.wid.1, .int .i64 x.2.1.wid.2, .string x.2.1.hi.1, .int .i64 x.2.1.hi.2, .string x.2.1.lo.1, .int .i64 x.2.1.lo.2, .string x.2.1.name, .slice x.2.2.1 x.2.2.2.1 x.2.2.2.2] ?_ rfl THH.out.1.2 HI47.out (by simp [Value.oneCell']) U2 THH.out.2.2 ?_
                  · go_simp
                  refine hK7 _ _ ?_
                  refine wpAnyIn_done (by kernel_rfl) ?_ _
                  exact HQ.out _ _ HLEAF.out.2
                exact AllReadyIn.nil
              exact AllReadyIn.nil
            exact AllReadyIn.nil
          exact AllReadyIn.nil
        exact AllReadyIn.nil
      exact AllReadyIn.nil
    exact AllReadyIn.nil
  exact AllReadyIn.nil
end Go.Proofs.Ytjkaeabnjkhllaa
