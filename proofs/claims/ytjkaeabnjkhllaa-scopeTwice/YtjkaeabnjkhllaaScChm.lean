/-
  What Check keeps between two rounds.
-/
import Derived.Test.YtjkaeabnjkhllaaScNew
import Derived.Test.YtjkaeabnjkhllaaScItm
namespace Go.Proofs.Ytjkaeabnjkhllaa
open Go.RowKit

abbrev Ft := Nat × Nat × Int
def ftCells (f : Ft) : List Value := [.int .i64 (f.1 : Nat), .int .i64 0, .int .i64 (f.2.1 : Nat), .int .i64 f.2.2]
/-- what is told of an item, in whatever memory -/
def ROk (ms : List Mo) (i : Nat) (m : Mo) (k : Nat) (x : It) (r : Nat) : Prop := (twiceAt m k x = true → r = 50) ∧ (ItCl x → r = itemErr ms i m x (twiceAt m k x))
inductive IOut (ms : List Mo) (i : Nat) (m : Mo) : Nat → List Ft → Prop
  | nil : IOut ms i m 0 []
  | step (k r : Nat) (x : It) (out : List Ft) (h : IOut ms i m k out) (hx : m.items[k]? = some x) (hr : ROk ms i m k x r) : IOut ms i m (k + 1) (out ++ if r ≠ 0 then [(r, i, (k : Int))] else [])
inductive MOut (ms : List Mo) : Nat → List Ft → Prop
  | nil : MOut ms 0 []
  | step (i : Nat) (m : Mo) (out o2 : List Ft) (h : MOut ms i out) (hm : ms[i]? = some m) (h2 : IOut ms i m m.items.length o2) : MOut ms (i + 1) (out ++ ((if modErr ms i m ≠ 0 then [(modErr ms i m, i, -1)] else []) ++ o2))
theorem itemsOut_app (ms : List Mo) (i : Nat) (m : Mo) : ∀ (a b : List It) (k : Nat), itemsOut ms i m k (a ++ b) = itemsOut ms i m k a ++ itemsOut ms i m (k + a.length) b
  | [], b, k => by simp [itemsOut]
  | x :: r, b, k => by
    rw [List.cons_append, itemsOut, itemsOut, itemsOut_app ms i m r b (k + 1), List.length_cons, show k + 1 + r.length = k + (r.length + 1) by omega, List.append_assoc]
theorem iout_clean {ms : List Mo} {i : Nat} {m : Mo} {k : Nat} {out : List Ft} (h : IOut ms i m k out) (hc : ∀ x ∈ m.items, ItCl x) : out = itemsOut ms i m 0 (m.items.take k) := by
  induction h with
  | nil => rfl
  | step k r x out h hx hr ih =>
    have hl := (List.getElem?_eq_some_iff.1 hx).1
    rw [List.take_add_one, hx, itemsOut_app, ih]
    simp only [Option.toList_some, itemsOut, List.append_nil, List.length_take]
    rw [hr.2 (hc x (List.mem_of_getElem? hx)), Nat.zero_add, Nat.min_eq_left (by omega)]
theorem modsOut_app (ms : List Mo) : ∀ (a b : List Mo) (i : Nat), modsOut ms i (a ++ b) = modsOut ms i a ++ modsOut ms (i + a.length) b
  | [], b, i => by simp [modsOut]
  | x :: r, b, i => by
    rw [List.cons_append, modsOut, modsOut, modsOut_app ms r b (i + 1), List.length_cons, show i + 1 + r.length = i + (r.length + 1) by omega, List.append_assoc]
theorem mout_clean {ms : List Mo} {i : Nat} {out : List Ft} (h : MOut ms i out) (hc : ∀ m ∈ ms, ∀ x ∈ m.items, ItCl x) : out = modsOut ms 0 (ms.take i) := by
  induction h with
  | nil => rfl
  | step i m out o2 h hm h2 ih =>
    have hl := (List.getElem?_eq_some_iff.1 hm).1
    rw [List.take_add_one, hm, modsOut_app, ih, iout_clean h2 (hc m (List.mem_of_getElem? hm)), List.take_length]
    simp only [Option.toList_some, modsOut, List.append_nil, List.length_take, modOut]
    rw [Nat.zero_add, Nat.min_eq_left (by omega)]
theorem iout_len {ms : List Mo} {i : Nat} {m : Mo} {k : Nat} {out : List Ft} (h : IOut ms i m k out) : out.length ≤ k := by
  induction h with
  | nil => simp
  | step k r x out h hx hr ih =>
    rw [List.length_append]
    split <;> simp <;> omega
theorem mout_len {ms : List Mo} {i : Nat} {out : List Ft} (h : MOut ms i out) (hc : ∀ m ∈ ms, m.items.length ≤ 100) : out.length ≤ i * 101 := by
  induction h with
  | nil => simp
  | step i m out o2 h hm h2 ih =>
    have h3 := iout_len h2
    have h4 := hc m (List.mem_of_getElem? hm)
    rw [List.length_append, List.length_append, Nat.add_mul]
    split <;> simp <;> omega
theorem ahead_succ {m : Mo} {k : Nat} {x : It} (hx : m.items[k]? = some x) : aheadNames m (k + 1) = if named x.kind then aheadNames m k ++ [x.name] else aheadNames m k := by
  unfold aheadNames
  rw [List.take_add_one, hx]
  simp only [Option.toList_some, List.filter_append, List.map_append, List.append_assoc]
  cases hn : named x.kind <;> simp [List.filter, hn]

/-- designs that Check can go through -/
structure DsOk (ms : List Mo) : Prop where
  len : ms.length ≤ 100
  heads : ∀ m ∈ ms, m.params.length + m.ports.length ≤ 1000
  items : ∀ m ∈ ms, m.items.length ≤ 100
  its : ∀ m ∈ ms, ∀ x ∈ m.items, ItOk x
/-- what Check tells -/
def ChkRet (w : World) (ms : List Mo) (e : Ending) (w' : World) : Prop := ∃ A c fs, e = .returned (.slice A fs.length c) ∧ RowC w' 4 (.slice A fs.length c) (fs.map ftCells) ∧ ((ms.length = 0 ∧ fs = [(51, 0, -1)]) ∨ (0 < ms.length ∧ MOut ms ms.length fs)) ∧ Gr w w'
theorem chk_clean {ms : List Mo} {fs : List Ft} (h : (ms.length = 0 ∧ fs = [(51, 0, -1)]) ∨ (0 < ms.length ∧ MOut ms ms.length fs)) (hc : ∀ m ∈ ms, ∀ x ∈ m.items, ItCl x) : fs = checkOut ms := by
  unfold checkOut
  rcases h with ⟨h1, h2⟩ | ⟨h1, h2⟩
  · rw [if_pos h1, h2]
  · rw [if_neg (by omega), mout_clean h2 hc, List.take_length]

/-- faults so far: a row of one's own -/
structure FsI (W : World) (wr : World) (v : Value) (fs : List Ft) : Prop where
  gr : Gr W wr
  row : wr.ownsRow W.heap.size 40 4 v fs.length (fs.map ftCells).flatten
  nil : fs = [] → v = .slice none 0 0
theorem FsI.gr' {W wr V : World} {v : Value} {fs : List Ft} (h : FsI W wr v fs) (hg : Gr wr V) : FsI W V v fs := ⟨h.gr.trans hg, h.row.kept (row := none) hg (by cases hv : v.ownBlock with | none => exact .inl rfl | some k => exact .inr (by simp)), h.nil⟩
/-- a block of cells whose first is no number is none of the row's -/
theorem FsI.far {W wr : World} {v : Value} {fs : List Ft} (h : FsI W wr v fs) {j : Nat} (hj : some j = v.ownBlock) : W.heap.size ≤ j ∧ ∃ c n, wr.heap[j]? = some (.cells c 40 (0, 0)) ∧ c[0]? = some (.int .i64 n) := by
  rcases h.row.2 with ⟨rfl, _⟩ | ⟨g, cap, cur, rfl, hb, hh, hc, _, hs, ht⟩
  · simp [Value.ownBlock] at hj
  · simp [Value.ownBlock] at hj
    subst hj
    cases fs with
    | nil => have := h.nil rfl; simp at this
    | cons f r =>
      have h0 := congrArg (fun q => q[0]?) ht
      simp only [List.length_cons] at h0
      rw [List.getElem?_take, if_pos (by omega), Array.getElem?_toList] at h0
      exact ⟨hb, cur, _, hh, by rw [h0]; rfl⟩
theorem fs_app {W u w5 : World} {v v' : Value} {fs : List Ft} {f : Ft} {o : Obj} (h : FsI W u v fs) (hgrow : (u.alloc o).grownBy w5 v.ownBlock) (hown : w5.ownsRow W.heap.size 40 4 v' (fs.length + 1) ((fs.map ftCells).flatten ++ ftCells f)) : FsI W w5 v' (fs ++ [f]) ∧ ∀ (j : Nat) (ob : Obj), u.heap[j]? = some ob → (∀ c z, ob ≠ Obj.cells c 40 z) → w5.heap[j]? = some ob := by
  have hsz : (u.alloc o).heap.size = u.heap.size + 1 := by simp
  have keep : ∀ (j : Nat) (ob : Obj), u.heap[j]? = some ob → some j ≠ v.ownBlock → w5.heap[j]? = some ob := fun j ob hj hne => ((hgrow.block j (by have := heap_lt hj; omega) hne).trans (Below.heap_alloc _ _ _ (heap_lt hj))).trans hj
  refine ⟨⟨⟨hgrow.os.trans h.gr.os, hgrow.tape.trans h.gr.tape, hgrow.output.trans h.gr.output, by have := hgrow.size; have := h.gr.size; omega, fun j hj _ => ?_⟩, by simpa using hown, by simp⟩, fun j ob hj hn => keep j ob hj (fun e => by
    obtain ⟨_, c, n, q, _⟩ := h.far e
    rw [hj] at q
    exact hn c (0, 0) (Option.some.inj q))⟩
  have hju : j < u.heap.size := Nat.lt_of_lt_of_le hj h.gr.size
  refine ((hgrow.block j (by omega) (fun e => ?_)).trans (Below.heap_alloc _ _ _ hju)).trans (h.gr.block j hj (by simp))
  have := (h.far e).1
  omega
theorem tk_app {W u w5 : World} {v v' : Value} {fs : List Ft} {f : Ft} {o : Obj} {g b : Nat} {ns : List ByteArray} (h : FsI W u v fs) (ht : TkAt u g b ns) (hgrow : (u.alloc o).grownBy w5 v.ownBlock) (hown : w5.ownsRow W.heap.size 40 4 v' (fs.length + 1) ((fs.map ftCells).flatten ++ ftCells f)) : TkAt w5 g b ns := by
  obtain ⟨_, keep⟩ := fs_app h hgrow hown
  obtain ⟨h1, l, ⟨es, cl, m1, m2⟩, h2⟩ := ht
  refine ⟨?_, l, ⟨es, cl, keep _ _ m1 (by simp), m2⟩, h2⟩
  have hg : g < u.heap.size := World.block_lt_of_cell? _ _ h1
  rw [World.cell?_of_block (a := ⟨g, 0, none⟩) ((hgrow.block g (by simp; omega) (fun e => ?_)).trans (Below.heap_alloc _ _ _ hg))]
  · exact h1
  · obtain ⟨_, c, n, q, q0⟩ := h.far e
    rw [cell_at q, q0] at h1
    cases h1
theorem FsI.fr {W u V : World} {v : Value} {fs : List Ft} {b : Nat} {es : Array MapEntry} {cl : Nat} (h : FsI W u v fs) (hf : Fr b u V) (hb : W.heap.size ≤ b) (hm : u.heap[b]? = some (.map es cl)) : FsI W V v fs := by
  refine ⟨Fr.gr h.gr hf hb, ⟨h.row.1, ?_⟩, h.nil⟩
  rcases h.row.2 with hn | ⟨g, cap, cur, e, hb', hh, rest⟩
  · exact .inl hn
  · refine .inr ⟨g, cap, cur, e, hb', hf.keep hh ?_, rest⟩
    rintro rfl
    rw [hm] at hh
    cases hh
theorem info40 : (Try.prog.info? 40).map (fun i => (i.zero, i.size, i.bytes)) = some (some (.agg #[.int .i64 0, .int .i64 0, .int .i64 0, .int .i64 0]), 4, 32) := by kernel_rfl
theorem wpList_store_new {P : Program} {ops : Array Oper} {rest : List Oper} {op : Oper} {a : Act} {w0 : World} {z : Array Value} {Q : Exit → Act → World → Prop} (hgd : op.guard = none) (ty : TypeId) (x y : Operand) (ho : op.op = .store ty x y)
    (cs : List Value) (hx : a.eval x = .pointer (some ⟨w0.heap.size, 0, none⟩)) (hy : a.eval y = .agg cs.toArray) (hz : z.size = cs.length) (hi : (P.info? ty).map (·.size) = some cs.toArray.size) (h1 : cs.toArray.all (·.oneCell') = true)
    (h : ∀ V, Gr w0 V → V.heap[w0.heap.size]? = some (.cells cs.toArray ty (0, 0)) → wpList P ops Q rest (a.put op.dst undef) V) : wpList P ops Q (op :: rest) a (w0.alloc (.cells z ty)) :=
  wpList_store_mid hgd ty x y ho w0.heap.size 0 cs.toArray hx hy (by have h := there_all (new_at w0 (.cells z ty)); rw [hz] at h; simpa using h) hi h1
    (h _ (gr_sets (Nat.le_refl _) _ _ _ (Gr.alloc _ _)) (put_all (new_at w0 (.cells z ty)) hz.symm))
end Go.Proofs.Ytjkaeabnjkhllaa
