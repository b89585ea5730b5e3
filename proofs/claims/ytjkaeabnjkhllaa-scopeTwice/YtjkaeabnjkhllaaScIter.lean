/-
  places: its closure as a sequence of names; the contract by which it is ranged over.
-/
import Derived.Test.YtjkaeabnjkhllaaScSmall
import Derived.RangeFuncNested
import Derived.RangeFuncBound
import Derived.RangeFuncCalls
import Derived.RangeFuncLeaves
import Derived.RangeFuncBox
import Derived.Shelf.Abstract
import Derived.Shelf.RegionOpen
import Derived.OwnWalkIn
import Derived.TacticsInMore
import Derived.LoopNIn
import Derived.LoopIn
namespace Go.Proofs.Ytjkaeabnjkhllaa
open Go.RowKit Go.Shelf
attribute [local go_sem] Oper.semAt_some

abbrev Pl := ByteArray × Nat × Nat
def plVals (x : Pl) : Array Value := #[.string x.1, .agg #[.int .i64 (x.2.1 : Nat), .int .i64 (x.2.2 : Nat)]]

/-- cells below n stay -/
def Kn (n : Nat) (A B : World) : Prop := A.heap.size ≤ B.heap.size ∧ (∀ (g o : Nat) (v : Value), g < n → A.cell? ⟨g, o, none⟩ = some v → B.cell? ⟨g, o, none⟩ = some v) ∧ ∀ (g : Nat) (c : Array Value) (t : TypeId) (z : Nat × Nat), g < n → A.heap[g]? = some (.cells c t z) → ∃ c', B.heap[g]? = some (.cells c' t z)
theorem Kn.refl (n : Nat) (A : World) : Kn n A A := ⟨Nat.le_refl _, fun _ _ _ _ h => h, fun _ c _ _ _ h => ⟨c, h⟩⟩
theorem Kn.trans {n : Nat} {A B C : World} (h : Kn n A B) (k : Kn n B C) : Kn n A C := ⟨Nat.le_trans h.1 k.1, fun g o v hg hv => k.2.1 g o v hg (h.2.1 g o v hg hv), fun g c t z hg hc => by
  obtain ⟨c1, h1⟩ := h.2.2 g c t z hg hc
  exact k.2.2 g c1 t z hg h1⟩
theorem Kn.of_gr {n : Nat} {A B : World} (h : Gr A B) : Kn n A B := by
  refine ⟨h.size, fun g o v _ hv => ?_, fun g c t z _ hc => ⟨c, h.keep hc⟩⟩
  have hl : g < A.heap.size := World.block_lt_of_cell? _ _ hv
  exact gr_cell h hl hv
theorem Kn.putObj {n : Nat} (W : World) (l : Nat) (o o' : Obj) (hl : W.heap[l]? = some o) (ho : o.isCells = false) : Kn n W (W.putObj l o') := by
  refine ⟨by simp, fun g off v _ hv => ?_, fun g c t z _ hc => ⟨c, ?_⟩⟩
  rotate_left
  · have hne : g ≠ l := by
      rintro rfl
      rw [hl] at hc
      obtain rfl := Option.some.inj hc
      cases ho
    exact (World.putObj_heap_other hne).trans hc
  have hne : g ≠ l := by
    rintro rfl
    obtain ⟨o2, h1, h2⟩ := cells_of_cell hv
    rw [hl] at h1
    obtain rfl := Option.some.inj h1
    rw [ho] at h2
    cases h2
  rw [World.cell?_of_block (a := ⟨g, off, none⟩) (World.putObj_heap_other hne)]
  exact hv
theorem RowC.kn {w w' : World} {size : Nat} {v : Value} {css : List (List Value)} (h : RowC w size v css) (hk : Kn w.heap.size w w') : RowC w' size v css := by
  obtain ⟨h0, h1, A, cap, h2, h3, h4, h5⟩ := h
  refine ⟨h0, h1, A, cap, h2, h3, fun j c hc => ?_, fun g o n k e hn => ?_⟩
  · obtain ⟨g, o, e, hl, hr⟩ := h4 j c hc
    exact ⟨g, o, e, Nat.lt_of_lt_of_le hl hk.1, fun i u hu => hk.2.1 _ _ _ hl (hr i u hu)⟩
  · obtain ⟨cs, t, z, q1, q2⟩ := h5 g o n k e hn
    obtain ⟨c', q3⟩ := hk.2.2 g cs t z (heap_lt q1) q1
    exact ⟨c', t, z, q3, q2⟩
theorem ExAt.kn {w w' : World} (hg : Kn w.heap.size w w') {t : Ex} {cs : List Value} (h : ExAt w t cs) : ExAt w' t cs := by
  induction h with
  | mk h ks v css hr hl _ hc ih => exact .mk h ks v css (hr.kn hg) hl ih (fun e g o n c ev hn => by
    subst ev
    obtain ⟨cs, t, h1⟩ := hc e g o n c rfl hn
    obtain ⟨c', h2⟩ := hg.2.2 g cs t (0, 0) (heap_lt h1) h1
    exact ⟨c', t, h2⟩)
theorem ItAt.kn {w w' : World} (hg : Kn w.heap.size w w') {i : It} {cs : List Value} (h : ItAt w i cs) : ItAt w' i cs := by
  obtain ⟨av, bv, ce, ca, ci, e, h1, ⟨css, b1, b2, b3⟩, h3, h4, h5⟩ := h
  exact ⟨av, bv, ce, ca, ci, e, h1.kn hg, ⟨css, b1.kn hg, b2, fun j b hb => by obtain ⟨ce, e1, e2⟩ := b3 j b hb; exact ⟨ce, e1, e2.kn hg⟩⟩, h3.kn hg, h4.kn hg, h5.kn hg⟩

theorem parPl_get : ∀ (l : List ByteArray) (i k : Nat), (parPl l i)[k]? = l[k]?.map fun n => (n, 1, i + k)
  | [], i, k => by simp [parPl]
  | n :: r, i, 0 => by simp [parPl]
  | n :: r, i, k + 1 => by
    rw [parPl, List.getElem?_cons_succ, List.getElem?_cons_succ, parPl_get r (i + 1) k]
    simp only [show i + 1 + k = i + (k + 1) by omega]
theorem porPl_get : ∀ (l : List (Bool × ByteArray × Dm)) (i k : Nat), (porPl l i)[k]? = l[k]?.map fun p => (p.2.1, (if p.1 then 2 else 3), i + k)
  | [], i, k => by simp [porPl]
  | n :: r, i, 0 => by simp [porPl]
  | n :: r, i, k + 1 => by
    rw [porPl, List.getElem?_cons_succ, List.getElem?_cons_succ, porPl_get r (i + 1) k]
    simp only [show i + 1 + k = i + (k + 1) by omega]
theorem parPl_len : ∀ (l : List ByteArray) (i : Nat), (parPl l i).length = l.length
  | [], i => rfl
  | n :: r, i => by rw [parPl, List.length_cons, parPl_len r (i + 1), List.length_cons]
theorem porPl_len : ∀ (l : List (Bool × ByteArray × Dm)) (i : Nat), (porPl l i).length = l.length
  | [], i => rfl
  | n :: r, i => by rw [porPl, List.length_cons, porPl_len r (i + 1), List.length_cons]
theorem itmPl_app : ∀ (a b : List It) (i : Nat), itmPl (a ++ b) i = itmPl a i ++ itmPl b (i + a.length)
  | [], b, i => by simp [itmPl]
  | x :: r, b, i => by
    rw [List.cons_append, itmPl, itmPl, itmPl_app r b (i + 1), List.length_cons, show i + 1 + r.length = i + (r.length + 1) by omega]
    split <;> simp
theorem parPl_take {l : List ByteArray} {k : Nat} {s : ByteArray} (h : l[k]? = some s) : (parPl l 0).take (k + 1) = (parPl l 0).take k ++ [(s, 1, k)] := by
  rw [List.take_add_one, parPl_get, h]
  simp
theorem porPl_take {l : List (Bool × ByteArray × Dm)} {k : Nat} {p : Bool × ByteArray × Dm} (h : l[k]? = some p) : (porPl l 0).take (k + 1) = (porPl l 0).take k ++ [(p.2.1, (if p.1 then 2 else 3), k)] := by
  rw [List.take_add_one, porPl_get, h]
  simp
theorem itmPl_take {l : List It} {k : Nat} {x : It} (h : l[k]? = some x) : itmPl (l.take (k + 1)) 0 = itmPl (l.take k) 0 ++ (if itemKind x.kind = 0 then [] else [(x.name, itemKind x.kind, k)]) := by
  have hl := (List.getElem?_eq_some_iff.1 h).1
  rw [List.take_add_one, h, itmPl_app]
  simp only [Option.toList_some, itmPl, List.length_take, Nat.zero_add]
  rw [Nat.min_eq_left (by omega)]
theorem itmPl_pre (l : List It) (k : Nat) : itmPl (l.take k) 0 <+: itmPl l 0 := by
  conv => rhs; rw [← List.take_append_drop k l]
  rw [itmPl_app]
  exact List.prefix_append _ _
theorem setCells_block (g : Nat) (t : TypeId) (z : Nat × Nat) : ∀ (vs : List Value) (o : Nat) (w : World) (cur : Array Value), w.heap[g]? = some (.cells cur t z) → o + vs.length ≤ cur.size →
    ∃ cur' : Array Value, (w.setCells g o vs).heap[g]? = some (.cells cur' t z) ∧ cur'.size = cur.size ∧ cur'.toList = cur.toList.take o ++ vs ++ cur.toList.drop (o + vs.length)
  | [], o, w, cur, h, _ => ⟨cur, h, rfl, by simp⟩
  | v :: r, o, w, cur, h, hl => by
    have h1 : (w.setCell ⟨g, o, none⟩ v).heap[g]? = some (.cells (cur.setIfInBounds o v) t z) := by
      simp only [World.setCell, Array.getElem?_modify, h]
      rfl
    simp only [List.length_cons] at hl
    obtain ⟨cur', h2, h3, h4⟩ := setCells_block g t z r (o + 1) _ _ h1 (by simp; omega)
    refine ⟨cur', h2, by rw [h3]; simp, ?_⟩
    rw [h4]
    have hlen : o < cur.toList.length := by simp; omega
    simp only [Array.toList_setIfInBounds, List.length_cons]
    rw [List.take_set, List.drop_set_of_lt (by omega)]
    have e1 : (cur.toList.take (o + 1)).set o v = cur.toList.take o ++ [v] := by
      rw [List.set_eq_take_append_cons_drop, if_pos (by rw [List.length_take]; omega), List.take_take, List.drop_eq_nil_of_le (by rw [List.length_take]; omega)]
      rw [Nat.min_eq_left (by omega)]
    rw [e1, show o + 1 + r.length = o + (r.length + 1) from by omega]
    simp
theorem frozen_at {w : World} {b o : Nat} {c : Array Value} {t : TypeId} (h : w.heap[b]? = some (.cells c t (0, 0))) : w.frozen? ⟨b, o, none⟩ = false := by
  simp [World.frozen?, h]
theorem put_all {w : World} {g : Nat} {t : TypeId} {z : Array Value} {cs : List Value} (h : w.heap[g]? = some (.cells z t (0, 0))) (hl : cs.length = z.size) : (w.setCells g 0 cs).heap[g]? = some (.cells cs.toArray t (0, 0)) := by
  obtain ⟨cur', k1, k2, k3⟩ := setCells_block g t (0, 0) cs 0 w _ h (by omega)
  rw [k1]
  have : cur' = cs.toArray := Array.toList_inj.1 (by
    rw [k3, List.take_zero, List.nil_append, List.drop_eq_nil_of_le (by simp; omega), List.append_nil])
  rw [this]
theorem there_all {w : World} {g : Nat} {t : TypeId} {z : Array Value} (h : w.heap[g]? = some (.cells z t (0, 0))) : w.there g 0 z.size := fun j hj => by
  refine ⟨?_, frozen_at h⟩
  rw [cell_at h, Nat.zero_add]
  simp [hj]
theorem set_block {w : World} {b o g : Nat} {v : Value} (h : b ≠ g) : (w.setCell ⟨b, o, none⟩ v).heap[g]? = w.heap[g]? := by simp [World.setCell, Array.getElem?_modify, h]
theorem gr_set {w0 w : World} {b o : Nat} {x : Value} (h : Gr w0 w) (hb : w0.heap.size ≤ b) : Gr w0 (w.setCell ⟨b, o, none⟩ x) :=
  ⟨h.os, h.tape, h.output, by have := h.size; simpa [World.setCell] using this, fun i hi hn => by rw [← h.block i hi hn]; exact set_block (by omega)⟩
theorem gr_sets {w0 : World} {g : Nat} (hb : w0.heap.size ≤ g) : ∀ (vs : List Value) (o : Nat) (w : World), Gr w0 w → Gr w0 (w.setCells g o vs)
  | [], _, _, h => h
  | _ :: r, o, _, h => gr_sets hb r (o + 1) _ (gr_set h hb)
theorem range_of {w : World} {g : Nat} {t : TypeId} {cs : List Value} {z : Nat × Nat} (h : w.heap[g]? = some (.cells cs.toArray t z)) : w.rangeAt g 0 cs := fun j v hj => by
  rw [cell_at h, Nat.zero_add]
  simpa using hj
theorem ex_one {w : World} {t : Ex} {cs : List Value} (h : ExAt w t cs) : ∀ u ∈ cs, u.oneCell' = true := by
  obtain ⟨v, css, rfl, hr, _⟩ := h.open
  obtain ⟨A, cap, rfl⟩ := hr.form
  intro u hu
  simp only [hdCells, List.mem_cons, List.not_mem_nil, or_false] at hu
  rcases hu with rfl | rfl | rfl | rfl | rfl | rfl | rfl | rfl | rfl | rfl | rfl <;> rfl
theorem it_one {w : World} {i : It} {cs : List Value} (h : ItAt w i cs) : cs.toArray.all (·.oneCell') = true := by
  apply all_oneCell_toArray
  obtain ⟨av, bv, ce, ca, ci, rfl, h1, ⟨css, h2, _⟩, h5, h6, h7⟩ := h
  obtain ⟨A, cap, rfl⟩ := RowC.form h1
  obtain ⟨B, cap', rfl⟩ := h2.form
  intro u hu
  simp only [itCells, List.mem_append, List.mem_cons, List.not_mem_nil, or_false] at hu
  rcases hu with (rfl | rfl | rfl | rfl | rfl | rfl | rfl | rfl | rfl) | hu | hu | hu
  · rfl
  · rfl
  · rfl
  · rfl
  · rfl
  · rfl
  · rfl
  · rfl
  · rfl
  · exact ex_one h5 u hu
  · exact ex_one h6 u hu
  · exact ex_one h7 u hu
theorem it_kind {w : World} {i : It} {cs : List Value} (h : ItAt w i cs) : cs[0]? = some (.int .i64 i.kind) := by
  obtain ⟨av, bv, ce, ca, ci, rfl, _⟩ := h
  rfl
theorem it_name {w : World} {i : It} {cs : List Value} (h : ItAt w i cs) : cs[1]? = some (.string i.name) := by
  obtain ⟨av, bv, ce, ca, ci, rfl, _⟩ := h
  rfl
end Go.Proofs.Ytjkaeabnjkhllaa
