/-
  ROWS OF NUMBERS: built, compared; places, WALKED.
-/
import Derived.Test.YtnkifhgkhgialaaNMem
import Derived.Test.YtnkifhgkhgialaaNSma
namespace Go.Proofs.Ytnkifhgkhgialaa
open Go.RowKit
open NetM

def icells (xs : List Int) : List Value := xs.map (Value.int .i64)
theorem icells_snoc (xs : List Int) (x : Int) : icells (xs ++ [x]) = icells xs ++ [.int .i64 x] := by simp [icells]
theorem info3 : (Try.prog.info? 3).map (fun i => (i.zero, i.size, i.bytes)) = some (some (.int .i64 0), 1, 8) := by kernel_rfl
theorem info_parts {t : TypeId} {z : Value} {n b : Nat} (h : (Try.prog.info? t).map (fun i => (i.zero, i.size, i.bytes)) = some (some z, n, b)) : ∃ i, Try.prog.info? t = some i ∧ i.zero = some z ∧ i.size = n ∧ i.bytes = b := by
  obtain ⟨i, hi, he⟩ := Option.map_eq_some_iff.1 h
  simp only [Prod.mk.injEq] at he
  exact ⟨i, hi, he.1, he.2.1, he.2.2⟩
theorem cellAt {w : World} {b : Nat} {cs : Array Value} {T : TypeId} {fr : Nat × Nat} (hb : w.heap[b]? = some (.cells cs T fr)) (j : Nat) : w.cell? ⟨b, j, none⟩ = cs[j]? := by
  simp [World.cell?, hb]
/-- a slice of numbers -/
def IntR (w : World) (v : Value) (l : List Int) : Prop := ∃ A c, v = .slice A l.length c ∧ l.length ≤ c ∧ Ints w w.heap.size A l
theorem IntR.gr {w w' : World} {v : Value} {l : List Int} (h : IntR w v l) (hb : Gr w w') : IntR w' v l := by
  obtain ⟨A, c, e, hc, hi⟩ := h
  exact ⟨A, c, e, hc, hi.gr hb⟩
theorem ints_of_own {w : World} {base n : Nat} {v : Value} {xs : List Int} (h : w.ownsRow base 3 1 v n (icells xs)) (hn : xs.length = n) : IntR w v xs := by
  rcases h.2 with ⟨rfl, h0⟩ | ⟨g, cap, cur, rfl, hb, hh, hn', hc, hsz, ht⟩
  · have e : xs = [] := List.eq_nil_of_length_eq_zero (hn.trans h0)
    subst e
    exact ⟨none, 0, rfl, Nat.le_refl _, fun i t hi => by simp at hi⟩
  · refine ⟨some ⟨g, 0, none⟩, cap, by rw [hn], by omega, ?_⟩
    intro i t hi
    have hil : i < n := by have := (List.getElem?_eq_some_iff.1 hi).1; omega
    refine ⟨g, 0, rfl, hlt hh, ?_⟩
    rw [cellAt hh]
    have : (icells xs)[i]? = some (.int .i64 t) := by simp [icells, hi]
    rw [← ht, List.getElem?_take_of_lt (by omega)] at this
    simpa using this
theorem int_new (w : World) (x : Value) (t : TypeId) : ∀ j u, [x][j]? = some u → (w.alloc (.cells #[x] t)).cell? ((⟨w.heap.size, 0, none⟩ : Addr).add j) = some u := by
  intro j u hj
  match j, hj with
  | 0, hj => simp at hj; subst hj; simp [Addr.add]
  | j + 1, hj => simp at hj
theorem app_row {w wr w3 : World} {e : TypeId} {v : Value} {n : Nat} {xs : List Value} {o : Obj} (hown : wr.ownsRow w.heap.size e 1 v n xs) (hbw : Below w.heap.size w wr)
    (hg : (wr.alloc o).grownBy w3 v.ownBlock) : Below w.heap.size w w3 := by
  have hbsz := hbw.size
  exact (hbw.alloc hbsz _).grown hg (by simp; omega) (fun q hq => (hown.lt q hq).1)

/-! places -/
theorem placesF_append (op : Int) : ∀ (a b : List Nd) (i : Nat), placesF op (a ++ b) i = placesF op a i ++ placesF op b (i + a.length)
  | [], b, i => by simp [placesF]
  | x :: r, b, i => by
    simp only [List.cons_append, placesF, List.length_cons]
    rw [placesF_append op r b (i + 1), show i + 1 + r.length = i + (r.length + 1) by omega]
    split <;> simp
theorem places_step {l : List Nd} {op : Int} {j : Nat} {x : Nd} (h : l[j]? = some x) : places (l.take (j + 1)) op = places (l.take j) op ++ (if x.op = op then [(j : Int)] else []) := by
  unfold places
  rw [List.take_add_one, h, placesF_append]
  have hj : j < l.length := (List.getElem?_eq_some_iff.1 h).1
  have hm : (l.take j).length = j := by rw [List.length_take]; omega
  simp [placesF, hm]
theorem placesF_len (op : Int) : ∀ (a : List Nd) (i : Nat), (placesF op a i).length ≤ a.length
  | [], _ => Nat.le_refl _
  | x :: r, i => by
    have := placesF_len op r (i + 1)
    simp only [placesF]
    split <;> simp <;> omega
theorem places_len (l : List Nd) (op : Int) : (places l op).length ≤ l.length := placesF_len op l 0
theorem places_end {l : List Nd} {op : Int} {j : Nat} (h : l.length ≤ j) : places (l.take j) op = places l op := by rw [List.take_of_length_le h]

def RowRet (w : World) (xs : List Int) (e : Ending) (w' : World) : Prop := ∃ v, e = .returned v ∧ IntR w' v xs ∧ Gr w w'
set_option maxRecDepth 100000 in
set_option maxHeartbeats 1000000 in
theorem places_any (A : Option Addr) (c : Nat) (l : List Nd) (op : Int) (w : World) (hl : l.length ≤ 4000) (h : Hid (Nds w w.heap.size A l)) :
    Calls Try.prog 46 #[.slice A l.length c, .int .i64 op] w (RowRet w (places l op)) := by
  obtain ⟨i0, hi, hz0, hz1, hz2⟩ := info_parts info3
  have HI := Lib.hid (And.intro hi (And.intro hz0 (And.intro hz1 hz2)))
  clear hi hz0 hz1 hz2
  go_enter Try.func46, Try.ntmps46
  go_wp2
  go_loopg [5, 10] l.length (fun g v i wr => ∃ j : Nat, j + g = l.length ∧ i = .int .i64 j ∧ Hid (wr.ownsRow w.heap.size 3 1 v (places (l.take j) op).length (icells (places (l.take j) op))) ∧ Hid (Gr w wr))
  case atStart => exact ⟨0, by omega, rfl, Lib.hid (World.ownsRow_nil _ _ _ _), Lib.hid (Gr.refl _)⟩
  case round =>
    obtain ⟨j, hjg, rfl, HO, HW⟩ := hrel
    have HJ := Lib.hid hjg
    have hjl : j ≤ l.length := by omega
    clear hjg
    by_cases hlt : j < l.length
    · have hs : l[j]? = some l[j] := List.getElem?_eq_getElem hlt
      generalize l[j] = x at hs
      have HS := Lib.hid (places_step (op := op) hs)
      obtain ⟨b, off, rfl, hbl, d0, d1, d2, d3, d4, d5, d6⟩ := (h.out.gr HW.out) j x hs
      clear hs
      have hi1 : (j : Int) < (l.length : Int) := by omega
      have hi0 : (0 : Int) ≤ (j : Int) := by omega
      have hws := HW.out.size
      have hpl := places_len (l.take j) op
      have htl : (l.take j).length ≤ j := by rw [List.length_take]; omega
      by_cases hop : x.op = op
      · have ht : (x.op == op) = true := by simp [hop]
        rw [if_pos hop] at HS
        clear hop
        go_wp2_with (first
          | (at_builtin; refine wpList_append_own _ rfl _ _ 32 rfl w.heap.size 3 i0 (.int .i64 0) 1 8 Try.underlying32 HI.out.1 HI.out.2.1 HI.out.2.2.1 HI.out.2.2.2 rfl (by decide) _ _ _ rfl ((HO.out.alloc _).alloc _) ⟨wr.heap.size + 1, 0, none⟩ 1 1 [.int .i64 (j : Int)] rfl rfl (fun j' u hj => by have := int_new (wr.alloc (.cells #[.int .i64 x.op, .int .i64 x.w, .int .i64 x.a, .int .i64 x.b, .int .i64 x.c, .int .i64 x.n, .int .i64 x.lo] 41)) (.int .i64 (j : Int)) 3 j' u hj; simpa using this) (fun x hx => by simp at hx; subst hx; rfl) (by unfold maxLen; omega) (by omega) (by simp; omega) ?_; intro v' w3 hown' hgrow3 hnil3; have HO3 := Lib.hid hown'; have HB3 := Lib.hid (app_row (HO.out.alloc (.cells #[.int .i64 x.op, .int .i64 x.w, .int .i64 x.a, .int .i64 x.b, .int .i64 x.c, .int .i64 x.n, .int .i64 x.lo] 41)) (HW.out.alloc hws _) hgrow3); clear hown' hgrow3 hnil3))
        go_roundg (gk - 1)
        case measure => have := HJ.out; omega
        case rel => exact ⟨j + 1, by have := HJ.out; omega, by go_num, Lib.hid (by rw [HS.out, icells_snoc, List.length_append]; exact HO3.out), HB3⟩
      · have ht : (x.op == op) = false := by simp [hop]
        rw [if_neg hop, List.append_nil] at HS
        clear hop
        go_wp2_with fail
        go_roundg (gk - 1)
        case measure => have := HJ.out; omega
        case rel => exact ⟨j + 1, by have := HJ.out; omega, by go_num, Lib.hid (by rw [HS.out]; exact HO.out.alloc _), Lib.hid (HW.out.alloc hws _)⟩
    · have HE := Lib.hid (places_end (l := l) (op := op) (j := j) (by omega))
      go_wp2_with fail
      go_ret
      exact ⟨_, rfl, by rw [← HE.out]; exact ints_of_own HO.out rfl, HW.out⟩
end Go.Proofs.Ytnkifhgkhgialaa
