/-
  ROWS OF NUMBERS: built, compared; places, WALKED.
-/
import Derived.Test.YtmnblcnhbafcpaaJ09
import Derived.Laws.EntriesVeiled
import Derived.Test.YtmnblcnhbafcpaaJ05
import Derived.Test.YtmnblcnhbafcpaaJ06
/-
  rightNodes, WALKED.
-/
namespace Go.Proofs.Ytmnblcnhbafcpaa
open Go.RowKit
open NetM

theorem rule_cases {op : Int} {k f : Nat} {n lo : Bool} (h : ruleOf op = some (k, n, lo, f)) : k ≤ 3 ∧ (f = 56 ∨ f = 57 ∨ f = 58 ∨ f = 59 ∨ f = 60 ∨ f = 61 ∨ f = 62) ∧ (f = 59 → k = 3) ∧ (f = 60 → k = 2) ∧ (f = 61 → k = 1) := by
  unfold ruleOf at h
  repeat' split at h
  all_goals
    simp only [Option.some.injEq, Prod.mk.injEq, reduceCtorEq] at h
  all_goals
    obtain ⟨rfl, rfl, rfl, rfl⟩ := h
    refine ⟨by decide, by decide, by decide, by decide, by decide⟩
/-- widths of what stands ahead -/
def WOk (l : List Nd) : Prop := ∀ x ∈ l, 1 ≤ x.w ∧ x.w ≤ 16
theorem widA_ok {l : List Nd} (h : WOk l) (i : Int) : 0 ≤ widA l i ∧ widA l i ≤ 16 := by
  unfold widA
  split
  · exact ⟨by omega, by omega⟩
  · cases e : l[i.toNat]? with
    | none => exact ⟨by simp, by simp⟩
    | some x =>
      have := h x (List.mem_of_getElem? e)
      simp only
      omega
theorem wok_of {l : List Nd} (h : NdsOk l) : WOk l := fun x hx => by
  obtain ⟨i, hi⟩ := List.mem_iff_getElem?.1 hx
  obtain ⟨k, n, lo, f, _, h1, h2, _⟩ := h i x hi
  exact ⟨h1, h2⟩
/-! the loop -/
theorem take_at {α : Type} {l : List α} {j i : Nat} (hi : i < j) : (l.take j)[i]? = l[i]? := List.getElem?_take_of_lt hi
theorem ndsOk_take {l : List Nd} {j : Nat} (h : ∀ i x, i < j → l[i]? = some x → NdOk (l.take i) x) : NdsOk (l.take j) := by
  intro i x hx
  have hi : i < j := by
    rw [List.getElem?_take] at hx
    split at hx
    · assumption
    · simp at hx
  rw [take_at hi] at hx
  rw [List.take_take, Nat.min_eq_left (Nat.le_of_lt hi)]
  exact h i x hi hx
abbrev xC (x : Nd) : Array Value := #[.int .i64 x.op, .int .i64 x.w, .int .i64 x.a, .int .i64 x.b, .int .i64 x.c, .int .i64 x.n, .int .i64 x.lo]
abbrev XAt (u : World) (g : Nat) (x : Nd) : Prop := u.cell? ⟨g, 0, none⟩ = some (.int .i64 x.op) ∧ u.cell? ⟨g, 1, none⟩ = some (.int .i64 x.w) ∧ u.cell? ⟨g, 2, none⟩ = some (.int .i64 x.a) ∧ u.cell? ⟨g, 3, none⟩ = some (.int .i64 x.b) ∧ u.cell? ⟨g, 4, none⟩ = some (.int .i64 x.c) ∧ u.cell? ⟨g, 5, none⟩ = some (.int .i64 x.n) ∧ u.cell? ⟨g, 6, none⟩ = some (.int .i64 x.lo)
theorem x_new (w : World) (x : Nd) : XAt (w.alloc (.cells (xC x) 53)) w.heap.size x := by
  refine ⟨?_, ?_, ?_, ?_, ?_, ?_, ?_⟩
  all_goals exact new_cells _ _ _ _ _ rfl
theorem x_gr {w u : World} {g : Nat} {x : Nd} (h : XAt w g x) (hg : g < w.heap.size) (hb : Gr w u) : XAt u g x := by
  obtain ⟨h0, h1, h2, h3, h4, h5, h6⟩ := h
  refine ⟨?_, ?_, ?_, ?_, ?_, ?_, ?_⟩
  all_goals
    rw [hb.cell (by simpa using hg)]
    assumption
abbrev RAt (u : World) (g : Nat) (k : Nat) (bn bl : Bool) (f : Nat) : Prop := u.cell? ⟨g, 0, none⟩ = some (.int .i64 (k : Nat)) ∧ u.cell? ⟨g, 1, none⟩ = some (.bool bn) ∧ u.cell? ⟨g, 2, none⟩ = some (.bool bl) ∧ u.cell? ⟨g, 3, none⟩ = some (.func (.func f) #[] #[])
theorem r_gr {w u : World} {g : Nat} {k : Nat} {bn bl : Bool} {f : Nat} (h : RAt w g k bn bl f) (hg : g < w.heap.size) (hb : Gr w u) : RAt u g k bn bl f := by
  obtain ⟨h0, h1, h2, h3⟩ := h
  refine ⟨?_, ?_, ?_, ?_⟩
  all_goals
    rw [hb.cell (by simpa using hg)]
    assumption
theorem heap_gr {w u : World} {g : Nat} {o : Obj} (h : w.heap[g]? = some o) (hb : Gr w u) : u.heap[g]? = some o := (hb.block _ (hlt h)).trans h

end Go.Proofs.Ytmnblcnhbafcpaa

namespace Go.Proofs.Ytmnblcnhbafcpaa
open Go.RowKit
open NetM

def icells (xs : List Int) : List Value := xs.map (Value.int .i64)
theorem icells_snoc (xs : List Int) (x : Int) : icells (xs ++ [x]) = icells xs ++ [.int .i64 x] := by simp [icells]
theorem info3 : (Try.prog.info? 3).map (fun i => (i.zero, i.size, i.bytes)) = some (some (.int .i64 0), 1, 8) := by kernel_rfl
theorem info_parts {t : TypeId} {z : Value} {n b : Nat} (h : (Try.prog.info? t).map (fun i => (i.zero, i.size, i.bytes)) = some (some z, n, b)) : ∃ i, Try.prog.info? t = some i ∧ i.zero = some z ∧ i.size = n ∧ i.bytes = b := by
  obtain ⟨i, hi, he⟩ := Option.map_eq_some_iff.1 h
  simp only [Prod.mk.injEq] at he
  exact ⟨i, hi, he.1, he.2.1, he.2.2⟩
theorem cellAt {w : World} {b : Nat} {cs : Array Value} {T : TypeId} {fr : Nat × Nat} (hb : w.heap[b]? = some (.cells cs T fr)) (j : Nat) : w.cell? ⟨b, j, none⟩ = cs[j]? := by
  simp [World.cell?, hb]
/-- a slice of numbers -/
def IntR (w : World) (v : Value) (l : List Int) : Prop := ∃ A c, v = .slice A l.length c ∧ l.length ≤ c ∧ Ints w w.heap.size A l
theorem IntR.gr {w w' : World} {v : Value} {l : List Int} (h : IntR w v l) (hb : Gr w w') : IntR w' v l := by
  obtain ⟨A, c, e, hc, hi⟩ := h
  exact ⟨A, c, e, hc, hi.gr hb⟩
theorem ints_of_own {w : World} {base n : Nat} {v : Value} {xs : List Int} (h : w.ownsRow base 3 1 v n (icells xs)) (hn : xs.length = n) : IntR w v xs := by
  rcases h.2 with ⟨rfl, h0⟩ | ⟨g, cap, cur, rfl, hb, hh, hn', hc, hsz, ht⟩
  · have e : xs = [] := List.eq_nil_of_length_eq_zero (hn.trans h0)
    subst e
    exact ⟨none, 0, rfl, Nat.le_refl _, fun i t hi => by simp at hi⟩
  · refine ⟨some ⟨g, 0, none⟩, cap, by rw [hn], by omega, ?_⟩
    intro i t hi
    have hil : i < n := by have := (List.getElem?_eq_some_iff.1 hi).1; omega
    refine ⟨g, 0, rfl, hlt hh, ?_⟩
    rw [cellAt hh]
    have : (icells xs)[i]? = some (.int .i64 t) := by simp [icells, hi]
    rw [← ht, List.getElem?_take_of_lt (by omega)] at this
    simpa using this
theorem int_new (w : World) (x : Value) (t : TypeId) : ∀ j u, [x][j]? = some u → (w.alloc (.cells #[x] t)).cell? ((⟨w.heap.size, 0, none⟩ : Addr).add j) = some u := by
  intro j u hj
  match j, hj with
  | 0, hj => simp at hj; subst hj; simp [Addr.add]
  | j + 1, hj => simp at hj
theorem app_row {w wr w3 : World} {e : TypeId} {v : Value} {n : Nat} {xs : List Value} {o : Obj} (hown : wr.ownsRow w.heap.size e 1 v n xs) (hbw : Below w.heap.size w wr)
    (hg : (wr.alloc o).grownBy w3 v.ownBlock) : Below w.heap.size w w3 := by
  have hbsz := hbw.size
  exact (hbw.alloc hbsz _).grown hg (by simp; omega) (fun q hq => (hown.lt q hq).1)

/-! places -/
theorem placesF_append (op : Int) : ∀ (a b : List Nd) (i : Nat), placesF op (a ++ b) i = placesF op a i ++ placesF op b (i + a.length)
  | [], b, i => by simp [placesF]
  | x :: r, b, i => by
    simp only [List.cons_append, placesF, List.length_cons]
    rw [placesF_append op r b (i + 1), show i + 1 + r.length = i + (r.length + 1) by omega]
    split <;> simp
theorem places_step {l : List Nd} {op : Int} {j : Nat} {x : Nd} (h : l[j]? = some x) : places (l.take (j + 1)) op = places (l.take j) op ++ (if x.op = op then [(j : Int)] else []) := by
  unfold places
  rw [List.take_add_one, h, placesF_append]
  have hj : j < l.length := (List.getElem?_eq_some_iff.1 h).1
  have hm : (l.take j).length = j := by rw [List.length_take]; omega
  simp [placesF, hm]
theorem placesF_len (op : Int) : ∀ (a : List Nd) (i : Nat), (placesF op a i).length ≤ a.length
  | [], _ => Nat.le_refl _
  | x :: r, i => by
    have := placesF_len op r (i + 1)
    simp only [placesF]
    split <;> simp <;> omega
theorem places_len (l : List Nd) (op : Int) : (places l op).length ≤ l.length := placesF_len op l 0
theorem places_end {l : List Nd} {op : Int} {j : Nat} (h : l.length ≤ j) : places (l.take j) op = places l op := by rw [List.take_of_length_le h]

def RowRet (w : World) (xs : List Int) (e : Ending) (w' : World) : Prop := ∃ v, e = .returned v ∧ IntR w' v xs ∧ Gr w w' ∧ ∀ b, v.ownBlock = some b → w.heap.size ≤ b
end Go.Proofs.Ytmnblcnhbafcpaa
