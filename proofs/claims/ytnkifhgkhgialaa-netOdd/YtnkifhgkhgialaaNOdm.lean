/-
  NETS WITH ONE NUMBER AMISS, PLAIN.
-/
import Derived.Test.YtnkifhgkhgialaaNMap
namespace Go.Proofs.Ytnkifhgkhgialaa
open Go.RowKit
open NetM

theorem odd_nodes {n : Nt} {k : Nat} {y y' : Nd} (hk : n.nodes[k]? = some y) (h : ¬ NdOk (n.nodes.take k) y') : ¬ NRight ⟨n.nodes.set k y', n.ins, n.cells, n.props, n.names⟩ := fun hh => by
  have hkl := (List.getElem?_eq_some_iff.1 hk).1
  have h1 := hh.1 k y' (by show (n.nodes.set k y')[k]? = _; rw [List.getElem?_set_self hkl])
  have e : (n.nodes.set k y').take k = n.nodes.take k := by
    rw [List.take_set, List.set_eq_of_length_le (by rw [List.length_take]; omega)]
  exact h (by rw [← e]; exact h1)
def ndW (y : Nd) (z : Int) : Nd := ⟨y.op, z, y.a, y.b, y.c, y.n, y.lo⟩
def ndO (y : Nd) (z : Int) : Nd := ⟨z, y.w, y.a, y.b, y.c, y.n, y.lo⟩
def ndC (y : Nd) (z : Int) : Nd := ⟨y.op, y.w, y.a, y.b, z, y.n, y.lo⟩
def ndLo (y : Nd) (z : Int) : Nd := ⟨y.op, y.w, y.a, y.b, y.c, y.n, z⟩
def ceN (c : Ce) (z : Int) : Ce := ⟨c.s, c.node, z, c.reset⟩
theorem odd_w17 {l : List Nd} {y : Nd} : ¬ NdOk l (ndW y 17) := by
  rintro ⟨_, _, _, _, _, _, h2, _⟩
  have h2 : (17 : Int) ≤ 16 := h2
  omega
theorem odd_w0 {l : List Nd} {y : Nd} : ¬ NdOk l (ndW y 0) := by
  rintro ⟨_, _, _, _, _, h1, _⟩
  have h1 : (1 : Int) ≤ 0 := h1
  omega
theorem odd_op {l : List Nd} {y : Nd} : ¬ NdOk l (ndO y 19) := by
  rintro ⟨_, _, _, _, hr, _⟩
  have h1 := rule_ops hr
  have e : (ndO y 19).op = 19 := rfl
  omega
theorem odd_c {l : List Nd} {y : Nd} {k : Nat} : ¬ NdOk (l.take k) (ndC y ((l.length : Int) + 5)) := by
  rintro ⟨q, _, _, _, _, _, _, h3, _⟩
  have h := h3 2 (by decide)
  have e : plc (ndC y ((l.length : Int) + 5)) 2 = (l.length : Int) + 5 := rfl
  by_cases hq : q ≤ 2
  · have h4 := h.1 hq
    rw [e] at h4
    omega
  · have h4 := h.2 (by omega)
    unfold opd at h4
    rw [e] at h4
    exact h4 (widA_ge (by rw [List.length_take]; omega))
theorem odd_lo {l : List Nd} {y : Nd} (hw : WOk l) : ¬ NdOk l (ndLo y (-1)) := by
  rintro ⟨q, bn, bl, f, hr, _, _, _, h4, h5⟩
  have e : (ndLo y (-1)).lo = -1 := rfl
  have hb : bl = true := by
    rcases h4.2 with h | h
    · exact h
    · rw [e] at h
      omega
  subst hb
  have h0 := widA_ok hw (plc (ndLo y (-1)) 0)
  obtain ⟨-, -, g3, -, -, g6⟩ := h5
  unfold ruleOf at hr
  repeat' split at hr
  all_goals
    simp only [Option.some.injEq, Prod.mk.injEq, reduceCtorEq, Bool.false_eq_true, and_false, false_and] at hr
  all_goals
    obtain ⟨rfl, -, -, rfl⟩ := hr
  all_goals first
    | (have g := (g3 rfl).2 0 (by decide); unfold opd at g; rw [e] at g; omega)
    | (have g := g6 rfl; rw [e] at g; omega)
theorem odd_cell {n : Nt} {q : Nat} {c : Ce} (hR : NRight n) (hq : n.cells[q]? = some c) : ¬ NRight ⟨n.nodes, n.ins, n.cells.set q (ceN c (-1)), n.props, n.names⟩ := fun hh => by
  have hql := (List.getElem?_eq_some_iff.1 hq).1
  have hm : ceN c (-1) ∈ n.cells.set q (ceN c (-1)) := List.mem_of_getElem? (by rw [List.getElem?_set_self hql])
  have h1 := (hh.2.2.1.2.1 _ hm).1
  have h2 : widA n.nodes (-1) = widA n.nodes c.node := h1
  rw [widA_neg (by decide)] at h2
  exact cell_there (wok_of hR.1) hR.2.2.1.1 c (List.mem_of_getElem? hq) h2.symm
end Go.Proofs.Ytnkifhgkhgialaa
