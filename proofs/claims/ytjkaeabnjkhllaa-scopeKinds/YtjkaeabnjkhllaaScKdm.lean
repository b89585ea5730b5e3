/-
  WHAT A NAME IS, LOOKED FOR PLACE BY PLACE, PLAIN.
-/
import Derived.Test.YtjkaeabnjkhllaaScMath
namespace Go.Proofs.Ytjkaeabnjkhllaa

theorem par_step {l : List ByteArray} {k : Nat} {n : ByteArray} (h : l[k]? = some n) : parPl (l.drop k) k = (n, 1, k) :: parPl (l.drop (k + 1)) (k + 1) := by
  have hk := (List.getElem?_eq_some_iff.1 h).1
  rw [List.drop_eq_getElem_cons hk, (List.getElem?_eq_some_iff.1 h).2, parPl]
theorem por_step {l : List (Bool × ByteArray × Dm)} {k : Nat} {p : Bool × ByteArray × Dm} (h : l[k]? = some p) : porPl (l.drop k) k = (p.2.1, (if p.1 then 2 else 3), k) :: porPl (l.drop (k + 1)) (k + 1) := by
  have hk := (List.getElem?_eq_some_iff.1 h).1
  rw [List.drop_eq_getElem_cons hk, (List.getElem?_eq_some_iff.1 h).2, porPl]
theorem itm_step {l : List It} {k : Nat} {x : It} (h : l[k]? = some x) : itmPl (l.drop k) k = if itemKind x.kind = 0 then itmPl (l.drop (k + 1)) (k + 1) else (x.name, itemKind x.kind, k) :: itmPl (l.drop (k + 1)) (k + 1) := by
  have hk := (List.getElem?_eq_some_iff.1 h).1
  rw [List.drop_eq_getElem_cons hk, (List.getElem?_eq_some_iff.1 h).2, itmPl]
theorem par_end (l : List ByteArray) : parPl (l.drop l.length) l.length = [] := by rw [List.drop_length]; rfl
theorem por_end (l : List (Bool × ByteArray × Dm)) : porPl (l.drop l.length) l.length = [] := by rw [List.drop_length]; rfl
theorem itm_end (l : List It) : itmPl (l.drop l.length) l.length = [] := by rw [List.drop_length]; rfl
theorem lookk_hit {p : ByteArray × Nat × Nat} {r : List (ByteArray × Nat × Nat)} {s : ByteArray} (h : p.1 = s) : look (p :: r) s = p.2 := by rw [look, if_pos h]
theorem lookk_miss {p : ByteArray × Nat × Nat} {r : List (ByteArray × Nat × Nat)} {s : ByteArray} (h : p.1 ≠ s) : look (p :: r) s = look r s := by rw [look, if_neg h]
/-- where the search among the params, the ports, the items stands -/
def Par (m : Mo) (s : ByteArray) (k : Nat) : Prop := kindOf m s = look (parPl (m.params.drop k) k ++ (porPl m.ports 0 ++ itmPl m.items 0)) s
def Por (m : Mo) (s : ByteArray) (k : Nat) : Prop := kindOf m s = look (porPl (m.ports.drop k) k ++ itmPl m.items 0) s
def Itm (m : Mo) (s : ByteArray) (k : Nat) : Prop := kindOf m s = look (itmPl (m.items.drop k) k) s
theorem par_start (m : Mo) (s : ByteArray) : Par m s 0 := rfl
theorem Par.hit {m : Mo} {s : ByteArray} {k : Nat} {n : ByteArray} (h : Par m s k) (hn : m.params[k]? = some n) (e : n = s) : kindOf m s = (1, k) := by
  unfold Par at h
  rw [h, par_step hn]
  exact lookk_hit e
theorem Par.miss {m : Mo} {s : ByteArray} {k : Nat} {n : ByteArray} (h : Par m s k) (hn : m.params[k]? = some n) (e : n ≠ s) : Par m s (k + 1) := by
  unfold Par at h ⊢
  rw [h, par_step hn]
  exact lookk_miss e
theorem Par.end {m : Mo} {s : ByteArray} (h : Par m s m.params.length) : Por m s 0 := by
  unfold Par at h
  rw [par_end] at h
  exact h
theorem Por.hit {m : Mo} {s : ByteArray} {k : Nat} {p : Bool × ByteArray × Dm} (h : Por m s k) (hn : m.ports[k]? = some p) (e : p.2.1 = s) : kindOf m s = ((if p.1 then 2 else 3), k) := by
  unfold Por at h
  rw [h, por_step hn]
  exact lookk_hit e
theorem Por.miss {m : Mo} {s : ByteArray} {k : Nat} {p : Bool × ByteArray × Dm} (h : Por m s k) (hn : m.ports[k]? = some p) (e : p.2.1 ≠ s) : Por m s (k + 1) := by
  unfold Por at h ⊢
  rw [h, por_step hn]
  exact lookk_miss e
theorem Por.end {m : Mo} {s : ByteArray} (h : Por m s m.ports.length) : Itm m s 0 := by
  unfold Por at h
  rw [por_end] at h
  exact h
theorem Itm.hit {m : Mo} {s : ByteArray} {k : Nat} {x : It} (h : Itm m s k) (hn : m.items[k]? = some x) (e : x.name = s) (h0 : itemKind x.kind ≠ 0) : kindOf m s = (itemKind x.kind, k) := by
  unfold Itm at h
  rw [h, itm_step hn, if_neg h0]
  exact lookk_hit e
theorem Itm.miss {m : Mo} {s : ByteArray} {k : Nat} {x : It} (h : Itm m s k) (hn : m.items[k]? = some x) (e : x.name ≠ s ∨ itemKind x.kind = 0) : Itm m s (k + 1) := by
  unfold Itm at h ⊢
  rw [h, itm_step hn]
  by_cases h0 : itemKind x.kind = 0
  · rw [if_pos h0]
  · rw [if_neg h0]
    exact lookk_miss (e.resolve_right h0)
theorem Itm.end {m : Mo} {s : ByteArray} (h : Itm m s m.items.length) : kindOf m s = (0, 0) := by
  unfold Itm at h
  rw [itm_end] at h
  exact h
end Go.Proofs.Ytjkaeabnjkhllaa
