/-
  A ROW THAT CAME IN, APPENDED TO ONE'S OWN.
-/
import Derived.Test.YtjkaeabnjkhllaaScExi
namespace Go.Proofs.Ytjkaeabnjkhllaa
open Go.RowKit

theorem flat_idx {size : Nat} {u : Value} : ∀ {css : List (List Value)}, (∀ c ∈ css, c.length = size) → ∀ {j : Nat}, css.flatten[j]? = some u → ∃ q c r, css[q]? = some c ∧ c[r]? = some u ∧ j = q * size + r
  | [], _, j, h => by simp at h
  | c :: cs, hl, j, h => by
    rw [List.flatten_cons] at h
    have hc := hl c List.mem_cons_self
    by_cases hj : j < c.length
    · rw [List.getElem?_append_left hj] at h
      exact ⟨0, c, j, rfl, h, by omega⟩
    · rw [List.getElem?_append_right (by omega)] at h
      obtain ⟨q, d, r, h1, h2, h3⟩ := flat_idx (fun x hx => hl x (List.mem_cons_of_mem _ hx)) h
      exact ⟨q + 1, d, r, h1, h2, by rw [Nat.add_mul]; omega⟩
theorem flat_length {size : Nat} : ∀ {css : List (List Value)}, (∀ c ∈ css, c.length = size) → css.flatten.length = css.length * size
  | [], _ => by simp
  | c :: cs, hl => by
    rw [List.flatten_cons, List.length_append, hl c List.mem_cons_self, flat_length (fun x hx => hl x (List.mem_cons_of_mem _ hx)), List.length_cons, Nat.add_mul]
    omega
/-- a row that is nil, whatever room it is said to have, adds nothing -/
theorem run_nil_gen {w : World} {base n size : Nat} {v : Value} {xs : List Value} {t e : TypeId} {i0 : TypeInfo} (ty : TypeId) (hu : Try.prog.underlying t = some (.slice e)) (hi : Try.prog.info? e = some i0) (hown : w.ownsRow base e size v n xs) (c : Nat) :
    (Builtin.append_ #[t, t] ty #[v, .slice none 0 c]).run Try.prog w = .ok v w := by
  rcases hown.2 with ⟨rfl, rfl⟩ | ⟨g, cap, cur, rfl, _, _, hnc, _⟩
  · simp [Builtin.append_, run_underlying hu, sizeOf, typeInfo, hi, Builtin.lenOf, Builtin.firstCells]
  · simp [Builtin.append_, run_underlying hu, sizeOf, typeInfo, hi, Builtin.lenOf, Builtin.firstCells, hnc, storeCells]
theorem app_rows (w : World) {ops : Array Oper} {rest : List Oper} {o : Oper} {a : Act} {Q : Exit → Act → World → Prop} (hgd : o.guard = none) (s x : Operand) (t : TypeId)
    (ho : o.op = .call { callee := .builtin .append, args := #[s, x], argTypes := #[t, t] }) (base : Nat) (e : TypeId) {i0 : TypeInfo} (z : Value) (size bytes : Nat) (hu : Try.prog.underlying t = some (.slice e)) (hi : Try.prog.info? e = some i0) (hz : i0.zero = some z) (hsz : i0.size = size) (hby : i0.bytes = bytes) (hzs : z.cells.size = size) (h0 : 0 < size)
    (v : Value) (n : Nat) (xs : List Value) (hs : a.eval s = v) (hown : w.ownsRow base e size v n xs) (A : Option Addr) (c : Nat) (css : List (List Value)) (hx : a.eval x = .slice A css.length c) (hr : RowC w size (.slice A css.length c) css) (h1 : ∀ u ∈ css.flatten, u.oneCell' = true)
    (h63 : n + css.length ≤ maxLen) (hbytes : (n + css.length) * bytes ≤ 140737488355328) (hbase : base ≤ w.heap.size)
    (h : ∀ v' w', w'.ownsRow base e size v' (n + css.length) (xs ++ css.flatten) → Below base w w' → wpList Try.prog ops Q rest (a.put o.dst v') w') : wpList Try.prog ops Q (o :: rest) a w := by
  rcases A with _ | ad
  · have hl0 : css = [] := by
      rcases css with _ | ⟨y, r⟩
      · rfl
      · obtain ⟨g, q, e, -⟩ := hr.at (j := 0) (c := y) rfl
        cases e
    subst hl0
    refine wpList_plain hgd fun K hK => ?_
    have hrun := run_nil_gen o.type hu hi hown c
    unfold Oper.wp
    simp [execOp, ho, resolve, invoke, builtin, hs, hx, hrun, Result.andThen]
    exact hK _ _ (h v w (by rw [List.flatten_nil, List.append_nil]; exact hown) (Below.refl _ _))
  · refine wpList_append_own w hgd s x t ho base e i0 z size bytes hu hi hz hsz hby hzs h0 v n xs hs hown ad css.length c css.flatten hx (flat_length hr.2.1) (fun j u hj => ?_) h1 h63 hbytes hbase
      fun v' w' h2 h3 _ => h v' w' h2 ((Below.refl _ _).grown h3 hbase (fun k hk => (hown.lt k hk).1))
    obtain ⟨q, d, r, k1, k2, rfl⟩ := flat_idx hr.2.1 hj
    obtain ⟨g, o', e', -, h4⟩ := hr.at k1
    obtain rfl := Option.some.inj e'
    rw [Addr.add_mid, ← Nat.add_assoc]
    exact h4 r u k2
end Go.Proofs.Ytjkaeabnjkhllaa
