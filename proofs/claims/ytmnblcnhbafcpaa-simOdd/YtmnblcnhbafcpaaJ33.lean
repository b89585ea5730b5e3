/-
  ROWS OF NUMBERS, COPIED, WALKED.
-/
import Derived.Test.YtmnblcnhbafcpaaJ32
namespace Go.Proofs.Ytmnblcnhbafcpaa
open Go.RowKit
open NetM

theorem int_one (l : List Int) : ∀ u ∈ icells l, u.oneCell' = true := by
  intro u hu
  obtain ⟨z, _, rfl⟩ := List.mem_map.1 hu
  rfl
theorem int_news {w : World} {B : Nat} {A : Option Addr} {l : List Int} (h : Ints w B A l) : ∀ ad, A = some ad → ∀ j u, (icells l)[j]? = some u → w.cell? (ad.add j) = some u := by
  intro ad hA j u hu
  unfold icells at hu
  rw [List.getElem?_map] at hu
  obtain ⟨z, hz, rfl⟩ := Option.map_eq_some_iff.1 hu
  obtain ⟨b, off, e, -, hc⟩ := h j z hz
  rw [hA] at e
  obtain rfl := Option.some.inj e
  have hadd : (⟨b, off, none⟩ : Addr).add j = ⟨b, off + j, none⟩ := by
    by_cases hq : j = 0
    · subst hq; rfl
    · simp [Addr.add, hq]
  rw [hadd]
  exact hc
/-- a row that is nil, whatever room it is said to have, adds nothing -/
theorem run_nil_any {w : World} {base n : Nat} {v : Value} {xs : List Value} {i0 : TypeInfo} (ty : TypeId) (hi : Try.prog.info? 3 = some i0) (hown : w.ownsRow base 3 1 v n xs) (c : Nat) :
    (Builtin.append_ #[42, 42] ty #[v, .slice none 0 c]).run Try.prog w = .ok v w := by
  rcases hown.2 with ⟨rfl, rfl⟩ | ⟨g, cap, cur, rfl, _, _, hnc, _⟩
  · simp [Builtin.append_, run_underlying Try.underlying42, sizeOf, typeInfo, hi, Builtin.lenOf, Builtin.firstCells]
  · simp [Builtin.append_, run_underlying Try.underlying42, sizeOf, typeInfo, hi, Builtin.lenOf, Builtin.firstCells, hnc, storeCells]
theorem app_ints (w : World) {ops : Array Oper} {rest : List Oper} {o : Oper} {a : Act} {Q : Exit → Act → World → Prop} (hgd : o.guard = none) (s x : Operand)
    (ho : o.op = .call { callee := .builtin .append, args := #[s, x], argTypes := #[42, 42] }) (base : Nat) {i0 : TypeInfo} (hi : Try.prog.info? 3 = some i0) (hz : i0.zero = some (.int .i64 0)) (hsz : i0.size = 1) (hby : i0.bytes = 8)
    (v : Value) (n : Nat) (xs : List Value) (hs : a.eval s = v) (hown : w.ownsRow base 3 1 v n xs) (A : Option Addr) (m c B : Nat) (l : List Int) (hx : a.eval x = .slice A m c) (hl : l.length = m) (hI : Ints w B A l) (h63 : n + m ≤ 4000) (hbase : base ≤ w.heap.size)
    (h : ∀ v' w', w'.ownsRow base 3 1 v' (n + m) (xs ++ icells l) → Below base w w' → wpList Try.prog ops Q rest (a.put o.dst v') w') : wpList Try.prog ops Q (o :: rest) a w := by
  rcases A with _ | ad
  · have hl0 : l = [] := by
      rcases l with _ | ⟨y, r⟩
      · rfl
      · obtain ⟨b, off, e, -⟩ := hI 0 y rfl
        simp at e
    subst hl0
    obtain rfl : m = 0 := by rw [← hl]; rfl
    refine wpList_plain hgd fun K hK => ?_
    have hrun := run_nil_any o.type hi hown c
    unfold Oper.wp
    simp [execOp, ho, resolve, invoke, builtin, hs, hx, hrun, Result.andThen]
    exact hK _ _ (h v w (by rw [show icells [] = [] from rfl, List.append_nil]; exact hown) (Below.refl _ _))
  · exact wpList_append_own w hgd s x 42 ho base 3 i0 (.int .i64 0) 1 8 Try.underlying42 hi hz hsz hby rfl (by decide) v n xs hs hown ad m c (icells l) hx (by unfold icells; rw [List.length_map, hl, Nat.mul_one]) (int_news hI ad rfl) (int_one l) (by unfold maxLen; omega) (by omega) hbase
      fun v' w' h2 h3 _ => h v' w' h2 ((Below.refl _ _).grown h3 hbase (fun k hk => (hown.lt k hk).1))
end Go.Proofs.Ytmnblcnhbafcpaa
