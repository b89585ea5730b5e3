/-
  WHAT THE ROWS' LIST GIVES: the table of signs, and that of operators; and a world that holds both, for the rows' witness.
-/
import Derived.Test.YtccjbpghpoblhaaDoorK05
import Derived.Test.YtccjbpghpoblhaaDoorCards
import Derived.Test.YtccjbpghpoblhaaDoorTie
import Derived.ProofKit
import Derived.OpenShut
import Derived.ShutString
import Derived.ChangeOld
import Derived.Deep.DeepHandedRow
import Derived.Deep.Strs
import Derived.Lib.LaidTab
namespace Go.Proofs.YtccjbpghpoblhaaDoor
open Go.ChangeShapes Go.WideShapes Go.ChangeAt Go.RowKit
open Go.ChangeMaps (open_string shut_string)

theorem own : ownKnob Tryd.prog.godebug = none := by kernel_rfl
theorem gTab : Tryd.prog.globalNamed "proofmark/lex.signs" = some 0 := by kernel_rfl
theorem gTabType : (Tryd.prog.globals[0]?).map (·.type) = some 74 := by kernel_rfl
theorem gOps : Tryd.prog.globalNamed "proofmark/syn.operators" = some 1 := by kernel_rfl
theorem gOpsType : (Tryd.prog.globals[1]?).map (·.type) = some 124 := by kernel_rfl
theorem cells74 : Tryd.prog.cellsOf 74 = 25 := by kernel_rfl
theorem cells9 : Tryd.prog.cellsOf 9 = 1 := by kernel_rfl
theorem cells3 : Tryd.prog.cellsOf 3 = 1 := by kernel_rfl
theorem cells123 : Tryd.prog.cellsOf 123 = 3 := by kernel_rfl
theorem cells124 : Tryd.prog.cellsOf 124 = 30 := by kernel_rfl

theorem signs_data {H : Type} : (Rows.laid_proofmark_lex_signs : DataW H) = .agg (LexM.signs.map fun t => .lit (.string t)) := rfl
theorem ops_data {H : Type} : (Rows.laid_proofmark_syn_operators : DataW H) = .agg (opTab.map fun t => .agg [.lit (.string t.1), .lit (.int .i64 (t.2.1 : Nat)), .lit (.int .i64 (t.2.2 : Nat))]) := rfl

/-- an array of strings that reads as the table holds the table's strings, cell for cell -/
theorem cells_of_signs {H : Type} {enc : TypeId × Value → H} {w : World} {base : Nat} {sp : Nat → Bool} {held : Bool} {fuel : Nat} {cs : List Value} {p : List MemPlace}
    (h : DataW.trod enc Tryd.prog w base sp held fuel 74 cs = some (Rows.laid_proofmark_lex_signs, p)) : cs = LexM.signs.map fun t => Value.string (str t) := by
  rw [signs_data] at h
  obtain ⟨xs, m, _, hx, hl, hxl, hf⟩ := DataW.trod_array Tryd.underlying74 h
  rw [cells74] at hl
  rw [cells9] at hf
  have hxs : xs.map (·.1) = LexM.signs.map fun t => (DataW.lit (.string t) : DataW H) := by
    have := congrArg Prod.fst hx
    simpa using this.symm
  have hsl : LexM.signs.length = 25 := by decide
  apply List.ext_getElem?
  intro i
  by_cases hi : i < 25
  · have h1 := hf i hi
    have hb : xs[i]? = some (xs[i]'(by omega)) := List.getElem?_eq_getElem (by omega)
    rw [hb] at h1
    obtain ⟨s, hc, hr, _⟩ := DataW.trod_string Tryd.underlying9 h1
    have h2 : cs[i]? = some (.string s) := by
      have := congrArg (fun l => l[0]?) hc
      simpa [List.getElem?_take, List.getElem?_drop] using this
    have h3 : (xs.map (·.1))[i]? = some (DataW.lit (.string s.data.toList) : DataW H) := by rw [List.getElem?_map, hb, hr]; rfl
    rw [hxs, List.getElem?_map] at h3
    obtain ⟨t, ht, he⟩ := Option.map_eq_some_iff.1 h3
    have he2 : t = s.data.toList := by injection he with he; injection he
    rw [h2, List.getElem?_map, ht, Option.map_some, he2, str_of]
  · rw [List.getElem?_eq_none (by omega), List.getElem?_eq_none (by simp [hsl]; omega)]

def opCells (t : List UInt8 × Nat × Nat) : List Value := [Value.string (str t.1), Value.int .i64 (t.2.1 : Nat), Value.int .i64 (t.2.2 : Nat)]
theorem three_at : ∀ (l : List (List UInt8 × Nat × Nat)) (i j : Nat) (a : List UInt8 × Nat × Nat), l[i]? = some a → j < 3 → (l.flatMap opCells)[i * 3 + j]? = (opCells a)[j]?
  | [], i, j, a, h, _ => by simp at h
  | x :: r, 0, j, a, h, hj => by
    obtain rfl : x = a := by simpa using h
    rw [List.flatMap_cons, Nat.zero_mul, Nat.zero_add, List.getElem?_append_left (by show j < 3; exact hj)]
  | x :: r, i + 1, j, a, h, hj => by
    have ih := three_at r i j a (by simpa using h) hj
    rw [List.flatMap_cons, List.getElem?_append_right (by show 3 ≤ _; omega)]
    rw [show (i + 1) * 3 + j - (opCells x).length = i * 3 + j by show (i + 1) * 3 + j - 3 = _; omega]
    exact ih
theorem len_three : ∀ {l : List Value}, l.length = 3 → ∃ a b c, l = [a, b, c]
  | [a, b, c], _ => ⟨a, b, c, rfl⟩
theorem cells_of_ops {H : Type} {enc : TypeId × Value → H} {w : World} {base : Nat} {sp : Nat → Bool} {held : Bool} {fuel : Nat} {cs : List Value} {p : List MemPlace}
    (h : DataW.trod enc Tryd.prog w base sp held fuel 124 cs = some (Rows.laid_proofmark_syn_operators, p)) : cs = opTab.flatMap opCells := by
  rw [ops_data] at h
  obtain ⟨xs, m, _, hx, hl, hxl, hf⟩ := DataW.trod_array Tryd.underlying124 h
  rw [cells124] at hl
  rw [cells123] at hf
  have hxs : xs.map (·.1) = opTab.map fun t => (DataW.agg [.lit (.string t.1), .lit (.int .i64 (t.2.1 : Nat)), .lit (.int .i64 (t.2.2 : Nat))] : DataW H) := by
    have := congrArg Prod.fst hx
    simpa using this.symm
  have hsl : opTab.length = 10 := by decide
  apply List.ext_getElem?
  intro k
  by_cases hk : k < 30
  · obtain ⟨i, j, rfl, hi, hj⟩ : ∃ i j, k = i * 3 + j ∧ i < 10 ∧ j < 3 := ⟨k / 3, k % 3, by omega, by omega, by omega⟩
    have h1 := hf i hi
    have hb : xs[i]? = some (xs[i]'(by omega)) := List.getElem?_eq_getElem (by omega)
    rw [hb] at h1
    obtain ⟨y0, y1, y2, n, hr, h3l, f0, f1, f2⟩ := Deep.trod_struct3 Tryd.underlying123 h1
    rw [cells123] at h3l
    have ht : opTab[i]? = some (opTab[i]'(by omega)) := List.getElem?_eq_getElem (by omega)
    rw [three_at _ i j _ ht hj]
    have h3 : (xs.map (·.1))[i]? = some (DataW.agg [y0.1, y1.1, y2.1]) := by rw [List.getElem?_map, hb, hr]; rfl
    rw [hxs, List.getElem?_map, ht, Option.map_some] at h3
    generalize opTab[i]'(by omega) = t at h3 ⊢
    injection h3 with h3
    injection h3 with h3
    simp only [List.cons.injEq, and_true] at h3
    obtain ⟨r0, r1, r2⟩ := h3
    have hcs : ∀ j, j < 3 → cs[i * 3 + j]? = ((cs.drop (i * 3)).take 3)[j]? := fun j hj => by rw [List.getElem?_take, if_pos hj, List.getElem?_drop]
    rw [hcs j hj]
    generalize (cs.drop (i * 3)).take 3 = ds at f0 f1 f2 h3l ⊢
    obtain ⟨c0, c1, c2, rfl⟩ := len_three h3l
    have f0' : DataW.trod enc Tryd.prog w base sp held n 9 (([c0, c1, c2].drop 0).take (Tryd.prog.cellsOf 9)) = some y0 := f0
    have f1' : DataW.trod enc Tryd.prog w base sp held n 3 (([c0, c1, c2].drop 1).take (Tryd.prog.cellsOf 3)) = some y1 := f1
    have f2' : DataW.trod enc Tryd.prog w base sp held n 3 (([c0, c1, c2].drop 2).take (Tryd.prog.cellsOf 3)) = some y2 := f2
    rw [cells9] at f0'
    rw [cells3] at f1' f2'
    obtain ⟨s, e0, q0, _⟩ := DataW.trod_string Tryd.underlying9 f0'
    obtain ⟨a, e1, q1, _⟩ := DataW.trod_int Tryd.underlying3 f1'
    obtain ⟨b, e2, q2, _⟩ := DataW.trod_int Tryd.underlying3 f2'
    simp at e0 e1 e2
    subst e0 e1 e2
    rw [q0] at r0
    rw [q1] at r1
    rw [q2] at r2
    have g0 : t.1 = s.data.toList := by injection r0 with r0; injection r0
    have g1 : ((t.2.1 : Nat) : Int) = a := by injection r1 with r1; injection r1
    have g2 : ((t.2.2 : Nat) : Int) = b := by injection r2 with r2; injection r2
    unfold opCells
    rw [g0, g1, g2, str_of]
  · rw [List.getElem?_eq_none (by omega), List.getElem?_eq_none (by have : (opTab.flatMap opCells).length = 30 := by decide
                                                                    omega)]

theorem tables {W : World} (h : laidMetH Tryd.prog [("proofmark/lex.signs", Rows.laid_proofmark_lex_signs), ("proofmark/syn.operators", Rows.laid_proofmark_syn_operators)] W) : SgLaid W ∧ OpLaid W := by
  have h' : laidMet Tryd.prog [("proofmark/lex.signs", Rows.laid_proofmark_lex_signs), ("proofmark/syn.operators", Rows.laid_proofmark_syn_operators)] W := h
  obtain ⟨ps, ⟨g', t', cs, fuel, p, q, hg', ht', hvar, hd, ⟨g2, t2, cs2, fuel2, p2, q2, hg2, ht2, hvar2, hd2, _, _⟩, _⟩, _⟩ := h'
  obtain rfl := Option.some.inj (gTab.symm.trans hg')
  obtain rfl := Option.some.inj (gTabType.symm.trans ht')
  obtain rfl := Option.some.inj (gOps.symm.trans hg2)
  obtain rfl := Option.some.inj (gOpsType.symm.trans ht2)
  have hcs := cells_of_signs hd
  have hcs2 := cells_of_ops hd2
  simp only [World.var?, gTab, gOps, Option.bind_some] at hvar hvar2
  constructor
  · split at hvar
    · rename_i cs' ty fr hh
      have e : cs' = cs := Option.some.inj hvar
      subst e
      refine ⟨ty, fr, ?_⟩
      rw [hh]
      have e2 : cs' = sgArr := by
        unfold sgArr
        rw [← hcs]
      rw [e2]
    · cases hvar
  · split at hvar2
    · rename_i cs' ty fr hh
      have e : cs' = cs2 := Option.some.inj hvar2
      subst e
      refine ⟨ty, fr, ?_⟩
      rw [hh]
      have e2 : cs' = opArr := by
        show cs' = (opTab.flatMap opCells).toArray
        rw [← hcs2]
      rw [e2]
    · cases hvar2

theorem i64_wf {a : Int} (h : (Lit.int .i64 a).wf = true) : -9223372036854775808 ≤ a ∧ a ≤ 9223372036854775807 := by
  simp [Lit.wf] at h
  exact h
theorem u8_wf {a : Int} (h : (Lit.int .u8 a).wf = true) : 0 ≤ a ∧ a ≤ 255 := by
  simp [Lit.wf] at h
  have h1 : IntKind.u8.min = 0 := by decide
  have h2 : IntKind.u8.max = 255 := by decide
  rw [h1, h2] at h
  exact h
/-- a variable's cells laid anew -/
def relay (a : Array Value) : Obj → Obj
  | .cells _ t frozen => .cells a t frozen
  | o => o
/-- a world for the witness: the settled one, the tables holding what their initialisers lay -/
noncomputable def laidWorld (os : Os) : World :=
  { World.holding Tryd.prog os ⟨#[], #[], []⟩ with heap := ((World.holding Tryd.prog os ⟨#[], #[], []⟩).heap.modify 0 (relay sgArr)).modify 1 (relay opArr) }

end Go.Proofs.YtccjbpghpoblhaaDoor

