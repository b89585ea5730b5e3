/-
  WHAT THE ROWS' LIST GIVES: the table of signs, as lex reads it; and a world that holds it, for the rows' witness.
-/
import Derived.Test.YtnklcoaafgaokaaDoorHead
import Derived.Test.YtnklcoaafgaokaaDoorCards
import Derived.Test.YtnklcoaafgaokaaDoorTie
import Derived.ProofKit
import Derived.OpenShut
import Derived.ShutString
import Derived.ChangeOld
import Derived.Deep.DeepHandedRow
import Derived.Lib.LaidTab
namespace Go.Proofs.YtnklcoaafgaokaaDoor
open Go.ChangeShapes Go.WideShapes Go.ChangeAt Go.RowKit
open Go.ChangeMaps (open_string shut_string)

theorem own : ownKnob Tryd.prog.godebug = none := by kernel_rfl
theorem gTab : Tryd.prog.globalNamed "proofmark/lex.signs" = some 0 := by kernel_rfl
theorem gTabType : (Tryd.prog.globals[0]?).map (·.type) = some 41 := by kernel_rfl
theorem cells41 : Tryd.prog.cellsOf 41 = 25 := by kernel_rfl
theorem cells9 : Tryd.prog.cellsOf 9 = 1 := by kernel_rfl

theorem signs_data {H : Type} : (Rows.laid_proofmark_lex_signs : DataW H) = .agg (LexM.signs.map fun t => .lit (.string t)) := rfl

/-- an array of strings that reads as the table holds the table's strings, cell for cell -/
theorem cells_of_signs {H : Type} {enc : TypeId × Value → H} {w : World} {base : Nat} {sp : Nat → Bool} {held : Bool} {fuel : Nat} {cs : List Value} {p : List MemPlace}
    (h : DataW.trod enc Tryd.prog w base sp held fuel 41 cs = some (Rows.laid_proofmark_lex_signs, p)) : cs = LexM.signs.map fun t => Value.string (str t) := by
  rw [signs_data] at h
  cases fuel with
  | zero => simp [DataW.trod] at h
  | succ fuel =>
    simp only [DataW.trod, Tryd.underlying41, cells9, cells41, Nat.mul_one] at h
    split at h
    · rename_i hl
      obtain ⟨xs, hm, hx⟩ := Option.map_eq_some_iff.1 h
      have hxs : xs.map (·.1) = LexM.signs.map fun t => (DataW.lit (.string t) : DataW H) := by
        have := congrArg Prod.fst hx
        simpa using this
      have hsl : LexM.signs.length = 25 := by decide
      apply List.ext_getElem?
      intro i
      by_cases hi : i < 25
      · obtain ⟨b, hb, hf⟩ := Lib.mapM_at hm i i (by simp [hi])
        obtain ⟨s, hc, rfl, _⟩ := DataW.trod_string Tryd.underlying9 hf
        have h1 : cs[i]? = some (.string s) := by
          have := congrArg (·[0]?) hc
          simpa [List.getElem?_take, List.getElem?_drop] using this
        have h2 : (xs.map (·.1))[i]? = some (DataW.lit (.string s.data.toList) : DataW H) := by simp [hb]
        rw [hxs, List.getElem?_map] at h2
        obtain ⟨t, ht, he⟩ := Option.map_eq_some_iff.1 h2
        have he2 : t = s.data.toList := by injection he with he; injection he
        rw [h1, List.getElem?_map, ht, Option.map_some, he2, str_of]
      · rw [List.getElem?_eq_none (by omega), List.getElem?_eq_none (by simp [hsl]; omega)]
    · cases h

theorem table {W : World} (h : laidMetH Tryd.prog [("proofmark/lex.signs", Rows.laid_proofmark_lex_signs)] W) : SgLaid W := by
  have h' : laidMet Tryd.prog [("proofmark/lex.signs", Rows.laid_proofmark_lex_signs)] W := h
  obtain ⟨ps, ⟨g', t', cs, fuel, p, q, hg', ht', hvar, hd, _, _⟩, _⟩ := h'
  obtain rfl := Option.some.inj (gTab.symm.trans hg')
  obtain rfl := Option.some.inj (gTabType.symm.trans ht')
  have hcs := cells_of_signs hd
  simp only [World.var?, gTab, Option.bind_some] at hvar
  split at hvar
  · rename_i cs' ty fr hh
    have e : cs' = cs := Option.some.inj hvar
    subst e
    refine ⟨ty, fr, ?_⟩
    rw [hh]
    have e2 : cs' = sgArr := by
      unfold sgArr
      rw [← hcs]
    rw [e2]
  · cases hvar

/-- a world for the witness: the settled one, the table holding what its initialiser lays -/
noncomputable def laidWorld (os : Os) : World :=
  { World.holding Tryd.prog os ⟨#[], #[], []⟩ with heap := (World.holding Tryd.prog os ⟨#[], #[], []⟩).heap.modify 0 fun
      | .cells _ t frozen => .cells sgArr t frozen
      | o => o }

end Go.Proofs.YtnklcoaafgaokaaDoor
