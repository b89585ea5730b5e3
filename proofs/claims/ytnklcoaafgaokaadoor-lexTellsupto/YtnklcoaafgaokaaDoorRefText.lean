/-
  proofmarkref01.Text, WALKED: the texts of tokens in memory, with one blank between any two.
-/
import Derived.Test.YtnklcoaafgaokaaDoorHead
namespace Go.Proofs.YtnklcoaafgaokaaDoor
open Go.RowKit
open LexM (joinSp)

set_option maxRecDepth 100000 in
set_option maxHeartbeats 1000000 in
theorem RefText_any (A : Option Addr) (c B : Nat) (ts : List GTk) (w : World) (hn : ts.length ≤ maxLen) (hT : Hid (Toks w B A ts)) (hL : Hid ((joinSp (gTexts ts)).length ≤ 4000000)) :
    Calls Tryd.prog 16 #[.slice A ts.length c] w fun e w' => e = .returned (.string (str (joinSp (gTexts ts)))) ∧ w = w' := by
  unfold maxLen at hn
  go_enter Tryd.func16, Tryd.ntmps16
  go_wp2
  go_loopg [3, 4] ts.length (fun g x i wr => ∃ k : Nat, k + g = ts.length ∧ i = .int .i64 k ∧ x = .string (str (joinSp ((gTexts ts).take k))) ∧ w = wr)
  case atStart => exact ⟨0, by omega, rfl, rfl, rfl⟩
  case round =>
    obtain ⟨k, hkg, rfl, rfl, rfl⟩ := hrel
    have HK := Lib.hid hkg
    clear hkg
    by_cases hlt : k < ts.length
    · have hsome : ts[k]? = some ts[k] := List.getElem?_eq_getElem hlt
      generalize ts[k] = t at hsome
      obtain ⟨b, off, rfl, hbl, c0, c1, c2, c3⟩ := hT.out k t hsome
      have hst := gTexts_step hsome
      have hle := joinSp_take (gTexts ts) (k + 1)
      have hLL := hL.out
      have hgl : (gTexts ts).length = ts.length := by simp [gTexts]
      clear hsome
      by_cases h0 : k = 0
      · have HJ : Hid (joinSp ((gTexts ts).take (k + 1)) = joinSp ((gTexts ts).take k) ++ t.s.data.toList) := Lib.hid (by rw [hst, h0]; simp [joinSp])
        have hle2 : (joinSp ((gTexts ts).take k)).length + t.s.size ≤ 4000000 := by rw [HJ.out, List.length_append, ← Lib.size_eq] at hle; omega
        have hz : ¬ (0 : Int) < (k : Int) := by omega
        clear hst hle hLL h0 hgl
        generalize joinSp ((gTexts ts).take k) = y at HJ hle2
        have hsy : (str y).size = y.length := str_size y
        go_wp2
        go_roundg (gk - 1)
        case measure => have := HK.out; omega
        case rel => exact ⟨k + 1, by have := HK.out; omega, by go_num, congrArg Value.string (by rw [HJ.out, ← str_append, str_of]), rfl⟩
      · have hpos : 0 < k := by omega
        have HJ : Hid (joinSp ((gTexts ts).take (k + 1)) = joinSp ((gTexts ts).take k) ++ [32] ++ t.s.data.toList) := Lib.hid (by
          rw [hst]
          refine joinSp_snoc _ _ ?_
          intro e
          have e2 := congrArg List.length e
          rw [List.length_take, hgl, List.length_nil] at e2
          omega)
        have hle2 : (joinSp ((gTexts ts).take k)).length + 1 + t.s.size ≤ 4000000 := by rw [HJ.out, List.length_append, List.length_append, ← Lib.size_eq] at hle; simp at hle; omega
        clear hst hle hLL h0 hgl
        generalize joinSp ((gTexts ts).take k) = y at HJ hle2
        have hsy : (str y).size = y.length := str_size y
        go_wp2
        go_roundg (gk - 1)
        case measure => have := HK.out; omega
        case rel => exact ⟨k + 1, by have := HK.out; omega, by go_num, congrArg Value.string (by rw [HJ.out, ← str_append, ← str_append, str_of]; rfl), rfl⟩
    · go_wp2
      go_ret
      refine ⟨?_, rfl⟩
      rw [List.take_of_length_le (by unfold gTexts; simp; omega)]; rfl

theorem RefText_of {A : Option Addr} {c B n : Nat} {ts : List GTk} {w : World} {r : ByteArray} (h : ts.length = n) (hn : n ≤ maxLen) (hT : Toks w B A ts) (hr : str (joinSp (gTexts ts)) = r) (hL : r.size ≤ 4000000) :
    Calls Tryd.prog 16 #[.slice A n c] w fun e w' => e = .returned (.string r) ∧ w = w' := by
  subst h hr; exact RefText_any A c B ts w hn (Lib.hid hT) (Lib.hid (by rw [str_size] at hL; exact hL))

end Go.Proofs.YtnklcoaafgaokaaDoor
