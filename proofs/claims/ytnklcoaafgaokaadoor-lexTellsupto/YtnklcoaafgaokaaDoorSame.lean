/-
  proofmarkref01.Same AND Alike OF ROWS THAT HOLD THE SAME TOKENS: true; proofmarklaw01.few: the first 2000 bytes.
-/
import Derived.Test.YtnklcoaafgaokaaDoorText
import Derived.Test.YtnklcoaafgaokaaDoorLexMain
import Derived.Laws.StructEq
import Derived.BigQuiet
import Derived.Deep.QuietTactic
namespace Go.Proofs.YtnklcoaafgaokaaDoor
open Go.RowKit

theorem drewN_drew (w : World) (n : Nat) : (w.drewN n).drewN 0 = w.drewN n := by rfl

theorem eq33 (a b c : Int) (s : ByteArray) (w : World) :
    (binOp .neq 33 (.agg #[.int .i64 a, .string s, .int .i64 b, .int .i64 c]) (.agg #[.int .i64 a, .string s, .int .i64 b, .int .i64 c])).run Tryd.prog w = .ok (.bool false) w := by
  have hS : Tryd.prog.underlying 33 = some (.struct (Tryd.prog.fieldsOf 33)) := by kernel_rfl
  have hp : Tryd.prog.stoodInHeld 33 = false := by kernel_rfl
  have u3 := Tryd.underlying3
  have u9 := Tryd.underlying9
  rw [run_neq_struct, show (10000 : Nat) = 9999 + 1 from rfl, run_equalIn_agg w 9999 33 _ _ hS hp]
  simp only [Program.fieldsOf, Tryd.underlying33]
  go_simp

set_option maxRecDepth 100000 in
set_option maxHeartbeats 1000000 in
theorem Same_yes (A A' : Option Addr) (c c' B : Nat) (ts : List GTk) (w : World) (hn : ts.length ≤ maxLen) (hT : Hid (Toks w B A ts)) (hT' : Hid (Toks w B A' ts)) :
    Calls Tryd.prog 14 #[.slice A ts.length c, .slice A' ts.length c'] w fun e w' => e = .returned (.bool true) ∧ ∃ n, w' = w.drewN n := by
  unfold maxLen at hn
  have hne : ((ts.length : Int) != (ts.length : Int)) = false := by simp
  go_enter Tryd.func14, Tryd.ntmps14
  go_wp2
  go_loopg [5] ts.length (fun g i wr => ∃ k n : Nat, k + g = ts.length ∧ i = .int .i64 k ∧ Hid (wr = w.drewN n))
  case atStart => exact ⟨0, 0, by omega, rfl, Lib.hid rfl⟩
  case round =>
    obtain ⟨k, n, hkg, rfl, HW⟩ := hrel
    have HK := Lib.hid hkg
    clear hkg
    obtain rfl := HW.out
    by_cases hlt : k < ts.length
    · have hsome : ts[k]? = some ts[k] := List.getElem?_eq_getElem hlt
      generalize ts[k] = t at hsome
      obtain ⟨b, off, rfl, hbl, c0, c1, c2, c3⟩ := hT.out k t hsome
      obtain ⟨b', off', rfl, hbl', c0', c1', c2', c3'⟩ := hT'.out k t hsome
      clear hsome
      have heq := eq33 t.a t.b t.c t.s
      have hi1 : (k : Int) < (ts.length : Int) := by omega
      have hi0 : (0 : Int) ≤ (k : Int) := by omega
      go_wp2
      go_quiet (fail)
      go_wp2
      go_roundg (gk - 1)
      case measure => have := HK.out; omega
      case rel => exact ⟨k + 1, n + nq, by have := HK.out; omega, by go_num, Lib.hid (by first | rfl | rw [World.drewN_drewN])⟩
    · go_wp2
      go_ret
      exact ⟨rfl, n, rfl⟩

theorem few_any (s : ByteArray) (w : World) (hs : s.size ≤ maxLen) :
    Calls Tryd.prog 11 #[.string s] w fun e w' => e = .returned (.string (str (s.data.toList.take 2000))) ∧ w = w' := by
  unfold maxLen at hs
  go_enter Tryd.func11, Tryd.ntmps11
  go_wp2
  go_ret
  refine ⟨?_, rfl⟩
  have e : s.extract 0 (min (s.size : Int) 2000).toNat = str (s.data.toList.take 2000) := by
    rw [str_extract, List.drop_zero, Nat.sub_zero]
    have h2 : (min (s.size : Int) 2000).toNat = min s.size 2000 := by omega
    rw [h2, Lib.size_eq]
    congr 1
    rw [Nat.min_comm, ← List.take_take, List.take_length]
  exact congrArg (fun x => Ending.returned (Value.string x)) e

/-- what Lex hands back, as the laws take it -/
def LexGot (w : World) (ts : List LexM.Tk) (len : Nat) (en ei : Int) (e : Ending) (w' : World) : Prop :=
  ∃ A c, e = .returned (.tuple #[.slice A len c, .int .i64 en, .int .i64 ei]) ∧ (ts.length = len ∧ len ≤ c ∧ c ≤ maxLen ∧ (A = none → len = 0 ∧ c = 0)) ∧ Toks w' w'.heap.size A (ts.map gOf) ∧ Below w.heap.size w w'

theorem rowOf_cell (ts : List LexM.Tk) (i : Nat) (t : LexM.Tk) (h : ts[i]? = some t) (j : Nat) (hj : j < 4) : (rowOf ts)[i * 4 + j]? = (tkCells t)[j]? := by
  induction ts generalizing i with
  | nil => simp at h
  | cons x r ih =>
    unfold rowOf at ih ⊢
    rw [List.flatMap_cons]
    have hx : (tkCells x).length = 4 := rfl
    cases i with
    | zero =>
      simp at h; subst h
      rw [List.getElem?_append_left (by omega)]
      simp
    | succ i =>
      rw [List.getElem?_append_right (by omega), hx, ← ih i (by simpa using h)]
      congr 1
      omega

theorem toks_of_own {w : World} {base : Nat} {v : Value} {ts : List LexM.Tk} (h : w.ownsRow base 33 4 v ts.length (rowOf ts)) : ∃ A c, v = .slice A ts.length c ∧ (ts.length ≤ c ∧ c ≤ maxLen ∧ (A = none → ts.length = 0 ∧ c = 0)) ∧ Toks w w.heap.size A (ts.map gOf) := by
  rcases h.2 with ⟨rfl, h0⟩ | ⟨g, cap, cur, rfl, hb, hh, hn, hc, hsz, ht⟩
  · refine ⟨none, 0, by rw [h0], ⟨by omega, Nat.zero_le _, fun _ => ⟨h0, rfl⟩⟩, ?_⟩
    intro i t hi
    rw [List.eq_nil_of_length_eq_zero h0] at hi
    simp at hi
  · refine ⟨some ⟨g, 0, none⟩, cap, rfl, ⟨hn, hc, fun e => by cases e⟩, ?_⟩
    intro i t hi
    rw [List.getElem?_map] at hi
    obtain ⟨x, hx, rfl⟩ := Option.map_eq_some_iff.1 hi
    have hilt : i < ts.length := (List.getElem?_eq_some_iff.1 hx).1
    have hcell : ∀ j, j < 4 → w.cell? ⟨g, 0 + i * 4 + j, none⟩ = (tkCells x)[j]? := by
      intro j hj
      rw [Lib.cell_of_heap hh, ← rowOf_cell ts i x hx j hj, ← ht, List.getElem?_take_of_lt (by omega), Nat.zero_add]
      simp
    exact ⟨g, 0, rfl, lt_of_heap hh, hcell 0 (by omega), hcell 1 (by omega), hcell 2 (by omega), hcell 3 (by omega)⟩

theorem Lex_is {s : ByteArray} {ts : List LexM.Tk} {n i len : Nat} (en ei : Int) (w : World) (hs : s.size ≤ 20000) (hsg : SgLaid w) (ho : lexOut s.data.toList = (ts, n, i)) (hl : ts.length = len) (h1 : (n : Int) = en) (h2 : (i : Int) = ei) :
    Calls Tryd.prog 12 #[.string s] w (LexGot w ts len en ei) := by
  subst h1 h2 hl
  refine (Lex_any s w hs (Lib.hid hsg)).mono ?_
  intro e w' h
  rw [ho] at h
  obtain ⟨v, rfl, hown, hb⟩ := h
  obtain ⟨A, c, rfl, hc, ht⟩ := toks_of_own hown
  exact ⟨A, c, rfl, ⟨rfl, hc⟩, ht, hb⟩

end Go.Proofs.YtnklcoaafgaokaaDoor
