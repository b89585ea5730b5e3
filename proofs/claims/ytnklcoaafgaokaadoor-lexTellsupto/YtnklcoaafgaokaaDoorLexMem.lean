/-
  TOKENS IN MEMORY: the cells of a row of tokens; the table of signs, as lex reads it; what Lex hands back.
-/
import Derived.Test.YtnklcoaafgaokaaDoorLexSmall
import Derived.Laws.Rows
namespace Go.Proofs.YtnklcoaafgaokaaDoor
open Go.RowKit

def str (l : List UInt8) : ByteArray := ⟨l.toArray⟩
theorem str_data (l : List UInt8) : (str l).data.toList = l := by simp [str]
theorem str_size (l : List UInt8) : (str l).size = l.length := by rw [Lib.size_eq, str_data]
theorem str_of (s : ByteArray) : str s.data.toList = s := by unfold str; simp
theorem str_extract (s : ByteArray) (a b : Nat) : s.extract a b = str ((s.data.toList.drop a).take (b - a)) := by
  rw [← Lib.extract_data, str_of]

theorem str_append (a b : List UInt8) : str a ++ str b = str (a ++ b) := by
  unfold str
  apply ByteArray.ext
  rw [ByteArray.data_append]
  simp

/-- a token's four cells -/
def tkCells (t : LexM.Tk) : List Value := [.int .i64 t.kind, .string (str t.text), .int .i64 t.n, .int .i64 t.pos]
def rowOf (ts : List LexM.Tk) : List Value := ts.flatMap tkCells
theorem rowOf_length (ts : List LexM.Tk) : (rowOf ts).length = ts.length * 4 := by
  induction ts with
  | nil => rfl
  | cons t r ih => unfold rowOf at ih ⊢; rw [List.flatMap_cons, List.length_append, ih, List.length_cons]; simp [tkCells]; omega
theorem rowOf_snoc (ts : List LexM.Tk) (t : LexM.Tk) : rowOf (ts ++ [t]) = rowOf ts ++ tkCells t := by
  unfold rowOf; rw [List.flatMap_append]; simp

theorem info33 : (Tryd.prog.info? 33).map (fun i => (i.zero, i.size, i.bytes)) = some (some (.agg #[.int .i64 0, .string ByteArray.empty, .int .i64 0, .int .i64 0]), 4, 40) := by kernel_rfl

theorem cell_four_new (w : World) (a b c d : Value) (t : TypeId) : ∀ j u, [a, b, c, d][j]? = some u → (w.alloc (.cells #[a, b, c, d] t)).cell? ((⟨w.heap.size, 0, none⟩ : Addr).add j) = some u := by
  intro j u hj
  match j, hj with
  | 0, hj => simp at hj; subst hj; simp [Addr.add]
  | 1, hj => simp at hj; subst hj; simp [Addr.add]
  | 2, hj => simp at hj; subst hj; simp [Addr.add]
  | 3, hj => simp at hj; subst hj; simp [Addr.add]
  | j + 4, hj => simp at hj

/-- the table of signs -/
def sgArr : Array Value := (LexM.signs.map fun t => Value.string (str t)).toArray
def sgAt (j : Nat) : List UInt8 := LexM.signs.getD j []
def SgLaid (w : World) : Prop := ∃ t fr, w.heap[0]? = some (.cells sgArr t fr)
theorem sgArr_size : sgArr.size = 25 := by decide
theorem sg_index (j : Nat) (hj : j < 25) (w : World) : (Instr.index 41 (.agg sgArr) (.int .i64 (j : Int))).run Tryd.prog w = .ok (.string (str (sgAt j))) w := by
  iterate 25 (rcases j with _ | j; · kernel_rfl)
  omega

/-- what Lex tells of a text: tokens, the error's number, its place -/
def lexOut (l : List UInt8) : List LexM.Tk × Nat × Nat :=
  if 20000 < l.length then ([], 2, 0)
  else match LexM.lex l 0 with
    | (ts, none) => (ts, 0, 0)
    | (_, some i) => ([], 10, i)
/-- and how it lies in memory -/
def LexRet (w : World) (o : List LexM.Tk × Nat × Nat) (e : Ending) (w' : World) : Prop :=
  ∃ v, e = .returned (.tuple #[v, .int .i64 (o.2.1 : Nat), .int .i64 (o.2.2 : Nat)]) ∧ w'.ownsRow w.heap.size 33 4 v o.1.length (rowOf o.1) ∧ Below w.heap.size w w'

end Go.Proofs.YtnklcoaafgaokaaDoor
