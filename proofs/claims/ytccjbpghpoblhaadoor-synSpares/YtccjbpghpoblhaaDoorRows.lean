/-
  NARROWER THAN 'FOR EVERY INPUT', by the rows' own cells (each row's printed sentence says how): SynPlaces: laid · SynSpread: laid · SynJoins: laid · SynCuts: laid · SynSpares: laid · SynLexes: laid.
  DERIVED. THE GIVEN ROWS OF THIS SEAT. 6 by the template 'for every input the law returns true; each argument reads behind the call as it read before'; 0 by the template 'total and deterministic' (their statements: YtccjbpghpoblhaaDoorTotals.lean).
  GIVEN WITH THE SEED: the statements are not yours to turn. If you find one false, say at which input.
  Laid BY PROGRAM, IN A SANDBOX (cutbox-rows.mjs): the forced cells as the released guide's own fill.sh prints them over the translation 29f1331a2789e833… (all of the seat's roots in one cut). By AI agents, Wed Nov 11 2026. No macro, syntax, notation, axiom, sorry.
-/
import Derived.Test.YtccjbpghpoblhaaDoorChecked
import GoSem.Claim
import GoSem.ClaimJoined
import GoSem.ClaimMapViews
import Derived.JoinedTies
import Derived.KernelRfl
namespace Go.Proofs.YtccjbpghpoblhaaDoor
/- THE CELL 'sum', in the pinned program and in every row, IS THE sha256 OF THE DUMP (.gsa) THAT YtccjbpghpoblhaaDoorProg.lean LOADS. Nothing in Lean hashes anything: it is a label: what it is worth is what the hold of that sum in a sandbox is worth. -/
noncomputable def Tryd.pinned : Pinned := { name := "ytccjbpghpoblhaadoor", sum := "29f1331a2789e83346f1e21508e897be879ac39f4b31310d3507bdd89d8623a3", checked := Tryd.checked }
namespace Rows
def none {H : Type} : Left H := { results := [], args := [] }

/- WHAT THE LISTED PACKAGE-LEVEL VARIABLES READ AS WHEN THE CALL BEGINS. Each datum BY PROGRAM (the guide's laid-datum.mjs) off the statement by which the dump's own 'gosem.cut.vars' lays the variable. In a bare row this is a premise. The card (YtccjbpghpoblhaaDoorCards.lean) ties it to the program's text. -/
def laid_proofmark_lex_signs {H : Type} : DataW H := .agg [.lit (.string [60, 61]), .lit (.string [61, 61]), .lit (.string [33, 61]), .lit (.string [40]), .lit (.string [41]), .lit (.string [123]), .lit (.string [125]), .lit (.string [60]), .lit (.string [62]), .lit (.string [91]), .lit (.string [93]), .lit (.string [58]), .lit (.string [59]), .lit (.string [44]), .lit (.string [61]), .lit (.string [38]), .lit (.string [124]), .lit (.string [94]), .lit (.string [126]), .lit (.string [43]), .lit (.string [45]), .lit (.string [42]), .lit (.string [63]), .lit (.string [46]), .lit (.string [39])]
def laid_proofmark_syn_operators {H : Type} : DataW H := .agg [.agg [.lit (.string [124]), .lit (.int .i64 1), .lit (.int .i64 7)], .agg [.lit (.string [94]), .lit (.int .i64 2), .lit (.int .i64 8)], .agg [.lit (.string [38]), .lit (.int .i64 3), .lit (.int .i64 6)], .agg [.lit (.string [61, 61]), .lit (.int .i64 4), .lit (.int .i64 12)], .agg [.lit (.string [33, 61]), .lit (.int .i64 4), .lit (.int .i64 13)], .agg [.lit (.string [60]), .lit (.int .i64 4), .lit (.int .i64 14)], .agg [.lit (.string [60, 61]), .lit (.int .i64 4), .lit (.int .i64 15)], .agg [.lit (.string [43]), .lit (.int .i64 5), .lit (.int .i64 9)], .agg [.lit (.string [45]), .lit (.int .i64 5), .lit (.int .i64 10)], .agg [.lit (.string [42]), .lit (.int .i64 6), .lit (.int .i64 11)]]

/-- 'proofmarklaw02.SynPlaces': WHATEVER THE INPUT: true; the input reads as it did. -/
def synPlacesSpec : ChangeSpec := { name := "synPlaces", fn := fun _ => fun
  | [d] => { results := [.lit (.bool true)], args := [d] }
  | _ => none }
def synPlacesRow : OpenClaim := { program := "ytccjbpghpoblhaadoor", sum := "29f1331a2789e83346f1e21508e897be879ac39f4b31310d3507bdd89d8623a3", func := "proofmark/proofmarklaw02.SynPlaces", spec := "synPlaces", unfollowed := true, recurses := true, named := ["proofmark/lex.signs", "proofmark/syn.operators"], apart := false, laid := [("proofmark/lex.signs", laid_proofmark_lex_signs), ("proofmark/syn.operators", laid_proofmark_syn_operators)] }
def SynPlacesSaid : Prop := synPlacesRow.holds Tryd.pinned (OpenSpec.ofChange synPlacesSpec)

/-- ITS FALSE NEIGHBOUR: 'it returns false'. Refute it at one input. -/
def synPlacesWrong : ChangeSpec := { name := "synPlaces", fn := fun _ => fun
  | [d] => { results := [.lit (.bool false)], args := [d] }
  | _ => none }
def SynPlacesWrongFalsely : Prop := synPlacesRow.holds Tryd.pinned (OpenSpec.ofChange synPlacesWrong)

/-- 'proofmarklaw02.SynSpread': WHATEVER THE INPUT: true; the input reads as it did. -/
def synSpreadSpec : ChangeSpec := { name := "synSpread", fn := fun _ => fun
  | [d] => { results := [.lit (.bool true)], args := [d] }
  | _ => none }
def synSpreadRow : OpenClaim := { program := "ytccjbpghpoblhaadoor", sum := "29f1331a2789e83346f1e21508e897be879ac39f4b31310d3507bdd89d8623a3", func := "proofmark/proofmarklaw02.SynSpread", spec := "synSpread", inPlace := ["internal/abi.NoEscape"], unfollowed := true, recurses := true, named := ["proofmark/lex.signs", "proofmark/syn.operators"], apart := false, laid := [("proofmark/lex.signs", laid_proofmark_lex_signs), ("proofmark/syn.operators", laid_proofmark_syn_operators)] }
def SynSpreadSaid : Prop := synSpreadRow.holds Tryd.pinned (OpenSpec.ofChange synSpreadSpec)

/-- ITS FALSE NEIGHBOUR: 'it returns false'. Refute it at one input. -/
def synSpreadWrong : ChangeSpec := { name := "synSpread", fn := fun _ => fun
  | [d] => { results := [.lit (.bool false)], args := [d] }
  | _ => none }
def SynSpreadWrongFalsely : Prop := synSpreadRow.holds Tryd.pinned (OpenSpec.ofChange synSpreadWrong)

/-- 'proofmarklaw02.SynJoins': WHATEVER THE INPUT: true; the input reads as it did. -/
def synJoinsSpec : ChangeSpec := { name := "synJoins", fn := fun _ => fun
  | [d1, d2] => { results := [.lit (.bool true)], args := [d1, d2] }
  | _ => none }
def synJoinsRow : OpenClaim := { program := "ytccjbpghpoblhaadoor", sum := "29f1331a2789e83346f1e21508e897be879ac39f4b31310d3507bdd89d8623a3", func := "proofmark/proofmarklaw02.SynJoins", spec := "synJoins", unfollowed := true, recurses := true, named := ["proofmark/lex.signs", "proofmark/syn.operators"], apart := false, laid := [("proofmark/lex.signs", laid_proofmark_lex_signs), ("proofmark/syn.operators", laid_proofmark_syn_operators)] }
def SynJoinsSaid : Prop := synJoinsRow.holds Tryd.pinned (OpenSpec.ofChange synJoinsSpec)

/-- ITS FALSE NEIGHBOUR: 'it returns false'. Refute it at one input. -/
def synJoinsWrong : ChangeSpec := { name := "synJoins", fn := fun _ => fun
  | [d1, d2] => { results := [.lit (.bool false)], args := [d1, d2] }
  | _ => none }
def SynJoinsWrongFalsely : Prop := synJoinsRow.holds Tryd.pinned (OpenSpec.ofChange synJoinsWrong)

/-- 'proofmarklaw02.SynCuts': WHATEVER THE INPUT: true; the input reads as it did. -/
def synCutsSpec : ChangeSpec := { name := "synCuts", fn := fun _ => fun
  | [d1, d2] => { results := [.lit (.bool true)], args := [d1, d2] }
  | _ => none }
def synCutsRow : OpenClaim := { program := "ytccjbpghpoblhaadoor", sum := "29f1331a2789e83346f1e21508e897be879ac39f4b31310d3507bdd89d8623a3", func := "proofmark/proofmarklaw02.SynCuts", spec := "synCuts", unfollowed := true, recurses := true, named := ["proofmark/lex.signs", "proofmark/syn.operators"], apart := false, laid := [("proofmark/lex.signs", laid_proofmark_lex_signs), ("proofmark/syn.operators", laid_proofmark_syn_operators)] }
def SynCutsSaid : Prop := synCutsRow.holds Tryd.pinned (OpenSpec.ofChange synCutsSpec)

/-- ITS FALSE NEIGHBOUR: 'it returns false'. Refute it at one input. -/
def synCutsWrong : ChangeSpec := { name := "synCuts", fn := fun _ => fun
  | [d1, d2] => { results := [.lit (.bool false)], args := [d1, d2] }
  | _ => none }
def SynCutsWrongFalsely : Prop := synCutsRow.holds Tryd.pinned (OpenSpec.ofChange synCutsWrong)

/-- 'proofmarklaw02.SynSpares': WHATEVER THE INPUT: true; the input reads as it did. -/
def synSparesSpec : ChangeSpec := { name := "synSpares", fn := fun _ => fun
  | [d1, d2] => { results := [.lit (.bool true)], args := [d1, d2] }
  | _ => none }
def synSparesRow : OpenClaim := { program := "ytccjbpghpoblhaadoor", sum := "29f1331a2789e83346f1e21508e897be879ac39f4b31310d3507bdd89d8623a3", func := "proofmark/proofmarklaw02.SynSpares", spec := "synSpares", unfollowed := true, recurses := true, named := ["proofmark/lex.signs", "proofmark/syn.operators"], apart := false, laid := [("proofmark/lex.signs", laid_proofmark_lex_signs), ("proofmark/syn.operators", laid_proofmark_syn_operators)] }
def SynSparesSaid : Prop := synSparesRow.holds Tryd.pinned (OpenSpec.ofChange synSparesSpec)

/-- ITS FALSE NEIGHBOUR: 'it returns false'. Refute it at one input. -/
def synSparesWrong : ChangeSpec := { name := "synSpares", fn := fun _ => fun
  | [d1, d2] => { results := [.lit (.bool false)], args := [d1, d2] }
  | _ => none }
def SynSparesWrongFalsely : Prop := synSparesRow.holds Tryd.pinned (OpenSpec.ofChange synSparesWrong)

/-- 'proofmarklaw02.SynLexes': WHATEVER THE INPUT: true; the input reads as it did. -/
def synLexesSpec : ChangeSpec := { name := "synLexes", fn := fun _ => fun
  | [d1, d2, d3] => { results := [.lit (.bool true)], args := [d1, d2, d3] }
  | _ => none }
def synLexesRow : OpenClaim := { program := "ytccjbpghpoblhaadoor", sum := "29f1331a2789e83346f1e21508e897be879ac39f4b31310d3507bdd89d8623a3", func := "proofmark/proofmarklaw02.SynLexes", spec := "synLexes", unfollowed := true, recurses := true, named := ["proofmark/lex.signs", "proofmark/syn.operators"], apart := false, laid := [("proofmark/lex.signs", laid_proofmark_lex_signs), ("proofmark/syn.operators", laid_proofmark_syn_operators)] }
def SynLexesSaid : Prop := synLexesRow.holds Tryd.pinned (OpenSpec.ofChange synLexesSpec)

/-- ITS FALSE NEIGHBOUR: 'it returns false'. Refute it at one input. -/
def synLexesWrong : ChangeSpec := { name := "synLexes", fn := fun _ => fun
  | [d1, d2, d3] => { results := [.lit (.bool false)], args := [d1, d2, d3] }
  | _ => none }
def SynLexesWrongFalsely : Prop := synLexesRow.holds Tryd.pinned (OpenSpec.ofChange synLexesWrong)

/- THE SECOND FORM. 'bulk': how many values and letters a reading holds, each counted each time it is reached (what is shared counts as often as it is met; a slice's spare places count too). A statement '..UptoSaid' is the law's where the arguments, and the package variables that the reading takes, are together of bulk at most 1048576: NARROWER than '..Said'. Prove '..Said' where nothing that the law and all that it calls make is longer than what came in: it says more and counts as full. Else prove '..UptoSaid'. A law counts once. -/
mutual
def uptoBulk {H : Type} : DataW H → Nat
  | .lit (.string bytes) => bytes.length + 1
  | .lit _ => 1
  | .nil => 1
  | .ptr d => uptoBulk d + 1
  | .slice elems spare => uptoBulkAll elems + uptoBulkAll spare + 1
  | .agg parts => uptoBulkAll parts + 1
  | .iface _ d => uptoBulk d + 1
  | .map entries => uptoBulkEntries entries + 1
  | .held _ => 1
def uptoBulkAll {H : Type} : List (DataW H) → Nat
  | [] => 0
  | d :: r => uptoBulk d + uptoBulkAll r
def uptoBulkEntries {H : Type} : List (Lit × DataW H) → Nat
  | [] => 0
  | x :: r => uptoBulkEntry x + uptoBulkEntries r
def uptoBulkEntry {H : Type} : Lit × DataW H → Nat
  | (.string bytes, d) => bytes.length + uptoBulk d + 1
  | (_, d) => uptoBulk d + 1
 end
def uptoSmall : (H : Type) → List (DataW H) → Bool := fun _ ds => decide (uptoBulkAll ds ≤ 1048576)
def OpenSpec.upto (s : _root_.Go.ChangeSpec) : _root_.Go.OpenSpec := { _root_.Go.OpenSpec.ofChange s with cond := some uptoSmall }

/-- 'proofmarklaw02.SynPlaces', WHERE WHAT IT READS IS OF BULK AT MOST 1048576: true; the input reads as it did. -/
def synPlacesUptoRow : OpenClaim := { program := "ytccjbpghpoblhaadoor", sum := "29f1331a2789e83346f1e21508e897be879ac39f4b31310d3507bdd89d8623a3", func := "proofmark/proofmarklaw02.SynPlaces", spec := "synPlaces", unfollowed := true, recurses := true, named := ["proofmark/lex.signs", "proofmark/syn.operators"], apart := false, laid := [("proofmark/lex.signs", laid_proofmark_lex_signs), ("proofmark/syn.operators", laid_proofmark_syn_operators)], narrowed := true }
def SynPlacesUptoSaid : Prop := synPlacesUptoRow.holds Tryd.pinned (OpenSpec.upto synPlacesSpec)

/-- 'proofmarklaw02.SynSpread', WHERE WHAT IT READS IS OF BULK AT MOST 1048576: true; the input reads as it did. -/
def synSpreadUptoRow : OpenClaim := { program := "ytccjbpghpoblhaadoor", sum := "29f1331a2789e83346f1e21508e897be879ac39f4b31310d3507bdd89d8623a3", func := "proofmark/proofmarklaw02.SynSpread", spec := "synSpread", inPlace := ["internal/abi.NoEscape"], unfollowed := true, recurses := true, named := ["proofmark/lex.signs", "proofmark/syn.operators"], apart := false, laid := [("proofmark/lex.signs", laid_proofmark_lex_signs), ("proofmark/syn.operators", laid_proofmark_syn_operators)], narrowed := true }
def SynSpreadUptoSaid : Prop := synSpreadUptoRow.holds Tryd.pinned (OpenSpec.upto synSpreadSpec)

/-- 'proofmarklaw02.SynJoins', WHERE WHAT IT READS IS OF BULK AT MOST 1048576: true; the input reads as it did. -/
def synJoinsUptoRow : OpenClaim := { program := "ytccjbpghpoblhaadoor", sum := "29f1331a2789e83346f1e21508e897be879ac39f4b31310d3507bdd89d8623a3", func := "proofmark/proofmarklaw02.SynJoins", spec := "synJoins", unfollowed := true, recurses := true, named := ["proofmark/lex.signs", "proofmark/syn.operators"], apart := false, laid := [("proofmark/lex.signs", laid_proofmark_lex_signs), ("proofmark/syn.operators", laid_proofmark_syn_operators)], narrowed := true }
def SynJoinsUptoSaid : Prop := synJoinsUptoRow.holds Tryd.pinned (OpenSpec.upto synJoinsSpec)

/-- 'proofmarklaw02.SynCuts', WHERE WHAT IT READS IS OF BULK AT MOST 1048576: true; the input reads as it did. -/
def synCutsUptoRow : OpenClaim := { program := "ytccjbpghpoblhaadoor", sum := "29f1331a2789e83346f1e21508e897be879ac39f4b31310d3507bdd89d8623a3", func := "proofmark/proofmarklaw02.SynCuts", spec := "synCuts", unfollowed := true, recurses := true, named := ["proofmark/lex.signs", "proofmark/syn.operators"], apart := false, laid := [("proofmark/lex.signs", laid_proofmark_lex_signs), ("proofmark/syn.operators", laid_proofmark_syn_operators)], narrowed := true }
def SynCutsUptoSaid : Prop := synCutsUptoRow.holds Tryd.pinned (OpenSpec.upto synCutsSpec)

/-- 'proofmarklaw02.SynSpares', WHERE WHAT IT READS IS OF BULK AT MOST 1048576: true; the input reads as it did. -/
def synSparesUptoRow : OpenClaim := { program := "ytccjbpghpoblhaadoor", sum := "29f1331a2789e83346f1e21508e897be879ac39f4b31310d3507bdd89d8623a3", func := "proofmark/proofmarklaw02.SynSpares", spec := "synSpares", unfollowed := true, recurses := true, named := ["proofmark/lex.signs", "proofmark/syn.operators"], apart := false, laid := [("proofmark/lex.signs", laid_proofmark_lex_signs), ("proofmark/syn.operators", laid_proofmark_syn_operators)], narrowed := true }
def SynSparesUptoSaid : Prop := synSparesUptoRow.holds Tryd.pinned (OpenSpec.upto synSparesSpec)

/-- 'proofmarklaw02.SynLexes', WHERE WHAT IT READS IS OF BULK AT MOST 1048576: true; the input reads as it did. -/
def synLexesUptoRow : OpenClaim := { program := "ytccjbpghpoblhaadoor", sum := "29f1331a2789e83346f1e21508e897be879ac39f4b31310d3507bdd89d8623a3", func := "proofmark/proofmarklaw02.SynLexes", spec := "synLexes", unfollowed := true, recurses := true, named := ["proofmark/lex.signs", "proofmark/syn.operators"], apart := false, laid := [("proofmark/lex.signs", laid_proofmark_lex_signs), ("proofmark/syn.operators", laid_proofmark_syn_operators)], narrowed := true }
def SynLexesUptoSaid : Prop := synLexesUptoRow.holds Tryd.pinned (OpenSpec.upto synLexesSpec)

end Rows
end Go.Proofs.YtccjbpghpoblhaaDoor
