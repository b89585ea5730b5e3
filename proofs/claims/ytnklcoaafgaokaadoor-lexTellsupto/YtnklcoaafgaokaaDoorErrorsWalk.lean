/-
  proofmarklaw01.LexErrors, WALKED: true, of every text.
-/
import Derived.Test.YtnklcoaafgaokaaDoorHead
import Derived.Test.YtnklcoaafgaokaaDoorLexLaws
namespace Go.Proofs.YtnklcoaafgaokaaDoor
open Go.RowKit

theorem str_take (l : List UInt8) (p : Nat) : (str l).extract 0 p = str (l.take p) := by
  rw [str_extract, str_data, List.drop_zero, Nat.sub_zero]
theorem str_drop (l : List UInt8) (p : Nat) : (str l).extract p (str l).size = str (l.drop p) := by
  rw [str_extract, str_data, str_size, List.take_of_length_le]
  rw [List.length_drop]; omega

/-- Lex of bytes that are no more than 20000 -/
theorem Lex_l {l : List UInt8} {ts : List LexM.Tk} {n i len : Nat} (en ei : Int) (w : World) (hs : l.length ≤ 20000) (hsg : SgLaid w) (ho : lexOut l = (ts, n, i)) (hl : ts.length = len) (h1 : (n : Int) = en) (h2 : (i : Int) = ei) :
    Calls Tryd.prog 12 #[.string (str l)] w (LexGot w ts len en ei) :=
  Lex_is en ei w (by rw [str_size]; exact hs) hsg (by rw [str_data]; exact ho) hl h1 h2

set_option maxRecDepth 100000 in
set_option maxHeartbeats 1000000 in
theorem errors_walk (s : ByteArray) (w : World) (hs : s.size ≤ maxLen) (hsg : Hid (SgLaid w)) :
    Calls Tryd.prog 8 #[.string s] w fun e w' => e = .returned (.bool true) ∧ Below w.heap.size w w' := by
  go_enter Tryd.func8, Tryd.ntmps8
  go_wp2_with fail
  refine (head_any w hsg).mono ?_
  rintro e w1 ⟨rfl, hb1⟩
  have H1 := Lib.hid hb1
  clear hb1
  go_wp2_with fail
  refine (few_any s w1 hs).mono ?_
  rintro e w1' ⟨rfl, rfl⟩
  have hlen : (s.data.toList.take 2000).length ≤ 2000 := List.length_take_le _ _
  generalize s.data.toList.take 2000 = l at hlen
  have hsg1 := sg_below hsg.out H1.out
  cases hx : LexM.lex l 0 with
  | mk ts err =>
  cases err with
  | none =>
    go_wp2_with fail
    refine (Lex_l (len := ts.length) 0 0 w1 (by omega) hsg1 (lexOut_ok (by omega) hx) rfl rfl rfl).mono ?_
    rintro e w2 ⟨A2, c2, rfl, _, _, hb2⟩
    have H2 := Lib.hid hb2
    clear hb2 hx
    go_wp2
    go_ret
    exact ⟨rfl, H1.out.trans (H2.out.mono H1.out.size)⟩
  | some p =>
    obtain ⟨h1, h2, h3, h4⟩ := LexM.lex_error l.length l 0 p ts (Nat.le_refl _) hx
    rw [Nat.sub_zero] at h2 h3 h4
    have HX := Lib.hid hx
    have H3 := Lib.hid h3
    have H4 := Lib.hid (h4 0)
    have HS := Lib.hid hsg1
    have hsz : (str l).size = l.length := str_size l
    have htl : (l.take p).length ≤ 2000 := by rw [List.length_take]; omega
    have hdl : (l.drop p).length ≤ 2000 := by rw [List.length_drop]; omega
    have HSz := Lib.hid hsz
    clear hx h3 h4 hsg1
    go_wp2_with fail
    refine (Lex_l (len := 0) 10 p w1 (by omega) HS.out (lexOut_bad (by omega) HX.out) rfl rfl rfl).mono ?_
    rintro e w2 ⟨A2, c2, rfl, _, _, hb2⟩
    have H2 := Lib.hid hb2
    clear hb2
    have hp0 : ¬ ((p : Int) < 0) := by omega
    have hpl : ¬ ((l.length : Int) ≤ (p : Int)) := by omega
    go_wp2_with fail
    refine (Lex_is (s := (str l).extract 0 p) (len := ts.length) 0 0 w2 (by rw [str_take, str_size]; omega) (sg_below HS.out H2.out) (by rw [str_take, str_data]; exact lexOut_ok (by omega) H3.out) rfl rfl rfl).mono ?_
    rintro e w3 ⟨A3, c3, rfl, _, _, hb3⟩
    have H3' := Lib.hid hb3
    clear hb3
    go_wp2_with fail
    refine (Lex_is (s := (str l).extract p (str l).size) (len := 0) 10 0 w3 (by rw [str_drop, str_size]; omega) (sg_below (sg_below HS.out H2.out) H3'.out) (by rw [str_drop, str_data]; exact lexOut_bad (by omega) H4.out) rfl rfl rfl).mono ?_
    rintro e w4 ⟨A4, c4, rfl, _, _, hb4⟩
    have H4' := Lib.hid hb4
    clear hb4
    go_wp2
    go_ret
    have s1 := H1.out.size
    have s2 := H2.out.size
    have s3 := H3'.out.size
    exact ⟨rfl, ((H1.out.trans (H2.out.mono s1)).trans (H3'.out.mono (by omega))).trans (H4'.out.mono (by omega))⟩

end Go.Proofs.YtnklcoaafgaokaaDoor
