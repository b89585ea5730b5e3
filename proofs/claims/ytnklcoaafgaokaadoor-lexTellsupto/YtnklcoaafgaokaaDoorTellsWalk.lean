/-
  proofmarklaw01.LexTells, WALKED: true, of every text and of any tokens whose texts are together not too long.
-/
import Derived.Test.YtnklcoaafgaokaaDoorRefLex
import Derived.Test.YtnklcoaafgaokaaDoorRefText
namespace Go.Proofs.YtnklcoaafgaokaaDoor
open Go.RowKit
open LexM (joinSp)

theorem gtoks_take {w : World} {B : Nat} {A : Option Addr} {ts : List GTk} (h : Toks w B A ts) (k : Nat) : Toks w B A (ts.take k) := by
  intro i t ht
  refine h i t ?_
  rw [List.getElem?_take] at ht
  split at ht
  · exact ht
  · simp at ht

theorem RefLex_is {s : ByteArray} {ts : List LexM.Tk} {n i len : Nat} (en ei : Int) (w : World) (hs : s.size ≤ 20000) (ho : lexOut s.data.toList = (ts, n, i)) (hl : ts.length = len) (h1 : (n : Int) = en) (h2 : (i : Int) = ei) :
    Calls Tryd.prog 13 #[.string s] w (LexGot w ts len en ei) := by
  subst h1 h2 hl
  refine (RefLex_any s w hs).mono ?_
  intro e w' h
  rw [ho] at h
  obtain ⟨v, rfl, hown, hb⟩ := h
  obtain ⟨A, c, rfl, hc, ht⟩ := toks_of_own hown
  exact ⟨A, c, rfl, ⟨rfl, hc⟩, ht, hb⟩
theorem lexOut_few {l : List UInt8} {ts : List LexM.Tk} {n i : Nat} (h : lexOut l = (ts, n, i)) : ts.length ≤ l.length := by
  have hc := LexM.lex_count l.length l 0 (Nat.le_refl _)
  unfold lexOut at h
  split at h
  · cases h; simp
  · split at h
    · rename_i x us hx
      cases h
      rw [hx] at hc; exact hc
    · cases h; simp

set_option maxRecDepth 100000 in
set_option maxHeartbeats 1000000 in
theorem tells_walk (s : ByteArray) (A : Option Addr) (len cap : Nat) (ts : List GTk) (w : World) (hs : s.size ≤ maxLen) (hln : ts.length = len) (hlc : len ≤ cap) (hcm : cap ≤ maxLen)
    (hT : Hid (Toks w w.heap.size A ts)) (hL : (joinSp (gTexts ts)).length ≤ 4000000) (hsg : Hid (SgLaid w)) :
    Calls Tryd.prog 3 #[.string s, .slice A len cap] w fun e w' => e = .returned (.bool true) ∧ Below w.heap.size w w' := by
  have HLn := Lib.hid hln
  clear hln
  unfold maxLen at hcm
  go_enter Tryd.func3, Tryd.ntmps3
  go_wp2_with fail
  refine (head_any w hsg).mono ?_
  rintro e w1 ⟨rfl, hb1⟩
  have H1 := Lib.hid hb1
  clear hb1
  have s1 := H1.out.size
  go_wp2_with fail
  refine (few_any s w1 hs).mono ?_
  rintro e w1' ⟨rfl, rfl⟩
  have hlen : (s.data.toList.take 2000).length ≤ 2000 := List.length_take_le _ _
  generalize s.data.toList.take 2000 = l at hlen
  have HS := Lib.hid (sg_below hsg.out H1.out)
  obtain ⟨us, n, i, ho⟩ : ∃ us n i, lexOut l = (us, n, i) := ⟨_, _, _, rfl⟩
  have hcnt := lexOut_few ho
  have HO := Lib.hid ho
  clear ho
  go_wp2_with fail
  refine (Lex_l (len := us.length) n i w1 (by omega) HS.out HO.out rfl rfl rfl).mono ?_
  rintro e w2 ⟨A2, c2, rfl, _, ht2, hb2⟩
  have H2 := Lib.hid (And.intro ht2 hb2)
  clear ht2 hb2
  have s2 := H2.out.2.size
  have HC := Lib.hid (RefLex_is (s := str l) (len := us.length) n i w2 (by rw [str_size]; omega) (by rw [str_data]; exact HO.out) rfl rfl rfl)
  go_wp2_with fail
  refine HC.out.mono ?_
  rintro e w3 ⟨A3, c3, rfl, _, ht3, hb3⟩
  have H3 := Lib.hid (And.intro ht3 hb3)
  clear ht3 hb3
  have s3 := H3.out.2.size
  have h13 : Below w.heap.size w w3 := (H1.out.trans (H2.out.2.mono s1)).trans (H3.out.2.mono (by omega))
  have H13 := Lib.hid h13
  clear h13
  have HT2 : Hid (Toks w3 w3.heap.size A2 (us.map gOf)) := Lib.hid ((H2.out.1.below H3.out.2).more s3)
  have HSame := Lib.hid (fun (c c' : Nat) => Same_of (n := us.length) (c := c) (c' := c') (ts := us.map gOf) (B := w3.heap.size) (w := w3) (by simp) (by unfold maxLen; omega) HT2.out H3.out.1)
  by_cases hbig : 300 < len
  · have htl : (joinSp (gTexts (ts.take 300))).length ≤ 4000000 := by
      have := joinSp_take (gTexts ts) 300
      unfold gTexts at this ⊢
      rw [← List.map_take] at this
      have h2 : (joinSp (List.map (fun t => t.s.data.toList) ts)).length ≤ 4000000 := hL
      omega
    have hl300 : (ts.take 300).length = 300 := by rw [List.length_take, HLn.out]; omega
    have HTT : Hid (Toks w3 w3.heap.size A (ts.take 300)) := Lib.hid (gtoks_take ((hT.out.below H13.out).more (by omega)) 300)
    have HL3 := Lib.hid (And.intro htl hl300)
    clear htl hl300
    have g1 : (300 : Int) < (len : Int) := by omega
    have g2 : (300 : Int) ≤ (cap : Int) := by omega
    go_wp2_with fail
    refine (HSame.out _ _).mono ?_
    rintro e w5 ⟨rfl, n5, rfl⟩
    go_wp2_with fail
    refine (Text_of (n := 300) (ts := ts.take 300) (r := str (joinSp (gTexts (ts.take 300)))) HL3.out.2 (by unfold maxLen; omega) (HTT.out.drewN n5) rfl (by rw [str_size]; have := HL3.out.1; omega)).mono ?_
    rintro e w6 ⟨rfl, hb6⟩
    have H6 := Lib.hid hb6
    clear hb6
    go_wp2_with fail
    refine (RefText_of (n := 300) (ts := ts.take 300) (B := w3.heap.size) (r := str (joinSp (gTexts (ts.take 300)))) HL3.out.2 (by unfold maxLen; omega) ((HTT.out.drewN n5).below H6.out) rfl (by rw [str_size]; exact HL3.out.1)).mono ?_
    rintro e w7 ⟨rfl, rfl⟩
    go_wp2
    go_ret
    exact ⟨rfl, (below_drewN H13.out n5).trans (H6.out.mono (by show w.heap.size ≤ w3.heap.size; omega))⟩
  · have HTT : Hid (Toks w3 w3.heap.size A ts) := Lib.hid ((hT.out.below H13.out).more (by omega))
    have g1 : ¬ (300 : Int) < (len : Int) := by omega
    have HL3 := Lib.hid hL
    go_wp2_with fail
    refine (HSame.out _ _).mono ?_
    rintro e w5 ⟨rfl, n5, rfl⟩
    go_wp2_with fail
    refine (Text_of (n := len) (ts := ts) (r := str (joinSp (gTexts ts))) HLn.out (by unfold maxLen; omega) (HTT.out.drewN n5) rfl (by rw [str_size]; have := HL3.out; omega)).mono ?_
    rintro e w6 ⟨rfl, hb6⟩
    have H6 := Lib.hid hb6
    clear hb6
    go_wp2_with fail
    refine (RefText_of (n := len) (ts := ts) (B := w3.heap.size) (r := str (joinSp (gTexts ts))) HLn.out (by unfold maxLen; omega) ((HTT.out.drewN n5).below H6.out) rfl (by rw [str_size]; exact HL3.out)).mono ?_
    rintro e w7 ⟨rfl, rfl⟩
    go_wp2
    go_ret
    exact ⟨rfl, (below_drewN H13.out n5).trans (H6.out.mono (by show w.heap.size ≤ w3.heap.size; omega))⟩

end Go.Proofs.YtnklcoaafgaokaaDoor
