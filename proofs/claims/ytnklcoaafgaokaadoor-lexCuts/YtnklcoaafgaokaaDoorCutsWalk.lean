/-
  proofmarklaw01.LexCuts, WALKED: true, of every text and number.
-/
import Derived.Test.YtnklcoaafgaokaaDoorMoved
import Derived.BigQuiet
import Derived.Deep.QuietTactic
import Derived.Deep.RegionHeld3
namespace Go.Proofs.YtnklcoaafgaokaaDoor
open Go.RowKit

/-- what is cut off at token k, and what begins with it -/
theorem cut_outs {l : List UInt8} {ts : List LexM.Tk} {k : Nat} {t : LexM.Tk} (hl : l.length ≤ 2000) (hx : LexM.lex l 0 = (ts, none)) (hk : ts[k]? = some t) :
    t.pos < l.length ∧ lexOut (l.take t.pos) = (ts.take k, 0, 0) ∧ ∃ us, lexOut (l.drop t.pos) = (us, 0, 0) ∧ us.map (LexM.mv t.pos) = ts.drop k ∧ us.length ≤ 2000 ∧ ∀ u ∈ us, u.pos ≤ 20000 := by
  obtain ⟨_, b, c, d⟩ := LexM.lex_cut l.length l 0 ts none k t (Nat.le_refl _) hx hk
  rw [Nat.sub_zero] at b c d
  refine ⟨b, lexOut_ok (by rw [List.length_take]; omega) c, ?_⟩
  have hsh := LexM.lex_shift (l.drop t.pos).length (l.drop t.pos) 0 t.pos (Nat.le_refl _)
  rw [Nat.zero_add, d] at hsh
  cases hu : LexM.lex (l.drop t.pos) 0 with
  | mk us err =>
    rw [hu] at hsh
    simp only [Prod.mk.injEq] at hsh
    cases err with
    | some p => simp at hsh
    | none =>
      have hct := LexM.lex_count _ (l.drop t.pos) 0 (Nat.le_refl _)
      rw [hu, List.length_drop] at hct
      simp only at hct
      refine ⟨us, lexOut_ok (by rw [List.length_drop]; omega) hu, hsh.1.symm, by omega, ?_⟩
      have hch := LexM.lex_chain _ (l.drop t.pos) 0 (Nat.le_refl _)
      rw [List.drop_zero, hu] at hch
      intro u hm
      obtain ⟨j, hj⟩ := List.getElem?_of_mem hm
      obtain ⟨_, _, _, _⟩ := LexM.lex_cut _ (l.drop t.pos) 0 us none j u (Nat.le_refl _) hu hj
      rw [List.length_drop] at *
      omega

theorem toks_take {w : World} {B : Nat} {A : Option Addr} {ts : List LexM.Tk} (h : Toks w B A (ts.map gOf)) (k : Nat) : Toks w B A ((ts.take k).map gOf) := by
  intro i t ht
  refine h i t ?_
  rw [List.getElem?_map] at ht ⊢
  rw [List.getElem?_take] at ht
  split at ht
  · exact ht
  · simp at ht
theorem toks_drop {w : World} {B b off : Nat} {ts : List LexM.Tk} (h : Toks w B (some ⟨b, off, none⟩) (ts.map gOf)) (k : Nat) : Toks w B (some ⟨b, off + k * 4, none⟩) ((ts.drop k).map gOf) := by
  intro i t ht
  rw [List.getElem?_map, List.getElem?_drop] at ht
  obtain ⟨b', off', e, hb, c0, c1, c2, c3⟩ := h (k + i) t (by rw [List.getElem?_map]; exact ht)
  cases e
  refine ⟨b, off + k * 4, rfl, hb, ?_⟩
  have ea : off + k * 4 + i * 4 = off + (k + i) * 4 := by omega
  rw [ea]
  exact ⟨c0, c1, c2, c3⟩

set_option maxRecDepth 100000 in
set_option maxHeartbeats 1000000 in
theorem cuts_walk (s : ByteArray) (n : Int) (w : World) (hs : s.size ≤ maxLen) (hsg : Hid (SgLaid w)) :
    Calls Tryd.prog 6 #[.string s, .int .i64 n] w fun e w' => e = .returned (.bool true) ∧ Below w.heap.size w w' := by
  go_enter Tryd.func6, Tryd.ntmps6
  go_wp2_with fail
  refine (head_any w hsg).mono ?_
  rintro e w1 ⟨rfl, hb1⟩
  have H1 := Lib.hid hb1
  clear hb1
  go_wp2_with fail
  refine (few_any s w1 hs).mono ?_
  rintro e w1' ⟨rfl, rfl⟩
  have hlen : (s.data.toList.take 2000).length ≤ 2000 := List.length_take_le _ _
  generalize s.data.toList.take 2000 = l at hlen
  have HS := Lib.hid (sg_below hsg.out H1.out)
  cases hx : LexM.lex l 0 with
  | mk ts err =>
  cases err with
  | some p =>
    have HX := Lib.hid hx
    clear hx
    go_wp2_with fail
    refine (Lex_l (len := 0) 10 p w1 (by omega) HS.out (lexOut_bad (by omega) HX.out) rfl rfl rfl).mono ?_
    rintro e w2 ⟨A2, c2, rfl, _, ht2, hb2⟩
    have H2 := Lib.hid (And.intro ht2 hb2)
    clear ht2 hb2
    go_wp2
    go_ret
    exact ⟨rfl, H1.out.trans (H2.out.2.mono H1.out.size)⟩
  | none =>
    have hct := LexM.lex_count l.length l 0 (Nat.le_refl _)
    rw [hx] at hct
    simp only at hct
    have HX := Lib.hid hx
    clear hx
    go_wp2_with fail
    refine (Lex_l (len := ts.length) 0 0 w1 (by omega) HS.out (lexOut_ok (by omega) HX.out) rfl rfl rfl).mono ?_
    rintro e w2 ⟨A2, cp, rfl, ⟨_, hcp, hcm, _⟩, ht2, hb2⟩
    have H2 := Lib.hid (And.intro ht2 hb2)
    clear ht2 hb2
    unfold maxLen at hcm
    by_cases hn : n < 0
    · go_wp2
      go_ret
      exact ⟨rfl, H1.out.trans (H2.out.2.mono H1.out.size)⟩
    · by_cases hn2 : (ts.length : Int) ≤ n
      · have hnn : decide (n < 0) = false := by simpa using hn
        go_wp2
        go_ret
        exact ⟨rfl, H1.out.trans (H2.out.2.mono H1.out.size)⟩
      · obtain ⟨k, rfl⟩ : ∃ k : Nat, n = k := ⟨n.toNat, by omega⟩
        have hlt : k < ts.length := by omega
        clear hn hn2
        have hsome : ts[k]? = some ts[k] := List.getElem?_eq_getElem hlt
        generalize ts[k] = t at hsome
        obtain ⟨q1, q2, us, q3, q4, q5, q6⟩ := cut_outs hlen HX.out hsome
        obtain ⟨b, off, rfl, hbl, c0, c1, c2, c3⟩ := H2.out.1 k (gOf t) (by rw [List.getElem?_map, hsome]; rfl)
        simp only [gOf] at c0 c1 c2 c3
        have hul : us.length = ts.length - k := by rw [← List.length_drop, ← q4, List.length_map]
        have HUL := Lib.hid hul
        clear hul
        have HQ := Lib.hid (And.intro q2 (And.intro q3 (And.intro q4 q6)))
        clear hsome q2 q3 q4 q6
        have s1 := H1.out.size
        have s2 := H2.out.2.size
        have g1 : ¬ ((ts.length : Int) ≤ (k : Int)) := by omega
        have g2 : ¬ ((l.length : Int) < (t.pos : Int)) := by omega
        have hsl : (str l).size = l.length := str_size l
        go_wp2_with fail
        refine (Lex_is (s := (str l).extract 0 t.pos) (len := k) 0 0 w2 (by rw [str_take, str_size, List.length_take]; omega) (sg_below HS.out H2.out.2) (by rw [str_take, str_data]; exact HQ.out.1) (by rw [List.length_take]; omega) rfl rfl).mono ?_
        rintro e w3 ⟨A3, c3', rfl, _, ht3, hb3⟩
        have H3 := Lib.hid (And.intro ht3 hb3)
        clear ht3 hb3
        have s3 := H3.out.2.size
        go_wp2_with fail
        refine (Lex_is (s := (str l).extract t.pos (str l).size) (len := ts.length - k) 0 0 w3 (by rw [str_drop, str_size, List.length_drop]; omega) (sg_below (sg_below HS.out H2.out.2) H3.out.2) (by rw [str_drop, str_data]; exact HQ.out.2.1) HUL.out rfl rfl).mono ?_
        rintro e w4 ⟨A4, c4', rfl, _, ht4, hb4⟩
        have H4 := Lib.hid (And.intro ht4 hb4)
        clear ht4 hb4
        have s4 := H4.out.2.size
        have hck : (cp = k) = False := by simp; omega
        have g3 : (0 : Int) ≤ (k : Int) := by omega
        have g4 : (k : Int) ≤ (ts.length : Int) := by omega
        have g5 : (k : Int) ≤ (cp : Int) := by omega
        have hT2 : Toks w4 w4.heap.size (some ⟨b, off, none⟩) (ts.map gOf) := (((H2.out.1.below H3.out.2).more s3).below H4.out.2).more s4
        have HT2 := Lib.hid hT2
        have hT3 : Toks w4 w4.heap.size A3 ((ts.take k).map gOf) := (H3.out.1.below H4.out.2).more s4
        have HT3 := Lib.hid hT3
        clear hT2 hT3
        go_wp2_with fail
        go_region_held3 (fun w' => Below w4.heap.size w4 w') (first | exact (Below.refl _ _).drew | exact below_drewN (Below.refl _ _) _ | assumption | exact below_drewN (by assumption) _)
          (first
            | (go_at_call_of 14 A3; refine (Same_of (n := k) (ts := (ts.take k).map gOf) (B := w4.heap.size) (by rw [List.length_map, List.length_take]; omega) (by unfold maxLen; omega) (by exact HT3.out.below (by assumption)) (by exact toks_take (HT2.out.below (by assumption)) k)).mono ?_; rintro e w5 ⟨rfl, n5, rfl⟩)
            | (go_at_call 20; refine (Moved_of (n := ts.length - k) (d := t.pos) HUL.out rfl HQ.out.2.2.1 (by omega) (by omega) HQ.out.2.2.2 (by exact H4.out.1)).mono ?_; rintro e w6 ⟨A6, c6, rfl, hc6, ht6, hb6⟩; have hS6 : Below w4.heap.size w4 w6 := ((below_drewN (Below.refl w4.heap.size w4) _).trans hb6); have H6 := Lib.hid (And.intro ht6 hb6.size); clear ht6 hb6 hc6)
            | (go_at_call_of 14 A6; refine (Same_of (n := ts.length - k) (ts := (ts.drop k).map gOf) (B := w6.heap.size) (by rw [List.length_map, List.length_drop]) (by unfold maxLen; omega) (by exact H6.out.1) (by exact (toks_drop (HT2.out.below hS6) k).more H6.out.2)).mono ?_; rintro e w7 ⟨rfl, n7, rfl⟩))
        go_wp2
        go_ret
        have h14 : Below w.heap.size w w4 := ((H1.out.trans (H2.out.2.mono s1)).trans (H3.out.2.mono (by omega))).trans (H4.out.2.mono (by omega))
        exact ⟨rfl, below_drewN (h14.trans (hS6.mono (by omega))) _⟩

end Go.Proofs.YtnklcoaafgaokaaDoor
