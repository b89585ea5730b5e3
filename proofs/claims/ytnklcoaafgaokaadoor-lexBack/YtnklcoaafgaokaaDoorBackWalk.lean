/-
  proofmarklaw01.LexBack, WALKED: true, of every text.
-/
import Derived.Test.YtnklcoaafgaokaaDoorAlike
import Derived.Test.YtnklcoaafgaokaaDoorErrorsWalk
namespace Go.Proofs.YtnklcoaafgaokaaDoor
open Go.RowKit
open LexM (joinSp)

theorem Alike_of {A A' : Option Addr} {c c' B n : Nat} {ts us : List GTk} {w : World} (h : ts.length = n) (hn : n ≤ maxLen) (hT : Toks w B A ts) (hT' : Toks w B A' us)
    (hE : ∀ (k : Nat) (t : GTk), ts[k]? = some t → ∃ p : Int, us[k]? = some (GTk.mk t.a t.s t.b p)) :
    Calls Tryd.prog 17 #[.slice A n c, .slice A' n c'] w fun e w' => e = .returned (.bool true) ∧ ∃ n, w' = w.drewN n := by
  subst h; exact Alike_yes A A' c c' B ts us w hn (Lib.hid hT) (Lib.hid hT') (Lib.hid hE)

theorem gTexts_map (ts : List LexM.Tk) : gTexts (ts.map gOf) = ts.map (·.text) := by
  unfold gTexts gOf
  rw [List.map_map]
  apply List.map_congr_left
  intro t _
  simp [str_data]
theorem alike_map {ts us : List LexM.Tk} (h : ∀ (k : Nat) (t : LexM.Tk), ts[k]? = some t → ∃ p : Nat, us[k]? = some (LexM.Tk.mk t.kind t.text t.n p)) :
    ∀ (k : Nat) (t : GTk), (ts.map gOf)[k]? = some t → ∃ p : Int, (us.map gOf)[k]? = some (GTk.mk t.a t.s t.b p) := by
  intro k t ht
  rw [List.getElem?_map] at ht
  obtain ⟨x, hx, rfl⟩ := Option.map_eq_some_iff.1 ht
  obtain ⟨p, hp⟩ := h k x hx
  exact ⟨p, by rw [List.getElem?_map, hp]; rfl⟩
theorem texts_map {ts us : List LexM.Tk} (hl : us.length = ts.length) (h : ∀ (k : Nat) (t : LexM.Tk), ts[k]? = some t → ∃ p : Nat, us[k]? = some (LexM.Tk.mk t.kind t.text t.n p)) : us.map (·.text) = ts.map (·.text) := by
  apply List.ext_getElem?
  intro k
  rw [List.getElem?_map, List.getElem?_map]
  cases hk : ts[k]? with
  | none =>
    have : us[k]? = none := by rw [List.getElem?_eq_none_iff] at hk ⊢; omega
    rw [this]
  | some t =>
    obtain ⟨p, hp⟩ := h k t hk
    rw [hp]; rfl

set_option maxRecDepth 100000 in
set_option maxHeartbeats 1000000 in
theorem back_walk (s : ByteArray) (w : World) (hs : s.size ≤ maxLen) (hsg : Hid (SgLaid w)) :
    Calls Tryd.prog 4 #[.string s] w fun e w' => e = .returned (.bool true) ∧ Below w.heap.size w w' := by
  go_enter Tryd.func4, Tryd.ntmps4
  go_wp2_with fail
  refine (head_any w hsg).mono ?_
  rintro e w1 ⟨rfl, hb1⟩
  have H1 := Lib.hid hb1
  clear hb1
  go_wp2_with fail
  refine (few_any s w1 hs).mono ?_
  rintro e w1' ⟨rfl, rfl⟩
  have hlen : (s.data.toList.take 2000).length ≤ 2000 := List.length_take_le _ _
  generalize s.data.toList.take 2000 = l at hlen
  have HS := Lib.hid (sg_below hsg.out H1.out)
  cases hx : LexM.lex l 0 with
  | mk ts err =>
  cases err with
  | some p =>
    have HX := Lib.hid hx
    clear hx
    go_wp2_with fail
    refine (Lex_l (len := 0) 10 p w1 (by omega) HS.out (lexOut_bad (by omega) HX.out) rfl rfl rfl).mono ?_
    rintro e w2 ⟨A2, c2, rfl, _, ht2, hb2⟩
    have H2 := Lib.hid (And.intro ht2 hb2)
    clear ht2 hb2
    go_wp2_with fail
    refine (Text_of (n := 0) (ts := []) (r := ⟨#[]⟩) rfl (by unfold maxLen; omega) H2.out.1 rfl (by decide)).mono ?_
    rintro e w3 ⟨rfl, hb3⟩
    have H3 := Lib.hid hb3
    clear hb3
    have s1 := H1.out.size
    have s2 := H2.out.2.size
    have s3 := H3.out.size
    go_wp2_with fail
    refine (Lex_is (s := ⟨#[]⟩) (len := 0) (ts := []) (n := 0) (i := 0) 0 0 w3 (by decide) (sg_below (sg_below HS.out H2.out.2) H3.out) (by kernel_rfl) rfl rfl rfl).mono ?_
    rintro e w4 ⟨A4, c4, rfl, _, _, hb4⟩
    have H4 := Lib.hid hb4
    clear hb4
    go_wp2
    go_ret
    exact ⟨rfl, ((H1.out.trans (H2.out.2.mono s1)).trans (H3.out.mono (by omega))).trans (H4.out.mono (by omega))⟩
  | none =>
    have hown := LexM.lex_own l.length l 0 (Nat.le_refl _)
    have hsp := LexM.lex_spaced l.length l 0 (Nat.le_refl _)
    have hct := LexM.lex_count l.length l 0 (Nat.le_refl _)
    rw [hx] at hown hsp hct
    simp only at hown hsp hct
    obtain ⟨us, e1, e2, e3⟩ := LexM.lex_back ts 0 hown
    have hjl := LexM.joinSp_le (ts.map (·.text))
    have HX := Lib.hid hx
    have HU := Lib.hid (And.intro e1 (And.intro e2 e3))
    clear hx hown e1 e2 e3
    go_wp2_with fail
    refine (Lex_l (len := ts.length) 0 0 w1 (by omega) HS.out (lexOut_ok (by omega) HX.out) rfl rfl rfl).mono ?_
    rintro e w2 ⟨A2, c2, rfl, _, ht2, hb2⟩
    have H2 := Lib.hid (And.intro ht2 hb2)
    clear ht2 hb2
    go_wp2_with fail
    refine (Text_of (n := ts.length) (ts := ts.map gOf) (r := str (joinSp (ts.map (·.text)))) (by simp) (by unfold maxLen; omega) H2.out.1 (by rw [gTexts_map]) (by rw [str_size]; omega)).mono ?_
    rintro e w3 ⟨rfl, hb3⟩
    have H3 := Lib.hid hb3
    clear hb3
    have s1 := H1.out.size
    have s2 := H2.out.2.size
    have s3 := H3.out.size
    go_wp2_with fail
    refine (Lex_l (len := ts.length) 0 0 w3 (by omega) (sg_below (sg_below HS.out H2.out.2) H3.out) (lexOut_ok (by omega) HU.out.1) HU.out.2.1 rfl rfl).mono ?_
    rintro e w4 ⟨A4, c4, rfl, _, ht4, hb4⟩
    have H4 := Lib.hid (And.intro ht4 hb4)
    clear ht4 hb4
    have s4 := H4.out.2.size
    have HT4 : Hid (Toks w4 w4.heap.size A2 (ts.map gOf)) := Lib.hid ((((H2.out.1.below H3.out).more s3).below H4.out.2).more s4)
    go_wp2_with fail
    refine (Alike_of (n := ts.length) (ts := ts.map gOf) (us := us.map gOf) (by simp) (by unfold maxLen; omega) HT4.out H4.out.1 (alike_map HU.out.2.2)).mono ?_
    rintro e w5 ⟨rfl, n5, rfl⟩
    go_wp2_with fail
    refine (Text_of (n := ts.length) (ts := us.map gOf) (r := str (joinSp (ts.map (·.text)))) (by simpa using HU.out.2.1) (by unfold maxLen; omega) (H4.out.1.drewN n5) (by rw [gTexts_map, texts_map HU.out.2.1 HU.out.2.2]) (by rw [str_size]; omega)).mono ?_
    rintro e w6 ⟨rfl, hb6⟩
    have H6 := Lib.hid hb6
    clear hb6
    go_wp2
    go_ret
    refine ⟨rfl, ?_⟩
    have h14 : Below w.heap.size w w4 := ((H1.out.trans (H2.out.2.mono s1)).trans (H3.out.mono (by omega))).trans (H4.out.2.mono (by omega))
    exact (below_drewN h14 n5).trans (H6.out.mono (by show w.heap.size ≤ w4.heap.size; omega))

end Go.Proofs.YtnklcoaafgaokaaDoor
