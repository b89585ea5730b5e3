/-
  proofmarklaw01.LexPlaces, WALKED: true, of every text.
-/
import Derived.Test.YtnklcoaafgaokaaDoorErrorsWalk
import Derived.Test.YtnklcoaafgaokaaDoorLexMore
import Derived.BigQuiet
import Derived.Deep.QuietTactic
namespace Go.Proofs.YtnklcoaafgaokaaDoor
open Go.RowKit

set_option maxHeartbeats 400000 in
theorem Letter_any (c : UInt8) (w : World) :
    Calls Tryd.prog 18 #[.int .u8 (c.toNat : Int)] w fun e w' => e = .returned (.bool (LexM.isLt c)) ∧ w = w' := by
  have H := Lib.hid (isLt_eq c)
  generalize LexM.isLt c = b at *
  generalize (c.toNat : Int) = x at *
  go_enter Tryd.func18, Tryd.ntmps18
  go_wp2
  all_goals go_ret
  all_goals (refine ⟨ret_bool ?_, rfl⟩; first | (rw [H.out]; done) | (rw [H.out, Bool.eq_iff_iff]; simp <;> omega))
set_option maxHeartbeats 400000 in
theorem Digit_any (c : UInt8) (w : World) :
    Calls Tryd.prog 19 #[.int .u8 (c.toNat : Int)] w fun e w' => e = .returned (.bool (LexM.isDg c)) ∧ w = w' := by
  have H := Lib.hid (isDg_eq c)
  generalize LexM.isDg c = b at *
  generalize (c.toNat : Int) = x at *
  go_enter Tryd.func19, Tryd.ntmps19
  go_wp2
  all_goals go_ret
  all_goals (refine ⟨ret_bool ?_, rfl⟩; first | (rw [H.out]; done) | (rw [H.out, Bool.eq_iff_iff]; simp <;> omega))

/-- the token at a place of a chain, and where the one ahead of it ends -/
theorem chain_at {L : List UInt8} : ∀ {ts : List LexM.Tk} {e k : Nat} {t : LexM.Tk}, LexM.Chain L e ts → ts[k]? = some t →
    (match k with | 0 => e | j + 1 => match ts[j]? with | some u => u.pos + u.text.length | none => 0) ≤ t.pos ∧ t.pos + t.text.length ≤ L.length ∧ (L.drop t.pos).take t.text.length = t.text ∧ LexM.Own t
  | [], e, k, t, _, h => by simp at h
  | u :: r, e, 0, t, hc, h => by
    simp at h; subst h
    exact ⟨hc.1, hc.2.1, hc.2.2.1, hc.2.2.2.1⟩
  | u :: r, e, k + 1, t, hc, h => by
    have ih := chain_at (ts := r) (k := k) (t := t) hc.2.2.2.2 (by simpa using h)
    refine ⟨?_, ih.2⟩
    cases k with
    | zero => simpa using ih.1
    | succ k => simpa using ih.1

/-- where the loop's 'end' stands -/
def endOf (ts : List LexM.Tk) : Nat → Nat
  | 0 => 0
  | j + 1 => match ts[j]? with | some u => u.pos + u.text.length | none => 0
theorem endOf_succ {ts : List LexM.Tk} {k : Nat} {t : LexM.Tk} (h : ts[k]? = some t) : endOf ts (k + 1) = t.pos + t.text.length := by simp [endOf, h]
theorem chain_end {L : List UInt8} {ts : List LexM.Tk} {k : Nat} {t : LexM.Tk} (hc : LexM.Chain L 0 ts) (h : ts[k]? = some t) :
    endOf ts k ≤ t.pos ∧ t.pos + t.text.length ≤ L.length ∧ (L.drop t.pos).take t.text.length = t.text ∧ LexM.Own t := by
  have := chain_at hc h
  cases k with
  | zero => exact this
  | succ k => exact this

theorem own_facts {t : LexM.Tk} (h : LexM.Own t) {hp : 0 < (str t.text).size} :
    ((LexM.isLt ((str t.text)[0]) = true ∧ LexM.isDg ((str t.text)[0]) = false ∧ (((t.kind : Int) == 1) = true) ∧ (((t.kind : Int) == 2) = false) ∧ (((t.kind : Int) != 2) = true) ∧ (((t.n : Int) != 0) = false)) ∨
     (LexM.isLt ((str t.text)[0]) = false ∧ LexM.isDg ((str t.text)[0]) = true ∧ (((t.kind : Int) == 1) = false) ∧ (((t.kind : Int) == 2) = true) ∧ (((t.kind : Int) != 2) = false)) ∨
     (LexM.isLt ((str t.text)[0]) = false ∧ LexM.isDg ((str t.text)[0]) = false ∧ (((t.kind : Int) == 1) = false) ∧ (((t.kind : Int) == 2) = false) ∧ (((t.kind : Int) != 2) = true) ∧ (((t.n : Int) != 0) = false))) ∧ t.n ≤ 65535 := by
  obtain ⟨c, r, hx, h1, h2, h3, h4⟩ := LexM.own_kind h
  have hc : (str t.text)[0] = c := by
    have e : (str t.text)[0]'hp = (str t.text).data.toList[0]'(by rw [← Lib.size_eq]; exact hp) := rfl
    rw [e]
    simp only [str_data, hx, List.getElem_cons_zero]
  rw [hc]
  refine ⟨?_, h4⟩
  by_cases k1 : t.kind = 1
  · left
    have n0 := h3 (by omega)
    rw [← h1, ← h2, k1, n0]
    simp
  · by_cases k2 : t.kind = 2
    · right; left
      rw [← h1, ← h2, k2]
      simp
    · right; right
      have n0 := h3 k2
      rw [← h1, ← h2, n0]
      simp [k1, k2]
      omega

set_option maxRecDepth 100000 in
set_option maxHeartbeats 1000000 in
theorem places_walk (s : ByteArray) (w : World) (hs : s.size ≤ maxLen) (hsg : Hid (SgLaid w)) :
    Calls Tryd.prog 5 #[.string s] w fun e w' => e = .returned (.bool true) ∧ Below w.heap.size w w' := by
  go_enter Tryd.func5, Tryd.ntmps5
  go_wp2_with fail
  refine (head_any w hsg).mono ?_
  rintro e w1 ⟨rfl, hb1⟩
  have H1 := Lib.hid hb1
  clear hb1
  go_wp2_with fail
  refine (few_any s w1 hs).mono ?_
  rintro e w1' ⟨rfl, rfl⟩
  have hlen : (s.data.toList.take 2000).length ≤ 2000 := List.length_take_le _ _
  generalize s.data.toList.take 2000 = l at hlen
  have HS := Lib.hid (sg_below hsg.out H1.out)
  cases hx : LexM.lex l 0 with
  | mk ts err =>
  cases err with
  | some p =>
    have HX := Lib.hid hx
    clear hx
    go_wp2_with fail
    refine (Lex_l (len := 0) 10 p w1 (by omega) HS.out (lexOut_bad (by omega) HX.out) rfl rfl rfl).mono ?_
    rintro e w2 ⟨A2, c2, rfl, _, ht2, hb2⟩
    have H2 := Lib.hid (And.intro ht2 hb2)
    clear ht2 hb2
    go_wp2
    go_loopg [8, 9] 0 (fun g en i wr => en = .int .i64 0 ∧ i = .int .i64 0 ∧ w2 = wr)
    case atStart => exact ⟨rfl, rfl, rfl⟩
    case round =>
      obtain ⟨rfl, rfl, rfl⟩ := hrel
      go_wp2
      go_ret
      exact ⟨rfl, H1.out.trans (H2.out.2.mono H1.out.size)⟩
  | none =>
    have hct := LexM.lex_count l.length l 0 (Nat.le_refl _)
    have hch := LexM.lex_chain l.length l 0 (Nat.le_refl _)
    rw [List.drop_zero, hx] at hch
    rw [hx] at hct
    simp only at hct hch
    have HX := Lib.hid hx
    have HCh := Lib.hid hch
    clear hx hch
    go_wp2_with fail
    refine (Lex_l (len := ts.length) 0 0 w1 (by omega) HS.out (lexOut_ok (by omega) HX.out) rfl rfl rfl).mono ?_
    rintro e w2 ⟨A2, c2, rfl, _, ht2, hb2⟩
    have H2 := Lib.hid (And.intro ht2 hb2)
    clear ht2 hb2
    go_wp2
    go_loopg [8, 9] ts.length (fun g en i wr => ∃ k : Nat, k + g = ts.length ∧ i = .int .i64 k ∧ en = .int .i64 (endOf ts k : Nat) ∧ Hid (Below w2.heap.size w2 wr))
    case atStart => exact ⟨0, by omega, rfl, rfl, Lib.hid (Below.refl _ _)⟩
    case round =>
      obtain ⟨k, hkg, rfl, rfl, HW⟩ := hrel
      have HK := Lib.hid hkg
      clear hkg
      by_cases hlt : k < ts.length
      · have hsome : ts[k]? = some ts[k] := List.getElem?_eq_getElem hlt
        generalize ts[k] = t at hsome
        obtain ⟨p1, p2, p3, p4⟩ := chain_end HCh.out hsome
        obtain ⟨b, off, rfl, hbl, c0, c1, c2, c3⟩ := (H2.out.1.below HW.out) k (gOf t) (by rw [List.getElem?_map, hsome]; rfl)
        simp only [gOf] at c0 c1 c2 c3
        have HE := Lib.hid (endOf_succ hsome)
        have HT := Lib.hid (And.intro p3 p4)
        clear hsome p3 p4
        generalize hend : endOf ts k = en at *
        have HEn := Lib.hid hend
        clear hend
        have hne : t.text ≠ [] := HT.out.2.1
        have hpos : 0 < t.text.length := List.length_pos_iff.2 hne
        have hem : (str t.text).toList.isEmpty = false := by rw [Lib.toList_data, str_data]; simpa using hne
        have hex : (str l).extract t.pos (t.pos + t.text.length) = str t.text := by rw [str_extract, str_data, Nat.add_sub_cancel_left, HT.out.1]
        have hsz1 : (str t.text).size = t.text.length := str_size _
        have hsz2 : (str l).size = l.length := str_size _
        clear hne
        have hp0 : 0 < (str t.text).size := by rw [hsz1]; exact hpos
        have hnb := (own_facts (hp := hp0) HT.out.2).2
        have hkd := (own_facts (hp := hp0) HT.out.2).1
        generalize hm : t.text.length = m at *
        have g1 : decide ((t.pos : Int) < (en : Int)) = false := by simp; omega
        have g2 : decide (t.pos < en) = false := by simp; omega
        have g3 : decide ((l.length : Int) - (m : Int) < (t.pos : Int)) = false := by simp; omega
        have g4 : (0 : Int) ≤ (t.pos : Int) := by omega
        have g5 : (t.pos : Int) ≤ (t.pos : Int) + (m : Int) := by omega
        have g6 : (t.pos : Int) + (m : Int) ≤ (l.length : Int) := by omega
        have g7 : decide ((t.n : Int) < 0) = false := by simp
        have g8 : decide ((65535 : Int) < (t.n : Int)) = false := by simp; omega
        have s1 := H1.out.size
        have s2 := H2.out.2.size
        have s3 := HW.out.size
        rcases hkd with ⟨q1, q2, q3, q4, q5, q6⟩ | ⟨q1, q2, q3, q4, q5⟩ | ⟨q1, q2, q3, q4, q5, q6⟩
        all_goals
          go_wp2
          go_quiet (fail)
          go_wp2_with (first
            | (go_at_call 18; refine (Letter_any _ _).mono ?_; rintro e w' ⟨rfl, rfl⟩)
            | (go_at_call 19; refine (Digit_any _ _).mono ?_; rintro e w' ⟨rfl, rfl⟩))
          go_roundg (gk - 1)
          case measure => have := HK.out; omega
          case rel => exact ⟨k + 1, by have := HK.out; omega, by go_num, by rw [HE.out]; go_num, Lib.hid (below_drewN (HW.out.alloc s3 _) _)⟩
      · go_wp2
        go_ret
        exact ⟨rfl, (H1.out.trans (H2.out.2.mono H1.out.size)).trans (HW.out.mono (by have := H1.out.size; have := H2.out.2.size; omega))⟩

end Go.Proofs.YtnklcoaafgaokaaDoor
