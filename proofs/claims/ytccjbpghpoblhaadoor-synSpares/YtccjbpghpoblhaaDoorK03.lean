/-
  lex.Lex, WALKED: it hands back the tokens that the mathematics says, in a row of its own.
-/
import Derived.Test.YtccjbpghpoblhaaDoorK02
import Derived.Outline
import Derived.WalkMore
import Derived.Deep.LoopGhost
namespace Go.Proofs.YtccjbpghpoblhaaDoor
open Go.RowKit

theorem lexOut_bad {l : List UInt8} {ts : List LexM.Tk} {k : Nat} (h : l.length ≤ 20000) (e : LexM.lex l 0 = (ts, some k)) : lexOut l = ([], 10, k) := by
  unfold lexOut; rw [if_neg (by omega), e]
theorem lexOut_ok {l : List UInt8} {ts : List LexM.Tk} (h : l.length ≤ 20000) (e : LexM.lex l 0 = (ts, none)) : lexOut l = (ts, 0, 0) := by
  unfold lexOut; rw [if_neg (by omega), e]
theorem LexRet_bad {w w' : World} {l : List UInt8} {ts : List LexM.Tk} {k : Nat} (h : l.length ≤ 20000) (e : LexM.lex l 0 = (ts, some k)) (hb : Below w.heap.size w w') :
    LexRet w (lexOut l) (.returned (.tuple #[.slice none 0 0, .int .i64 10, .int .i64 (k : Int)])) w' := by
  rw [lexOut_bad h e]
  exact ⟨_, rfl, World.ownsRow_nil _ _ _ _, hb⟩
theorem LexRet_ok {w w' : World} {l : List UInt8} {ts : List LexM.Tk} {v : Value} (h : l.length ≤ 20000) (e : LexM.lex l 0 = (ts, none)) (ho : w'.ownsRow w.heap.size 37 4 v ts.length (rowOf ts)) (hb : Below w.heap.size w w') :
    LexRet w (lexOut l) (.returned (.tuple #[v, .int .i64 0, .int .i64 0])) w' := by
  rw [lexOut_ok h e]
  exact ⟨v, rfl, ho, hb⟩

theorem extract_drop (s : ByteArray) (k : Nat) : (s.extract k s.size).data.toList = s.data.toList.drop k := by
  rw [Lib.extract_data, List.take_of_length_le]
  rw [List.length_drop, ← Lib.size_eq]; omega

/-- strings.HasPrefix of what stands from k on -/
theorem hasPrefix_at (s p : ByteArray) (k : Nat) (b : Bool) (w : World) (hs : s.size ≤ 20000) (hp : p.size ≤ 20000) (h : LexM.pre p.data.toList (s.data.toList.drop k) = b) :
    Calls Tryd.prog 24 #[.string (s.extract k s.size), .string p] w fun e w' => e = .returned (.bool b) ∧ w = w' := by
  have h2 := hasPrefix_any (s.extract k s.size) p w (by rw [Lib.size_eq, extract_drop, List.length_drop, ← Lib.size_eq]; unfold maxLen; omega) (by unfold maxLen; omega)
  rw [extract_drop, h] at h2
  exact h2

theorem slash_data : (⟨#[47, 47]⟩ : ByteArray).data.toList = [47, 47] := rfl
theorem text_at (s : ByteArray) (k m : Nat) : s.extract k m = str ((s.data.toList.drop k).take (m - k)) := str_extract s k m

theorem sg_below {w w' : World} (h : SgLaid w) (hb : Below w.heap.size w w') : SgLaid w' := by
  obtain ⟨ty, fr, h0⟩ := h
  have hlt : 0 < w.heap.size := by
    rcases Nat.lt_or_ge 0 w.heap.size with hlt | hge
    · exact hlt
    · rw [Array.getElem?_eq_none hge] at h0; cases h0
  exact ⟨ty, fr, (hb.block 0 hlt).trans h0⟩

theorem sgAt_len (j : Nat) (hj : j < 25) : 1 ≤ (sgAt j).length ∧ (sgAt j).length ≤ 2 := by
  have e : sgAt j = LexM.signs[j]'hj := by unfold sgAt; rw [List.getD_eq_getElem?_getD, List.getElem?_eq_getElem hj]; rfl
  rw [e]
  exact LexM.signs_len _ (List.getElem_mem _)

/-- one more token: the row is longer by it, and nothing older has turned -/
theorem app_done {w wr w3 : World} {v v' : Value} {ts : List LexM.Tk} {t : LexM.Tk} {o : Obj} (hown : wr.ownsRow w.heap.size 37 4 v ts.length (rowOf ts)) (hbw : Below w.heap.size w wr)
    (hown' : w3.ownsRow w.heap.size 37 4 v' (ts.length + 1) (rowOf ts ++ tkCells t)) (hg : (wr.alloc o).grownBy w3 v.ownBlock) :
    w3.ownsRow w.heap.size 37 4 v' (ts ++ [t]).length (rowOf (ts ++ [t])) ∧ Below w.heap.size w w3 := by
  have hbsz := hbw.size
  refine ⟨by rw [rowOf_snoc, List.length_append]; exact hown', (hbw.alloc hbsz _).grown hg (by simp; omega) (fun q hq => (hown.lt q hq).1)⟩

set_option maxRecDepth 100000 in
set_option maxHeartbeats 1000000 in
theorem Lex_any (s : ByteArray) (w : World) (hs : s.size ≤ 20000) (hsg : Hid (SgLaid w)) :
    Calls Tryd.prog 12 #[.string s] w (LexRet w (lexOut s.data.toList)) := by
  obtain ⟨i0, hi, hz0, hz1, hz2⟩ := info_parts info33
  have HI := Lib.hid (And.intro hi (And.intro hz0 (And.intro hz1 hz2)))
  clear hi hz0 hz1 hz2
  have hsl : s.data.toList.length ≤ 20000 := by rw [← Lib.size_eq]; exact hs
  have HSL := Lib.hid hsl
  clear hsl
  go_enter Tryd.func12, Tryd.ntmps12
  go_wp2
  go_step3
  go_wp2
  go_step3
  go_wp2
  go_loopg [5, 6] s.size (fun g v i wr => ∃ (k : Nat) (ts : List LexM.Tk), k + g = s.size ∧ ts.length ≤ k ∧ i = .int .i64 k ∧ wr.ownsRow w.heap.size 37 4 v ts.length (rowOf ts) ∧ Below w.heap.size w wr ∧ Hid (LexM.At s.data.toList ts k))
  case atStart => exact ⟨0, [], by omega, Nat.zero_le _, rfl, World.ownsRow_nil _ _ _ _, Below.refl _ _, Lib.hid (LexM.At_start _)⟩
  case round =>
    obtain ⟨k, ts, hkg, hts, rfl, hown, hbw, H⟩ := hrel
    have HK := Lib.hid hkg
    clear hkg
    by_cases hlt : k < s.size
    · have hl : k < s.data.toList.length := by rw [← Lib.size_eq]; exact hlt
      have HOwn := Lib.hid (And.intro hown hbw)
      clear hown hbw
      by_cases h1 : LexM.isSp s[k] = true
      · have HS := Lib.hid (LexM.At_skip H.out hl (LexM.st_space hl h1))
        go_wp2_with (go_at_call 23; refine (isSpace_any _ _).mono ?_; rintro e w' ⟨rfl, rfl⟩)
        go_roundg (gk - 1)
        case measure => have := HK.out; omega
        case rel => exact ⟨k + 1, ts, by have := HK.out; omega, by omega, by go_num, HOwn.out.1, HOwn.out.2, HS⟩
      · have h1f : LexM.isSp s[k] = false := by simpa using h1
        clear h1
        by_cases h2 : LexM.pre [47, 47] (s.data.toList.drop k) = true
        · have hle := LexM.endAt_le (p := LexM.notNl) (Nat.le_of_lt hl)
          have hst := LexM.st_remark hl h1f h2
          have hpos := (LexM.step_len' hl (by rw [hst]; simp)).1
          rw [hst] at hpos
          have HS := Lib.hid (LexM.At_skip H.out hl hst)
          rw [← Lib.size_eq] at hle
          have HP := Lib.hid h2
          clear h2 hst
          obtain ⟨m, hm⟩ : ∃ m, LexM.endAt LexM.notNl s.data.toList k = m := ⟨_, rfl⟩
          rw [hm] at hle hpos HS
          have cL : ∀ W, Calls Tryd.prog 25 #[.string s, .int .i64 (k : Int)] W fun e w' => e = .returned (.int .i64 (m : Nat)) ∧ W = w' := fun W => by
            rw [← hm]; exact lineEnd_any s k W (by unfold maxLen; omega) (by omega)
          have CL := Lib.hid cL
          clear cL hm
          simp only at hpos
          go_wp2_with (first
            | (go_at_call 23; refine (isSpace_any _ _).mono ?_; rintro e w' ⟨rfl, rfl⟩)
            | (go_at_call 24; refine (hasPrefix_at s ⟨#[47, 47]⟩ k true _ hs (by decide) HP.out).mono ?_; rintro e w' ⟨rfl, rfl⟩)
            | (go_at_call 25; refine (CL.out _).mono ?_; rintro e w' ⟨rfl, rfl⟩))
          go_roundg (s.size - m)
          case measure => have := HK.out; omega
          case rel => exact ⟨m, ts, by omega, by omega, rfl, HOwn.out.1, HOwn.out.2, Lib.hid (by have := HS.out; rwa [show k + (m - k) = m from by omega] at this)⟩
        · have h2f : LexM.pre [47, 47] (s.data.toList.drop k) = false := by simpa using h2
          clear h2
          have HP := Lib.hid h2f
          by_cases h3 : LexM.isLt s[k] = true
          · have hle := LexM.endAt_le (p := LexM.isWd) (Nat.le_of_lt hl)
            have hst := LexM.st_name hl h1f h2f h3
            have hpos := (LexM.step_len' hl (by rw [hst]; simp)).1
            rw [hst] at hpos
            have HS := Lib.hid (LexM.At_tok H.out hl hst (by decide) (by decide))
            rw [← Lib.size_eq] at hle
            clear h2f hst
            obtain ⟨m, hm⟩ : ∃ m, LexM.endAt LexM.isWd s.data.toList k = m := ⟨_, rfl⟩
            rw [hm] at hle hpos HS
            have cL : ∀ W, Calls Tryd.prog 27 #[.string s, .int .i64 (k : Int)] W fun e w' => e = .returned (.int .i64 (m : Nat)) ∧ W = w' := fun W => by
              rw [← hm]; exact nameEnd_any s k W (by unfold maxLen; omega) (by omega)
            have CL := Lib.hid cL
            clear cL hm
            simp only at hpos
            have hbsz := HOwn.out.2.size
            go_wp2_with (first
              | (go_at_call 23; refine (isSpace_any _ _).mono ?_; rintro e w' ⟨rfl, rfl⟩)
              | (go_at_call 24; refine (hasPrefix_at s ⟨#[47, 47]⟩ k false _ hs (by decide) HP.out).mono ?_; rintro e w' ⟨rfl, rfl⟩)
              | (go_at_call 26; refine (isLetter_any _ _).mono ?_; rintro e w' ⟨rfl, rfl⟩)
              | (go_at_call 27; refine (CL.out _).mono ?_; rintro e w' ⟨rfl, rfl⟩)
              | (at_builtin; refine wpList_append_own _ rfl _ _ 30 rfl w.heap.size 37 i0 (.agg #[.int .i64 0, .string ByteArray.empty, .int .i64 0, .int .i64 0]) 4 40 Tryd.underlying30 HI.out.1 HI.out.2.1 HI.out.2.2.1 HI.out.2.2.2 rfl (by decide) _ _ _ rfl (HOwn.out.1.alloc _) ⟨wr.heap.size, 0, none⟩ 1 1 [.int .i64 1, .string (s.extract k m), .int .i64 0, .int .i64 (k : Int)] rfl rfl (cell_four_new _ _ _ _ _ _) (fun x hx => by simp at hx; rcases hx with rfl | rfl | rfl | rfl <;> rfl) (by unfold maxLen; omega) (by omega) (by simp; omega) ?_; intro v' w3 hown' hgrow3 hnil3; have X := Lib.hid (app_done (t := ⟨1, (s.data.toList.drop k).take (m - k), 0, k⟩) HOwn.out.1 HOwn.out.2 (by rw [text_at] at hown'; exact hown') hgrow3); clear hown' hgrow3 hnil3))
            go_roundg (s.size - m)
            case measure => have := HK.out; omega
            case rel => exact ⟨m, ts ++ [⟨1, (s.data.toList.drop k).take (m - k), 0, k⟩], by omega, by simp; omega, rfl, X.out.1, X.out.2, Lib.hid (by have := HS.out; rwa [show k + (m - k) = m from by omega] at this)⟩
          · have h3f : LexM.isLt s[k] = false := by simpa using h3
            clear h3
            by_cases h4 : LexM.isDg s[k] = true
            · have hle := LexM.endAt_le (p := LexM.isDg) (Nat.le_of_lt hl)
              have hall := LexM.all_digits (l := s.data.toList) (k := k)
              have hstS := fun n => LexM.st_num hl h1f h2f h3f h4 (n := n)
              have hstN := LexM.st_numbad hl h1f h2f h3f h4
              have hlen := fun n hn => (LexM.step_len' hl (by rw [hstS n hn]; simp)).1
              have cL : ∀ W, Calls Tryd.prog 29 #[.string s, .int .i64 (k : Int)] W fun e w' => e = .returned (.int .i64 (LexM.endAt LexM.isDg s.data.toList k : Nat)) ∧ W = w' := fun W => digitsEnd_any s k W (by unfold maxLen; omega) (by omega)
              rw [← Lib.size_eq] at hle
              generalize LexM.endAt LexM.isDg s.data.toList k = m at hle hall hstS hstN hlen cL
              have cN : ∀ W, Calls Tryd.prog 30 #[.string (s.extract k m)] W fun e w' => e = numEnd (LexM.num ((s.data.toList.drop k).take (m - k))) ∧ W = w' := fun W => by
                have h := number_any (s.extract k m) W (by rw [text_at, str_size, List.length_take, List.length_drop, ← Lib.size_eq]; unfold maxLen; omega) (Lib.hid (by rw [text_at, str_data]; exact hall))
                rw [text_at, str_data] at h
                rw [text_at]; exact h
              have CL := Lib.hid cL
              clear cL hall
              have hbsz := HOwn.out.2.size
              cases hnum : LexM.num ((s.data.toList.drop k).take (m - k)) with
              | none =>
                have HB := Lib.hid (LexM.At_bad H.out hl (hstN hnum))
                rw [hnum] at cN
                have CN : Hid (∀ W, Calls Tryd.prog 30 #[.string (s.extract k m)] W fun e w' => e = .returned (.tuple #[.int .i64 0, .bool false]) ∧ W = w') := Lib.hid cN
                clear cN hnum hstS hstN hlen h2f
                go_wp2_with (first
                  | (go_at_call 23; refine (isSpace_any _ _).mono ?_; rintro e w' ⟨rfl, rfl⟩)
                  | (go_at_call 24; refine (hasPrefix_at s ⟨#[47, 47]⟩ k false _ hs (by decide) HP.out).mono ?_; rintro e w' ⟨rfl, rfl⟩)
                  | (go_at_call 26; refine (isLetter_any _ _).mono ?_; rintro e w' ⟨rfl, rfl⟩)
                  | (go_at_call 28; refine (isDigit_any _ _).mono ?_; rintro e w' ⟨rfl, rfl⟩)
                  | (go_at_call 29; refine (CL.out _).mono ?_; rintro e w' ⟨rfl, rfl⟩)
                  | (go_at_call 30; refine (CN.out _).mono ?_; rintro e w' ⟨rfl, rfl⟩))
                try rw [Exit.noGoto_ret]
                go_ret3
                exact LexRet_bad HSL.out HB.out HOwn.out.2
              | some n =>
                have hst := hstS n hnum
                have hpos := hlen n hnum
                rw [hst] at hpos
                have HS := Lib.hid (LexM.At_tok H.out hl hst (by decide) (by decide))
                rw [hnum] at cN
                have CN : Hid (∀ W, Calls Tryd.prog 30 #[.string (s.extract k m)] W fun e w' => e = .returned (.tuple #[.int .i64 (n : Nat), .bool true]) ∧ W = w') := Lib.hid cN
                clear cN hnum hstS hstN hlen h2f hst
                simp only at hpos
                go_wp2_with (first
                  | (go_at_call 23; refine (isSpace_any _ _).mono ?_; rintro e w' ⟨rfl, rfl⟩)
                  | (go_at_call 24; refine (hasPrefix_at s ⟨#[47, 47]⟩ k false _ hs (by decide) HP.out).mono ?_; rintro e w' ⟨rfl, rfl⟩)
                  | (go_at_call 26; refine (isLetter_any _ _).mono ?_; rintro e w' ⟨rfl, rfl⟩)
                  | (go_at_call 28; refine (isDigit_any _ _).mono ?_; rintro e w' ⟨rfl, rfl⟩)
                  | (go_at_call 29; refine (CL.out _).mono ?_; rintro e w' ⟨rfl, rfl⟩)
                  | (go_at_call 30; refine (CN.out _).mono ?_; rintro e w' ⟨rfl, rfl⟩)
                  | (at_builtin; refine wpList_append_own _ rfl _ _ 30 rfl w.heap.size 37 i0 (.agg #[.int .i64 0, .string ByteArray.empty, .int .i64 0, .int .i64 0]) 4 40 Tryd.underlying30 HI.out.1 HI.out.2.1 HI.out.2.2.1 HI.out.2.2.2 rfl (by decide) _ _ _ rfl (HOwn.out.1.alloc _) ⟨wr.heap.size, 0, none⟩ 1 1 [.int .i64 2, .string (s.extract k m), .int .i64 (n : Int), .int .i64 (k : Int)] rfl rfl (cell_four_new _ _ _ _ _ _) (fun x hx => by simp at hx; rcases hx with rfl | rfl | rfl | rfl <;> rfl) (by unfold maxLen; omega) (by omega) (by simp; omega) ?_; intro v' w3 hown' hgrow3 hnil3; have X := Lib.hid (app_done (t := ⟨2, (s.data.toList.drop k).take (m - k), n, k⟩) HOwn.out.1 HOwn.out.2 (by rw [text_at] at hown'; exact hown') hgrow3); clear hown' hgrow3 hnil3))
                go_roundg (s.size - m)
                case measure => have := HK.out; omega
                case rel => exact ⟨m, ts ++ [⟨2, (s.data.toList.drop k).take (m - k), n, k⟩], by omega, by simp; omega, rfl, X.out.1, X.out.2, Lib.hid (by have := HS.out; rwa [show k + (m - k) = m from by omega] at this)⟩
            · have h4f : LexM.isDg s[k] = false := by simpa using h4
              clear h4
              have hstS := fun t => LexM.st_sign hl h1f h2f h3f h4f (t := t)
              have hstN := LexM.st_none hl h1f h2f h3f h4f
              have HSt := Lib.hid (And.intro hstS hstN)
              clear hstS hstN h2f
              have hbsz := HOwn.out.2.size
              obtain ⟨ty, fr, hg0⟩ := sg_below hsg.out HOwn.out.2
              have HG := Lib.hid hg0
              clear hg0
              go_wp2_with (first
                | (go_at_call 23; refine (isSpace_any _ _).mono ?_; rintro e w' ⟨rfl, rfl⟩)
                | (go_at_call 24; refine (hasPrefix_at s ⟨#[47, 47]⟩ k false _ hs (by decide) HP.out).mono ?_; rintro e w' ⟨rfl, rfl⟩)
                | (go_at_call 26; refine (isLetter_any _ _).mono ?_; rintro e w' ⟨rfl, rfl⟩)
                | (go_at_call 28; refine (isDigit_any _ _).mono ?_; rintro e w' ⟨rfl, rfl⟩)
                | (refine wpList_load_row rfl 74 _ rfl 0 rfl ty sgArr fr _ HG.out Tryd.underlying74 rfl (by kernel_rfl) ?_))
              go_loopg [5, 6, 82] 25 (fun g2 s5 s6 s82 wy => ∃ j : Nat, j + g2 = 25 ∧ s82 = .int .i64 j ∧ s5 = u5 ∧ s6 = .int .i64 k ∧ Hid (LexM.signs.find? (fun t => LexM.pre t (s.data.toList.drop k)) = (LexM.signs.drop j).find? (fun t => LexM.pre t (s.data.toList.drop k))) ∧ wr = wy)
              case atStart => exact ⟨0, by omega, rfl, rfl, rfl, Lib.hid rfl, rfl⟩
              case round =>
                obtain ⟨j, hjg, rfl, rfl, rfl, HF, rfl⟩ := hrel
                have HJ := Lib.hid hjg
                by_cases hj : j < 25
                · have hix := sg_index j hj
                  have hsl := sgAt_len j hj
                  by_cases h5 : LexM.pre (sgAt j) (s.data.toList.drop k) = true
                  · have hfound : LexM.signs.find? (fun t => LexM.pre t (s.data.toList.drop k)) = some (sgAt j) := HF.out.trans (LexM.find_here (q := fun t => LexM.pre t (s.data.toList.drop k)) hj h5)
                    have hst := HSt.out.1 _ hfound
                    have hin := (LexM.step_len' hl (by rw [hst]; simp)).2
                    rw [hst, ← Lib.size_eq] at hin
                    have hat := LexM.At_tok H.out hl hst (by decide) (by decide)
                    rw [LexM.pre_take h5] at hat
                    have HS : Hid (LexM.At s.data.toList (ts ++ [⟨3, sgAt j, 0, k⟩]) (k + (sgAt j).length)) := Lib.hid hat
                    have H5 := Lib.hid h5
                    clear hfound hst hat h5 hjg
                    have hin2 : k + (sgAt j).length ≤ s.size := hin
                    clear hin
                    have hsz : (str (sgAt j)).size = (sgAt j).length := str_size _
                    go_wp2_with (first
                      | (go_at_call 24; refine (hasPrefix_at s (str (sgAt j)) k true _ hs (by rw [str_size]; omega) (by rw [str_data]; exact H5.out)).mono ?_; rintro e w' ⟨rfl, rfl⟩)
                      | (at_builtin; refine wpList_append_own _ rfl _ _ 30 rfl w.heap.size 37 i0 (.agg #[.int .i64 0, .string ByteArray.empty, .int .i64 0, .int .i64 0]) 4 40 Tryd.underlying30 HI.out.1 HI.out.2.1 HI.out.2.2.1 HI.out.2.2.2 rfl (by decide) _ _ _ rfl (HOwn.out.1.alloc _) ⟨wr.heap.size, 0, none⟩ 1 1 [.int .i64 3, .string (str (sgAt j)), .int .i64 0, .int .i64 (k : Int)] rfl rfl (cell_four_new _ _ _ _ _ _) (fun x hx => by simp at hx; rcases hx with rfl | rfl | rfl | rfl <;> rfl) (by unfold maxLen; omega) (by omega) (by simp; omega) ?_; intro v' w3 hown' hgrow3 hnil3; have X := Lib.hid (app_done (t := ⟨3, sgAt j, 0, k⟩) HOwn.out.1 HOwn.out.2 hown' hgrow3); clear hown' hgrow3 hnil3))
                    go_roundg (s.size - (k + (sgAt j).length))
                    case measure => have := HK.out; omega
                    case rel => exact ⟨k + (sgAt j).length, ts ++ [⟨3, sgAt j, 0, k⟩], by omega, by simp; omega, by go_num, X.out.1, X.out.2, HS⟩
                  · have h5f : LexM.pre (sgAt j) (s.data.toList.drop k) = false := by simpa using h5
                    have HF2 := Lib.hid (HF.out.trans (LexM.find_drop (q := fun t => LexM.pre t (s.data.toList.drop k)) hj h5f))
                    have H5 := Lib.hid h5f
                    clear h5 h5f hjg
                    go_wp2_with (go_at_call 24; refine (hasPrefix_at s (str (sgAt j)) k false _ hs (by rw [str_size]; omega) (by rw [str_data]; exact H5.out)).mono ?_; rintro e w' ⟨rfl, rfl⟩)
                    go_roundg (24 - j)
                    case measure => have := HJ.out; omega
                    case rel => exact ⟨j + 1, by omega, by go_num, rfl, rfl, HF2, rfl⟩
                · have HB := Lib.hid (LexM.At_bad H.out hl (HSt.out.2 (HF.out.trans (by rw [show j = 25 from by omega]; rfl))))
                  clear hjg
                  go_wp2
                  try rw [Exit.noGoto_ret]
                  go_ret3
                  exact LexRet_bad HSL.out HB.out HOwn.out.2
    · have HE := Lib.hid (LexM.At_end H.out (by rw [← Lib.size_eq]; omega))
      go_wp2
      try rw [Exit.noGoto_ret]
      go_ret3
      exact LexRet_ok HSL.out HE.out hown hbw

end Go.Proofs.YtccjbpghpoblhaaDoor

