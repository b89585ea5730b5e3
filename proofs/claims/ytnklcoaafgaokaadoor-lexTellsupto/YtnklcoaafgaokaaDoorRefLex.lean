/-
  proofmarkref01.Lex, WALKED: it hands back the tokens that the mathematics says, in a row of its own.
-/
import Derived.Test.YtnklcoaafgaokaaDoorRefOne
import Derived.Test.YtnklcoaafgaokaaDoorMoved
namespace Go.Proofs.YtnklcoaafgaokaaDoor
open Go.RowKit

/-- one more token behind a box: the row is longer by it, and nothing older has turned -/
theorem app_done2 {w wr w3 : World} {v v' : Value} {ts : List LexM.Tk} {t : LexM.Tk} {o o2 : Obj} (hown : wr.ownsRow w.heap.size 33 4 v ts.length (rowOf ts)) (hbw : Below w.heap.size w wr)
    (hown' : w3.ownsRow w.heap.size 33 4 v' (ts.length + 1) (rowOf ts ++ tkCells t)) (hg : ((wr.alloc o).alloc o2).grownBy w3 v.ownBlock) :
    w3.ownsRow w.heap.size 33 4 v' (ts ++ [t]).length (rowOf (ts ++ [t])) ∧ Below w.heap.size w w3 := by
  have hbsz := hbw.size
  refine ⟨by rw [rowOf_snoc, List.length_append]; exact hown', ((hbw.alloc hbsz _).alloc (by simp; omega) _).grown hg (by simp; omega) (fun q hq => (hown.lt q hq).1)⟩
theorem own_em' (v : Value) : v.ownBlock = none ∨ v.ownBlock ≠ none := Classical.em _
theorem own_below {w w2 : World} {base n : Nat} {v : Value} {xs : List Value} (h : w.ownsRow base 33 4 v n xs) (hb : Below w.heap.size w w2) : w2.ownsRow base 33 4 v n xs :=
  h.kept (row := none) ⟨hb.os, hb.tape, hb.output, hb.size, fun i hi _ => hb.block i hi⟩ (own_em' _)

theorem sp_cases {c : UInt8} (h : LexM.isSp c = true) : ((c.toNat : Int) == 32) = true ∨ (((c.toNat : Int) == 32) = false ∧ ((c.toNat : Int) == 9) = true) ∨ (((c.toNat : Int) == 32) = false ∧ ((c.toNat : Int) == 9) = false ∧ ((c.toNat : Int) == 10) = true) := by
  rw [isSp_eq] at h
  cases h1 : ((c.toNat : Int) == 32) with
  | true => exact .inl rfl
  | false =>
    cases h2 : ((c.toNat : Int) == 9) with
    | true => exact .inr (.inl ⟨rfl, rfl⟩)
    | false => rw [h1, h2] at h; exact .inr (.inr ⟨rfl, rfl, by simpa using h⟩)
theorem sp_none {c : UInt8} (h : LexM.isSp c = false) : ((c.toNat : Int) == 32) = false ∧ ((c.toNat : Int) == 9) = false ∧ ((c.toNat : Int) == 10) = false := by
  rw [isSp_eq] at h
  simpa only [Bool.or_eq_false_iff, and_assoc] using h

/-- a box of the round's own, behind the append -/
theorem box_over {w w3 : World} {base n : Nat} {v x y z u : Value} {xs : List Value} {o2 : Obj} (h : w.ownsRow base 33 4 v n xs) (hg : ((w.alloc (.cells #[x, y, z, u] 33)).alloc o2).grownBy w3 v.ownBlock) :
    w3.cell? ⟨w.heap.size, 0, none⟩ = some x ∧ w3.cell? ⟨w.heap.size, 1, none⟩ = some y ∧ w3.cell? ⟨w.heap.size, 2, none⟩ = some z ∧ w3.cell? ⟨w.heap.size, 3, none⟩ = some u := by
  have hne : some w.heap.size ≠ v.ownBlock := fun e => by have := (h.lt _ e.symm).2; omega
  have hh : w3.heap[w.heap.size]? = some (.cells #[x, y, z, u] 33) := by
    rw [hg.block w.heap.size (by simp; omega) hne, Lib.alloc_old _ o2 w.heap.size (by simp)]
    exact heap_alloc_new w _
  refine ⟨?_, ?_, ?_, ?_⟩
  all_goals (rw [Lib.cell_of_heap hh]; rfl)

set_option maxRecDepth 100000 in
set_option maxHeartbeats 1000000 in
theorem RefLex_any (s : ByteArray) (w : World) (hs : s.size ≤ 20000) :
    Calls Tryd.prog 13 #[.string s] w (LexRet w (lexOut s.data.toList)) := by
  obtain ⟨i0, hi, hz0, hz1, hz2⟩ := info_parts info33
  have HI := Lib.hid (And.intro hi (And.intro hz0 (And.intro hz1 hz2)))
  clear hi hz0 hz1 hz2
  have hsl : s.data.toList.length ≤ 20000 := by rw [← Lib.size_eq]; exact hs
  have HSL := Lib.hid hsl
  clear hsl
  go_enter Tryd.func13, Tryd.ntmps13
  go_wp2
  go_loopg [5, 6] s.size (fun g v i wr => ∃ (k : Nat) (ts : List LexM.Tk), k + g = s.size ∧ ts.length ≤ k ∧ i = .int .i64 k ∧ wr.ownsRow w.heap.size 33 4 v ts.length (rowOf ts) ∧ Below w.heap.size w wr ∧ Hid (LexM.At s.data.toList ts k))
  case atStart => exact ⟨0, [], by omega, Nat.zero_le _, rfl, own_empty w, (Below.refl _ _).alloc (Nat.le_refl _) _, Lib.hid (LexM.At_start _)⟩
  case round =>
    obtain ⟨k, ts, hkg, hts, rfl, hown, hbw, H⟩ := hrel
    have HK := Lib.hid hkg
    clear hkg
    by_cases hlt : k < s.size
    · have hl : k < s.data.toList.length := by rw [← Lib.size_eq]; exact hlt
      have HOwn := Lib.hid (And.intro hown hbw)
      clear hown hbw
      by_cases h1 : LexM.isSp s[k] = true
      · have HS := Lib.hid (LexM.At_skip H.out hl (LexM.st_space hl h1))
        rcases sp_cases h1 with q1 | ⟨q1, q2⟩ | ⟨q1, q2, q3⟩
        all_goals
          go_wp2
          go_roundg (gk - 1)
          case measure => have := HK.out; omega
          case rel => exact ⟨k + 1, ts, by have := HK.out; omega, by omega, by go_num, HOwn.out.1, HOwn.out.2, HS⟩
      · have h1f : LexM.isSp s[k] = false := by simpa using h1
        clear h1
        obtain ⟨q1, q2, q3⟩ := sp_none h1f
        by_cases h2 : LexM.pre [47, 47] (s.data.toList.drop k) = true
        · have hle := LexM.endAt_le (p := LexM.notNl) (Nat.le_of_lt hl)
          have hst := LexM.st_remark hl h1f h2
          have hpos := (LexM.step_len' hl (by rw [hst]; simp)).1
          rw [hst] at hpos
          have HS := Lib.hid (LexM.At_skip H.out hl hst)
          rw [← Lib.size_eq] at hle
          have HP := Lib.hid h2
          clear h2 hst
          obtain ⟨m, hm⟩ : ∃ m, LexM.endAt LexM.notNl s.data.toList k = m := ⟨_, rfl⟩
          rw [hm] at hle hpos HS
          have HM := Lib.hid hm
          clear hm
          simp only at hpos
          go_wp2_with (go_at_call 29; refine (begins_at s ⟨#[47, 47]⟩ k true _ hs (by decide) (by omega) HP.out).mono ?_; rintro e w' ⟨rfl, rfl⟩)
          go_loopg [6] (s.size - k) (fun g2 i wy => ∃ j : Nat, j + g2 = s.size ∧ k ≤ j ∧ i = .int .i64 j ∧ Hid (LexM.endAt LexM.notNl s.data.toList j = m) ∧ wr = wy)
          case atStart => exact ⟨k, by omega, by omega, rfl, HM, rfl⟩
          case round =>
            obtain ⟨j, hjg, hkj, rfl, HJ, rfl⟩ := hrel
            have HG := Lib.hid hjg
            clear hjg
            by_cases hj : j < s.size
            · have hjl : j < s.data.toList.length := by rw [← Lib.size_eq]; exact hj
              by_cases hn : LexM.notNl s[j] = true
              · have HY := Lib.hid ((LexM.endAt_step hjl hn).trans HJ.out)
                have g1 : ((s[j].toNat : Int) != 10) = true := (notNl_eq _).symm.trans hn
                clear hn
                go_wp2
                go_roundg (s.size - (j + 1))
                case measure => have := HG.out; omega
                case rel => exact ⟨j + 1, by omega, by omega, by go_num, HY, rfl⟩
              · have hnf : LexM.notNl s[j] = false := by simpa using hn
                have hjm : j = m := (LexM.endAt_stop hjl hnf).symm.trans HJ.out
                have g1 : ((s[j].toNat : Int) != 10) = false := (notNl_eq _).symm.trans hnf
                have HJM := Lib.hid hjm
                clear hn hnf hjm
                go_wp2
                go_roundg (s.size - j)
                case measure => have := HK.out; have := HJM.out; omega
                case rel => exact ⟨j, ts, by omega, by omega, rfl, HOwn.out.1, HOwn.out.2, Lib.hid (by have := HS.out; rwa [show k + (m - k) = j from by have := HJM.out; omega] at this)⟩
            · have hjs : j ≤ s.size := by have := HG.out; omega
              have hjm : j = m := (LexM.endAt_end (by rw [← Lib.size_eq]; omega)).symm.trans HJ.out
              have HJM := Lib.hid hjm
              clear hjm
              go_wp2
              go_roundg (s.size - j)
              case measure => have := HK.out; have := HJM.out; omega
              case rel => exact ⟨j, ts, by omega, by omega, rfl, HOwn.out.1, HOwn.out.2, Lib.hid (by have := HS.out; rwa [show k + (m - k) = j from by have := HJM.out; omega] at this)⟩
        · have h2f : LexM.pre [47, 47] (s.data.toList.drop k) = false := by simpa using h2
          clear h2
          have c1 := fun W => one_any s k W hs hlt h1f h2f
          have HP := Lib.hid h2f
          clear h2f
          have hbsz := HOwn.out.2.size
          by_cases h4 : (LexM.step (s.data.toList.drop k)).1 = 4
          · have hst := LexM.step_bad h4
            have HB := Lib.hid (LexM.At_bad H.out hl hst)
            have C1 : Hid (∀ W, Calls Tryd.prog 30 #[.string s, .int .i64 (k : Int)] W (GotV W noTok)) := Lib.hid (fun W => by have := c1 W; rw [oneV_no hst] at this; exact this)
            clear c1 h4 hst
            go_wp2_with (first
              | (go_at_call 29; refine (begins_at s ⟨#[47, 47]⟩ k false _ hs (by decide) (by omega) HP.out).mono ?_; rintro e w' ⟨rfl, rfl⟩)
              | (go_at_call 30; refine (C1.out _).mono ?_; rintro e w2 ⟨rfl, hb2⟩; unfold noTok; have HB2 := Lib.hid hb2; clear hb2))
            go_ret3
            exact LexRet_bad HSL.out HB.out ((HOwn.out.2.trans (HB2.out.mono hbsz)).alloc (by have := HB2.out.size; omega) _)
          · have h0 := LexM.step_not0 hl h1f HP.out
            have hlen := LexM.step_len' hl h4
            have hlen2 : k + (LexM.step (s.data.toList.drop k)).2.1 ≤ s.size := by rw [Lib.size_eq]; exact hlen.2
            obtain ⟨kd, d, n, hst⟩ : ∃ kd d n, LexM.step (s.data.toList.drop k) = (kd, d, n) := ⟨_, _, _, rfl⟩
            rw [hst] at h4 h0 hlen hlen2
            simp only at h4 h0 hlen hlen2
            have HS := Lib.hid (LexM.At_tok H.out hl hst h0 h4)
            have htl : ((s.data.toList.drop k).take d).length = d := by rw [List.length_take, List.length_drop]; omega
            have C1 : Hid (∀ W, Calls Tryd.prog 30 #[.string s, .int .i64 (k : Int)] W (GotV W (tokV kd ((s.data.toList.drop k).take d) n k))) := Lib.hid (fun W => by have := c1 W; rw [oneV_tok hst h4] at this; exact this)
            clear c1 hst
            generalize (s.data.toList.drop k).take d = tx at HS htl C1
            have htz : (str tx).size = d := by rw [str_size]; exact htl
            obtain ⟨hl1, hl2⟩ := hlen
            clear htl hl2 h4 h0
            go_wp2_with (first
              | (go_at_call 29; refine (begins_at s ⟨#[47, 47]⟩ k false _ hs (by decide) (by omega) HP.out).mono ?_; rintro e w' ⟨rfl, rfl⟩)
              | (go_at_call 30; refine (C1.out _).mono ?_; rintro e w2 ⟨rfl, hb2⟩; unfold tokV; have HB2 := Lib.hid (And.intro (own_below HOwn.out.1 hb2) (HOwn.out.2.trans (hb2.mono hbsz))); have hz2 := hb2.size; clear hb2)
              | (at_builtin; refine wpList_append_own _ rfl _ _ 22 rfl w.heap.size 33 i0 (.agg #[.int .i64 0, .string ByteArray.empty, .int .i64 0, .int .i64 0]) 4 40 Tryd.underlying22 HI.out.1 HI.out.2.1 HI.out.2.2.1 HI.out.2.2.2 rfl (by decide) _ _ _ rfl ((HB2.out.1.alloc _).alloc _) ⟨w2.heap.size + 1, 0, none⟩ 1 1 [.int .i64 (kd : Int), .string (str tx), .int .i64 (n : Int), .int .i64 (k : Int)] rfl rfl (cell_four_new2 _ _ _ _ _ _ _) (fun x hx => by simp at hx; rcases hx with rfl | rfl | rfl | rfl <;> rfl) (by unfold maxLen; omega) (by omega) (by simp; omega) ?_; intro v' w3 hown' hgrow3 hnil3; obtain ⟨b0, b1, b2, b3⟩ := box_over HB2.out.1 hgrow3; have X := Lib.hid (app_done2 (t := ⟨kd, tx, n, k⟩) HB2.out.1 HB2.out.2 hown' hgrow3); clear hown' hgrow3 hnil3))
            go_roundg (s.size - (k + d))
            case measure => have := HK.out; omega
            case rel => exact ⟨k + d, ts ++ [⟨kd, tx, n, k⟩], by omega, by simp; omega, by go_num, X.out.1, X.out.2, HS⟩
    · have HE := Lib.hid (LexM.At_end H.out (by rw [← Lib.size_eq]; omega))
      go_wp2
      go_ret3
      exact LexRet_ok HSL.out HE.out hown hbw

end Go.Proofs.YtnklcoaafgaokaaDoor
