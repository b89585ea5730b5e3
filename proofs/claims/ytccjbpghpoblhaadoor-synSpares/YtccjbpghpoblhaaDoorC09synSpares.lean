/-
  SynSpares, WALKED: true of every text and every number.
-/
import Derived.Test.YtccjbpghpoblhaaDoorC06synSpares
import Derived.Test.YtccjbpghpoblhaaDoorC07synSpares
import Derived.Test.YtccjbpghpoblhaaDoorC08synSpares
import Derived.StillTailTactics
import Derived.Deep.CutBlock
import Derived.IntWalk
namespace Go.Proofs.YtccjbpghpoblhaaDoor
open Go.RowKit

/-- none yet, or the place of a word that begins an item -/
def AtOk (ts : List LexM.Tk) (A : Int) : Prop := A = -1 ∨ ∃ (j : Nat) (t : LexM.Tk), A = j ∧ ts[j]? = some t ∧ t.text ∈ begW
theorem gr_cell {w w' : World} {g o : Nat} {v : Value} (hg : Gr w w') (hl : g < w.heap.size) (h : w.cell? ⟨g, o, none⟩ = some v) : w'.cell? ⟨g, o, none⟩ = some v := (World.cell?_of_block (a := ⟨g, o, none⟩) (hg.block g hl (by simp))).trans h
/-- a token's text, and its place -/
theorem tok_two {w : World} {base n c : Nat} {A : Option Addr} {ts : List LexM.Tk} (h : w.ownsRow base 37 4 (.slice A n c) ts.length (rowOf ts)) {k : Nat} {t : LexM.Tk} (ht : ts[k]? = some t) : ∃ g, A = some ⟨g, 0, none⟩ ∧ g < w.heap.size ∧ w.cell? ⟨g, k * 4 + 1, none⟩ = some (.string (str t.text)) ∧ w.cell? ⟨g, k * 4 + 3, none⟩ = some (.int .i64 (t.pos : Nat)) := by
  obtain ⟨g, cap, hv, _, hgl, c0⟩ := row_cell (f := tkCells) (fun a => rfl) h (j := 1) ht (by omega)
  obtain ⟨g1, cap1, hv1, _, _, c1⟩ := row_cell (f := tkCells) (fun a => rfl) h (j := 3) ht (by omega)
  have : g = g1 := by rw [hv] at hv1; simp at hv1; exact hv1.1
  subst this
  injection hv with hv _ _
  exact ⟨g, hv, hgl, c0, c1⟩
theorem set_other {w : World} {b g o o' : Nat} {v : Value} (h : b ≠ g) : (w.setCell ⟨b, o, none⟩ v).cell? ⟨g, o', none⟩ = w.cell? ⟨g, o', none⟩ := World.cell?_of_block (a := ⟨g, o', none⟩) (by simp [World.setCell, Array.getElem?_modify, h])
/-- behind the second Parse: its design in a box, its faults -/
def SpRel (w0 : World) (ms' : List Mo) (L p : Nat) (s17 s18 : Value) (wx : World) : Prop := ∃ (gb : Nat) (A5 : Option Addr) (c5 : Nat) (B5 : Option Addr) (d5 : Nat), s17 = .pointer (some ⟨gb, 0, none⟩) ∧ s18 = .slice B5 1 d5 ∧ Gr w0 wx ∧ wx.heap[gb]? = some (.cells #[.slice A5 L c5] 26 (0, 0)) ∧ ModsAt wx (fun _ => True) ms' (.slice A5 L c5) ∧ FlAt wx (fun _ => True) [(20, p)] (.slice B5 1 d5)
theorem sp_a {w0 w5 : World} {F F' : Nat → Prop} {ms' : List Mo} {L p c5 d5 : Nat} {A5 B5 : Option Addr} (hu : Gr w0 w5) (hm : ModsAt w5 F ms' (.slice A5 ms'.length c5)) (hf : FlAt w5 F' [(20, p)] (.slice B5 1 d5)) (hL : ms'.length = L) :
    SpRel w0 ms' L p (.pointer (some ⟨w5.heap.size, 0, none⟩)) (.slice B5 1 d5) (w5.alloc (.cells #[.slice A5 L c5] 26)) := by
  subst hL
  exact ⟨_, A5, c5, B5, d5, rfl, rfl, hu.trans (Gr.alloc _ _), new_at w5 _, hm.keep (fun _ _ => trivial) (fun _ _ _ ho => (Gr.alloc _ _).keep ho), RowAt.keep hf (fun _ _ => trivial) (fun _ _ _ ho => (Gr.alloc _ _).keep ho)⟩
theorem set_block {w : World} {b g : Nat} {v : Value} (h : b ≠ g) : (w.setCell ⟨b, 0, none⟩ v).heap[g]? = w.heap[g]? := by simp [World.setCell, Array.getElem?_modify, h]
theorem sp_b {w0 v w5 : World} {ms' : List Mo} {L p c5 d5 b : Nat} {A5 B5 : Option Addr} (hu : Gr w0 w5) (hb : w0.heap.size ≤ b) (hz : w5.heap[b]? = some (.cells #[.slice none 0 0] 26 (0, 0))) (hv : b < v.heap.size) (hm : ModsAt w5 (New v) ms' (.slice A5 ms'.length c5)) (hf : FlAt w5 (New v) [(20, p)] (.slice B5 1 d5)) (hL : ms'.length = L) :
    SpRel w0 ms' L p (.pointer (some ⟨b, 0, none⟩)) (.slice B5 1 d5) (w5.setCell ⟨b, 0, none⟩ (.slice A5 L c5)) := by
  subst hL
  have hk : ∀ g o, New v g → w5.heap[g]? = some o → (w5.setCell ⟨b, 0, none⟩ (.slice A5 ms'.length c5)).heap[g]? = some o := fun g o hg ho => (set_block (by have : v.heap.size ≤ g := hg; omega)).trans ho
  refine ⟨b, A5, c5, B5, d5, rfl, rfl, ⟨hu.os, hu.tape, hu.output, by have := hu.size; simpa [World.setCell] using this, fun i hi hn => (set_block (by omega)).trans (hu.block i hi hn)⟩, ?_, hm.keep (fun _ _ => trivial) hk, RowAt.keep hf (fun _ _ => trivial) hk⟩
  simp [World.setCell, Array.getElem?_modify, hz]
theorem ups {Am Bm : List Mo} {x x' : Mo} {i : Nat} {m m' : Mo} (h : (Am ++ [x] ++ Bm)[i]? = some m) (h' : (Am ++ [x'] ++ Bm)[i]? = some m') : (i ≠ Am.length → m = m') ∧ (i = Am.length → m = x ∧ m' = x') := by
  rw [List.append_assoc, List.getElem?_append] at h h'
  constructor
  · intro hi
    split at h
    · rename_i hlt
      rw [if_pos hlt, h] at h'
      exact Option.some.inj h'
    · rename_i hlt
      rw [if_neg hlt] at h'
      obtain ⟨d, hd⟩ : ∃ d, i - Am.length = d + 1 := ⟨i - Am.length - 1, by omega⟩
      rw [hd] at h h'
      simp at h h'
      rw [h] at h'
      exact Option.some.inj h'
  · rintro rfl
    rw [if_neg (by omega), Nat.sub_self] at h h'
    simp at h h'
    exact ⟨h.symm, h'.symm⟩
theorem mo_form {w : World} {F : Nat → Prop} {m : Mo} {n pv qv iv : Value} (h : MoAt w F m [n, pv, qv, iv]) : ∃ pA pC qA qC iA iC, pv = .slice pA m.params.length pC ∧ qv = .slice qA m.ports.length qC ∧ iv = .slice iA m.items.length iC := by
  obtain ⟨p, q, i, e, h1, h2, ⟨css, hr, _⟩⟩ := h
  obtain ⟨A, c, e1⟩ := row_form h1
  obtain ⟨B, d, e2⟩ := row_form h2
  obtain ⟨C, f, e3⟩ := row_form hr
  simp at e
  exact ⟨A, c, B, d, C, f, by rw [e.2.1, e1], by rw [e.2.2.1, e2], by rw [e.2.2.2, e3]⟩
theorem nm_snoc {T : List LexM.Tk} {wd : List UInt8} {i k : Nat} {a : LexM.Tk} (h : NM T wd i k) (ha : T[k]? = some a) (hne : a.text ≠ wd) : NM T wd i (k + 1) := fun x hx hk => by
  rcases Nat.lt_or_ge x k with h1 | h1
  · exact h x hx h1
  · obtain rfl : x = k := by omega
    unfold tokIs textAt
    rw [ha]
    simpa using hne
theorem cut_out {α : Type} {I J X : List α} {y : α} {k : Nat} (hX : X = I ++ [y] ++ J) (h : X.take k = (I ++ J).take k) (hk : I.length ≤ k) : X.take k ++ X.drop (k + 1) = I ++ J := by
  have e : X.drop (k + 1) = (I ++ J).drop k := by
    obtain ⟨d, rfl⟩ := Nat.exists_eq_add_of_le hk
    rw [hX, List.drop_append, List.drop_append, List.drop_append]
    simp [show I.length + d + 1 - I.length = d + 1 by omega, show I.length + d - I.length = d by omega]
    try omega
  rw [h, e, List.take_append_drop]
theorem take_more {α : Type} {X Y : List α} {b b' : α} {k : Nat} (h : X.take k = Y.take k) (hb : X[k]? = some b) (hb' : Y[k]? = some b') (e : b = b') : X.take (k + 1) = Y.take (k + 1) := by
  rw [List.take_add_one, List.take_add_one, h, hb, hb', e]
theorem cut_low {α : Type} {I J X : List α} {y b b' : α} {k : Nat} (hX : X = I ++ [y] ++ J) (hb : X[k]? = some b) (hb' : (I ++ J)[k]? = some b') (hne : b ≠ b') : I.length ≤ k := by
  rcases Nat.lt_or_ge k I.length with h | h
  · exfalso
    rw [hX, List.append_assoc, List.getElem?_append_left h] at hb
    rw [List.getElem?_append_left h, hb] at hb'
    exact hne (Option.some.inj hb')
  · exact h

theorem cut_same {α : Type} {I J X : List α} {y b b' : α} {k : Nat} (hX : X = I ++ [y] ++ J) (hb : X[k]? = some b) (hb' : (I ++ J)[k]? = some b') (h : k < I.length) : b = b' := by
  rw [hX, List.append_assoc, List.getElem?_append_left h] at hb
  rw [List.getElem?_append_left h, hb] at hb'
  exact Option.some.inj hb'
theorem same_here {w : World} {b b' : It} {c c' : List Value} {q : Prop} (hq : q → b = b') (h : ItAt w (fun _ => True) b c) (h' : ItAt w (fun _ => True) b' c') : Calls Tryd.prog 18 #[.agg c.toArray, .agg c'.toArray] w (TellsK w (b = b') q) := by
  by_cases hk : q
  · obtain rfl := hq hk
    exact (SameItem_yes b _ _ _ _ w (Lib.hid h) (Lib.hid h')).mono fun e w' hh => ⟨true, hh.1, fun _ => rfl, fun _ => rfl, hh.2⟩
  · exact (SameItem_any b b' _ _ _ _ w (Lib.hid h) (Lib.hid h')).mono fun e w' ⟨r, h1, h2, h3⟩ => ⟨r, h1, h2, fun h => absurd h hk, h3⟩

set_option maxRecDepth 100000 in
set_option maxHeartbeats 8000000 in
theorem spares_walk (s : ByteArray) (n : Int) (w : World) (hs : s.size ≤ maxLen) (_ : -9223372036854775808 ≤ n ∧ n ≤ 9223372036854775807) (hsg : Hid (SgLaid w)) (hop : Hid (OpLaid w)) :
    Calls Tryd.prog 7 #[.string s, .int .i64 n] w fun e w' => e = .returned (.bool true) ∧ Below w.heap.size w w' := by
  have S0 : Hid (Stg w w) := Lib.hid ⟨Below.refl _ _, hsg.out, hop.out⟩
  obtain ⟨t, ht⟩ : ∃ t, t = str (s.data.toList.take 3000) := ⟨_, rfl⟩
  have hts : t.size ≤ 3000 := by rw [ht]; exact few_size s
  have FW := few_any s
  rw [← ht] at FW
  clear ht
  have HFW := Lib.hid (fun u => FW u hs)
  clear FW
  rcases hL : lexOut t.data.toList with ⟨ts, en, ei⟩
  rcases hO : parseOut t.data.toList with ⟨ms, fs⟩
  have HL := Lib.hid hL
  have HO := Lib.hid hO
  clear hL hO
  have htl : ts.length ≤ 20000 := by have := (lexOut_bounds (l := t.data.toList) (by rw [← Lib.size_eq]; omega)).1; rw [HL.out] at this; exact this
  go_enter Tryd.func7, Tryd.ntmps7
  go_wp2_with fail
  refine (head_any w hsg hop).mono ?_
  rintro e w1 ⟨rfl, hb⟩
  have S1 := Lib.hid (S0.out.step hb)
  clear hb
  go_wp2_with fail
  refine (HFW.out w1).mono ?_
  rintro e w1' ⟨rfl, rfl⟩
  have LX := Lex_any t w1 (by omega) (Lib.hid S1.out.2.1)
  rw [HL.out] at LX
  have HLX := Lib.hid LX
  clear LX
  go_wp2_with fail
  refine HLX.out.mono ?_
  rintro e w2 ⟨v, rfl, hown, hb⟩
  obtain ⟨A2, c2, rfl⟩ := own_form hown
  have S2 := Lib.hid (S1.out.step hb)
  have O2 := Lib.hid hown
  clear hb hown HLX
  go_wp2_with fail
  refine (Parse_is (by omega) S2.out.2.1 S2.out.2.2 HO.out).mono ?_
  rintro e w3 ⟨hb, mv, fv, rfl, hm, hf⟩
  obtain ⟨A3, c3, rfl⟩ := mods_form hm
  obtain ⟨B3, d3, rfl⟩ := row_form hf
  have hb' : Below w3.heap.size w3 (w3.alloc (.cells #[.slice A3 ms.length c3] 26)) := (Below.refl _ _).alloc (Nat.le_refl _) _
  have S3 := Lib.hid ((S2.out.step hb).step hb')
  have M3 := Lib.hid (And.intro (hm.keep (fun _ h => h) (fun _ _ _ ho => (gr_of hb').keep ho)) (new_at w3 (.cells #[.slice A3 ms.length c3] 26)))
  have G23 := Lib.hid ((gr_of hb).trans (gr_of hb'))
  have hfl := row_max hf
  unfold maxLen at hfl
  clear hb hm hf hb'
  go_upto_region 5 with fail
  generalize (w3.alloc (.cells #[.slice A3 ms.length c3] 26)) = X at S3 M3 G23 ⊢
  by_cases he : en = 0
  case neg =>
    have hd : ((en : Int) != 0) = true := by simp; omega
    go_wp2
    go_ret
    exact ⟨rfl, S3.out.1⟩
  subst he
  by_cases hf : 0 < fs.length
  · have hd : ((0 : Int) < (fs.length : Int)) := by omega
    go_wp2
    go_ret
    exact ⟨rfl, S3.out.1⟩
  obtain rfl : fs = [] := List.eq_nil_of_length_eq_zero (by omega)
  go_wp2_with fail
  go_loopg [12, 13, 14] ts.length (fun g a c i wr => ∃ (k cc : Nat) (A : Int), k + g = ts.length ∧ a = .int .i64 A ∧ c = .int .i64 (cc : Nat) ∧ i = .int .i64 (k : Nat) ∧ cc ≤ k ∧ Hid (AtOk ts A) ∧ Hid (Gr X wr))
  case atStart => exact ⟨0, 0, -1, by omega, rfl, rfl, rfl, by omega, Lib.hid (.inl rfl), Lib.hid (Gr.refl _)⟩
  case round =>
    obtain ⟨k, cc, A, hk, rfl, rfl, rfl, hcc, HA, GR⟩ := hrel
    have HK := Lib.hid hk
    have hkl : k ≤ ts.length := by omega
    clear hk
    by_cases hlt : k < ts.length
    · have hk1 : ((k : Int) < (ts.length : Int)) := by omega
      have hk0 : (0 : Int) ≤ (k : Int) := by omega
      obtain ⟨a, ha⟩ : ∃ a, ts[k]? = some a := ⟨_, List.getElem?_eq_getElem hlt⟩
      obtain ⟨ga, rfl, hga, p1, p3⟩ := tok_two O2.out ha
      have x1 := gr_cell (G23.out.trans GR.out) hga p1
      have BG := begins_any a.text wr
      have HAA := Lib.hid ha
      clear p1 p3 hga ha
      rcases hbw : begW.contains a.text with _ | _
      · rw [hbw] at BG
        have HBG := Lib.hid BG
        clear BG
        go_wp2_with (go_at_call 15; refine HBG.out.mono ?_; rintro e w5 ⟨rfl, hw5⟩)
        have G5 := Lib.hid (GR.out.trans hw5)
        go_roundg (gk - 1)
        case measure => have := HK.out; omega
        case rel => exact ⟨k + 1, cc, A, by have := HK.out; omega, rfl, rfl, by go_num, by omega, HA, G5⟩
      · rw [hbw] at BG
        have HBG := Lib.hid BG
        have HBW := Lib.hid hbw
        clear BG hbw
        by_cases hcn : (cc : Int) = n
        · have q : ((cc : Int) == n) = true := by simpa using hcn
          have HCN := Lib.hid hcn
          clear hcn
          go_wp2_with (go_at_call 15; refine HBG.out.mono ?_; rintro e w5 ⟨rfl, hw5⟩)
          have G5 := Lib.hid (GR.out.trans hw5)
          go_roundg (gk - 1)
          case measure => have := HK.out; omega
          case rel => exact ⟨k + 1, cc + 1, (k : Int), by have := HK.out; omega, rfl, by go_num, by go_num, by omega, Lib.hid (.inr ⟨k, a, rfl, HAA.out, by simpa using HBW.out⟩), G5⟩
        · have q : ((cc : Int) == n) = false := by simpa using hcn
          have HCN := Lib.hid hcn
          clear hcn
          go_wp2_with (go_at_call 15; refine HBG.out.mono ?_; rintro e w5 ⟨rfl, hw5⟩)
          have G5 := Lib.hid (GR.out.trans hw5)
          go_roundg (gk - 1)
          case measure => have := HK.out; omega
          case rel => exact ⟨k + 1, cc + 1, A, by have := HK.out; omega, rfl, by go_num, by go_num, by omega, HA, G5⟩
    · have hk1 : ¬ ((k : Int) < (ts.length : Int)) := by omega
      rcases HA.out with rfl | ⟨j, a, rfl, ha, hw⟩
      · go_wp2_with fail
        go_ret
        exact ⟨rfl, S3.out.1.trans ((bel_of GR.out).mono S3.out.1.size)⟩
      have hj0 : ¬ ((j : Int) < 0) := by omega
      have hjl : j < ts.length := (List.getElem?_eq_some_iff.1 ha).1
      obtain ⟨ga, rfl, hga, p1, p3⟩ := tok_two O2.out ha
      have KT := Lib.hid (show ∀ u, Gr X u → u.cell? ⟨ga, j * 4 + 3, none⟩ = some (.int .i64 (a.pos : Nat)) from fun u hu => gr_cell (G23.out.trans hu) hga p3)
      have HW := Lib.hid (And.intro ha hw)
      clear p1 p3 hga ha hw HA HK
      go_upto_block 2 with fail
      go_cut [16] from 70 to 90 (fun s16 wx => ∃ k2 : Nat, s16 = .int .i64 (k2 : Nat) ∧ Hid (Gr X wx) ∧ Hid (∀ i, j ≤ i → i < ts.length → NM ts [59] j (i + 1) → tokIs ts i [125] = false))
      case first =>
        go_wp2_with fail
        go_loopg [16] (ts.length - j) (fun g i wx => ∃ k2 : Nat, j ≤ k2 ∧ k2 + g = ts.length ∧ i = .int .i64 (k2 : Nat) ∧ Hid (Gr X wx) ∧ Hid (NM ts [59] j k2 ∧ NM ts [125] j k2))
        case atStart => exact ⟨j, Nat.le_refl _, by omega, rfl, GR, Lib.hid ⟨NM.nil _ _ _, NM.nil _ _ _⟩⟩
        case round =>
          obtain ⟨k2, hjk, hk2, rfl, G2, HN⟩ := hrel
          have HK := Lib.hid hk2
          have hkl2 : k2 ≤ ts.length := by omega
          clear hk2
          by_cases hlt2 : k2 < ts.length
          · have hk1 : ((k2 : Int) < (ts.length : Int)) := by omega
            have hk0 : (0 : Int) ≤ (k2 : Int) := by omega
            obtain ⟨b, hb⟩ : ∃ b, ts[k2]? = some b := ⟨_, List.getElem?_eq_getElem hlt2⟩
            obtain ⟨gb, hgb, hgl, p1, _⟩ := tok_two O2.out hb
            have egb : ga = gb := by simpa using hgb
            subst egb
            have x1 := gr_cell (G23.out.trans G2.out) hgl p1
            have HB := Lib.hid hb
            clear p1 hgl hgb hb
            by_cases h59 : b.text = [59]
            · rw [h59] at x1
              have x1' : World.cell? _ ⟨ga, k2 * 4 + 1, none⟩ = some (.string ⟨#[59]⟩) := x1
              clear x1
              have H59 := Lib.hid h59
              clear h59
              go_wp2_with fail
              go_meet
              refine ⟨k2, rfl, G2, Lib.hid fun i hi hil hnm => ?_⟩
              rcases Nat.lt_or_ge i k2 with hlt3 | hge
              · exact HN.out.2 i hi hlt3
              · exfalso
                have h1 := hnm k2 hjk (by omega)
                unfold tokIs textAt at h1
                rw [HB.out, Option.map_some, H59.out] at h1
                simp at h1
            · have q : ((str b.text).toList == [59]) = false := by rw [str_toList]; simpa using h59
              have H59 := Lib.hid h59
              clear h59
              by_cases h125 : b.text = [125]
              · have q2 : ((str b.text).toList == [125]) = true := by rw [str_toList, h125]; simp
                have H125 := Lib.hid h125
                clear h125
                go_wp2_with fail
                go_ret
                exact ⟨rfl, S3.out.1.trans ((bel_of G2.out).mono S3.out.1.size)⟩
              · have q2 : ((str b.text).toList == [125]) = false := by rw [str_toList]; simpa using h125
                have H125 := Lib.hid h125
                clear h125
                go_wp2_with fail
                go_roundg (gk - 1)
                case measure => have := HK.out; omega
                case rel => exact ⟨k2 + 1, by omega, by have := HK.out; omega, by go_num, G2, Lib.hid ⟨nm_snoc HN.out.1 HB.out H59.out, nm_snoc HN.out.2 HB.out H125.out⟩⟩
          · have hk1 : ¬ ((k2 : Int) < (ts.length : Int)) := by omega
            go_wp2_with fail
            go_meet
            exact ⟨k2, rfl, G2, Lib.hid fun i hi hil _ => HN.out.2 i hi (by omega)⟩
      case rest =>
        obtain ⟨k2, rfl, G2, HNB⟩ := hcut
        obtain ⟨hpos, Am, x, Bm, I, y, J, hms, hit, hpc⟩ := parse_spares (l := t.data.toList) (by rw [← Lib.size_eq]; exact hts) HO.out HL.out HW.out.1 HW.out.2 HNB.out
        rw [← Lib.size_eq] at hpos
        obtain ⟨u, hu⟩ : ∃ u, u = t.extract 0 a.pos ++ (⟨#[63, 32]⟩ : ByteArray) ++ t.extract a.pos t.size := ⟨_, rfl⟩
        have HPC : Hid (parseOut u.data.toList = (Am ++ [{ x with items := I ++ J }] ++ Bm, [(20, a.pos)])) := Lib.hid (by
          rw [← hpc, hu, ByteArray.data_append, ByteArray.data_append, Array.toList_append, Array.toList_append, str_extract, str_extract, str_data, str_data, List.drop_zero, Nat.sub_zero]
          rw [List.take_of_length_le (l := t.data.toList.drop a.pos) (by rw [List.length_drop, ← Lib.size_eq]; omega)])
        have hus : u.size ≤ 20000 := by
          rw [hu, ByteArray.size_append, ByteArray.size_append, ByteArray.size_extract, ByteArray.size_extract]
          have : (⟨#[63, 32]⟩ : ByteArray).size = 2 := rfl
          omega
        have SC := Lib.hid (S3.out.step (bel_of G2.out))
        have x3 := KT.out wc G2.out
        have hgw : ga < wc.heap.size := by
          obtain ⟨g9, e9, hg9, _, _⟩ := tok_two O2.out HW.out.1
          have e10 : ga = g9 := by simpa using e9
          have h1 := G23.out.size
          have h2 := G2.out.size
          omega
        have x4 : ∀ o : Obj, (wc.alloc o).cell? ⟨ga, j * 4 + 3, none⟩ = some (.int .i64 (a.pos : Nat)) := fun o => KT.out _ (G2.out.trans (Gr.alloc _ _))
        have hp0 : (0 : Int) ≤ (a.pos : Int) := by omega
        have hp1 : (a.pos : Int) ≤ (t.size : Int) := by omega
        have hjj : (0 : Int) ≤ (j : Int) := by omega
        have hjk : (j : Int) < (ts.length : Int) := by omega
        have HMS := Lib.hid (And.intro hms hit)
        clear hms hit hpc
        have PA := Lib.hid (show ∀ v, Gr wc v → Calls Tryd.prog 11 #[.string (t.extract 0 a.pos ++ (⟨#[63, 32]⟩ : ByteArray) ++ t.extract a.pos t.size)] v (ParseRet v (Am ++ [{ x with items := I ++ J }] ++ Bm, [(20, a.pos)])) from fun v hv => by
          rw [← hu]
          exact Parse_is hus (SC.out.step (bel_of hv)).2.1 (SC.out.step (bel_of hv)).2.2 HPC.out)
        clear hu
        have hs1 : a.pos ≤ 9223372036854775805 := by omega
        have hm1 : min a.pos t.size = a.pos := by omega
        have hs3 : a.pos + 2 ≤ 9223372036854775807 := by omega
        have hs4 : min a.pos t.size + 2 ≤ 9223372036854775807 := by omega
        have hs5 : min a.pos t.size + 2 + (t.size - a.pos) ≤ 9223372036854775807 := by omega
        have hs6 : min a.pos t.size ≤ 9223372036854775805 := by omega
        have hi1 : ((t.extract 0 a.pos).size : Int) ≤ 8388608 := by rw [ByteArray.size_extract]; omega
        have hi2 : ((t.extract a.pos t.size).size : Int) ≤ 8388608 := by rw [ByteArray.size_extract]; omega
        have hi3 : ((t.extract 0 a.pos ++ (⟨#[63, 32]⟩ : ByteArray)).size : Int) ≤ 8388608 := by rw [ByteArray.size_append, ByteArray.size_extract, show (⟨#[63, 32]⟩ : ByteArray).size = 2 from rfl]; omega
        have hi4 : ((⟨#[63, 32]⟩ : ByteArray).size : Int) ≤ 8388608 := by decide
        have hs7 : ¬ (9223372036854775805 < a.pos) := by omega
        have hs8 : ¬ (9223372036854775807 < a.pos + 2 + (t.size - a.pos)) := by omega
        have hs9 : ¬ (9223372036854775807 < a.pos + 2) := by omega
        have hs2 : a.pos + 2 + (t.size - a.pos) ≤ 9223372036854775807 := by omega
        go_upto_region 24 with fail
        have hmU : (Am ++ [{ x with items := I ++ J }] ++ Bm).length = ms.length := by rw [HMS.out.1]; simp
        go_cut [17, 18] from 91 to 110 (fun s17 s18 wx => Hid (SpRel wc (Am ++ [{ x with items := I ++ J }] ++ Bm) ms.length a.pos s17 s18 wx))
        case first =>
          clear x3 x4
          go_region_held3 (fun v => v.cell? ⟨ga, j * 4 + 3, none⟩ = some (.int .i64 (a.pos : Nat)))
            (first | exact KT.out _ (G2.out.trans hu1) | exact KT.out _ (G2.out.trans (Gr.drew _)) | exact KT.out _ (G2.out.trans ((Gr.drew _).trans (Gr.alloc _ _))) | exact KT.out _ (G2.out.trans ((Gr.alloc _ _).trans (Gr.drew _))) | exact KT.out _ ((G2.out.trans hu1).trans (Gr.alloc _ _)) | exact (set_other (by omega)).trans (KT.out _ (G2.out.trans hu1)) | exact (set_other (by have := hu1.size; omega)).trans (KT.out _ ((G2.out.trans hu1).trans (Gr.alloc _ _))))
            (first
              | (go_at_call 11; (with_reducible refine (PA.out _ (Gr.drew _)).mono ?_); rintro e w5 ⟨hb, mv, fv, rfl, hm, hf⟩; obtain ⟨A5, c5, rfl⟩ := mods_form hm; obtain ⟨B5, d5, rfl⟩ := row_form hf; have HM := Lib.hid (And.intro hb (And.intro hm hf)); have hu1 : Gr wc w5 := ((Gr.drew _)).trans (gr_of hb); clear hb hm hf)
              | (go_at_call 11; (with_reducible refine (PA.out _ ((Gr.alloc _ _).trans (Gr.drew _))).mono ?_); rintro e w5 ⟨hb, mv, fv, rfl, hm, hf⟩; obtain ⟨A5, c5, rfl⟩ := mods_form hm; obtain ⟨B5, d5, rfl⟩ := row_form hf; have HM := Lib.hid (And.intro hb (And.intro hm hf)); have hz : w5.heap[wc.heap.size]? = some (.cells #[.slice none 0 0] 26 (0, 0)) := (hb.block wc.heap.size (by simp)).trans (new_at wc _); have HZ := Lib.hid hz; have z0 : w5.cell? ⟨wc.heap.size, 0, none⟩ = some (.slice none 0 0) := (by rw [cell_at hz]; rfl); have z1 : w5.frozen? ⟨wc.heap.size, 0, none⟩ = false := frozen_at hz; clear hz; have hu1 : Gr wc w5 := (((Gr.alloc _ _).trans (Gr.drew _))).trans (gr_of hb); clear hb hm hf)
              | (go_at_call 11; (with_reducible refine (PA.out _ ((Gr.drew _).trans (Gr.alloc _ _))).mono ?_); rintro e w5 ⟨hb, mv, fv, rfl, hm, hf⟩; obtain ⟨A5, c5, rfl⟩ := mods_form hm; obtain ⟨B5, d5, rfl⟩ := row_form hf; have HM := Lib.hid (And.intro hb (And.intro hm hf)); have hz : w5.heap[wc.heap.size]? = some (.cells #[.slice none 0 0] 26 (0, 0)) := (hb.block wc.heap.size (by simp)).trans (new_at wc.drew _); have HZ := Lib.hid hz; have z0 : w5.cell? ⟨wc.heap.size, 0, none⟩ = some (.slice none 0 0) := (by rw [cell_at hz]; rfl); have z1 : w5.frozen? ⟨wc.heap.size, 0, none⟩ = false := frozen_at hz; clear hz; have hu1 : Gr wc w5 := (((Gr.drew _).trans (Gr.alloc _ _))).trans (gr_of hb); clear hb hm hf))
          all_goals go_wp2_with fail
          all_goals go_meet
          all_goals rw [show Am.length + (Bm.length + 1) = ms.length by rw [← hmU]; simp]
          · exact Lib.hid (sp_a hu1 HM.out.2.1 HM.out.2.2 hmU)
          · exact Lib.hid (sp_b hu1 (Nat.le_refl _) HZ.out (by simp) HM.out.2.1 HM.out.2.2 hmU)
        case rest =>
          obtain ⟨gb, A5, c5, B5, d5, rfl, rfl, hg5, hC5, hM5, hF5⟩ := hcut.out
          have G5 := Lib.hid (G2.out.trans hg5)
          have C5 := Lib.hid hC5
          have M5 := Lib.hid hM5
          have F5 := Lib.hid hF5
          clear hg5 hC5 hM5 hF5 hcut x3 x4 hs1 hm1 hs3 hs4 hs5 hs6 hi1 hi2 hi3 hi4 hs7 hs8 hs9 hs2 hp0 hp1 PA
          have x3 := KT.out wc G5.out
          have hml : ms.length ≤ maxLen := mods_len M3.out.1
          unfold maxLen at hml
          have FB := Lib.hid (show Calls Tryd.prog 16 #[.slice B5 1 d5, .slice (some ⟨wc.heap.size, 0, none⟩) 1 1] (wc.alloc (.cells #[.int .i64 20, .int .i64 (a.pos : Nat), .int .i64 0, .int .i64 0] 35)) (fun e w' => e = .returned (.bool true) ∧ Gr wc w') from (SameFaults_yes [(20, a.pos)] _ _ _ _ _ (Lib.hid (RowAt.keep F5.out (fun _ h => h) (fun _ _ _ ho => (Gr.alloc _ _).keep ho))) (Lib.hid (oneFault_at (new_at wc _)))).mono fun e w' h => ⟨h.1, (Gr.alloc _ _).trans h.2⟩)
          have BX := Lib.hid (show ∀ v, Gr wc v → v.cell? ⟨gb, 0, none⟩ = some (.slice A5 ms.length c5) ∧ v.cell? ⟨w3.heap.size, 0, none⟩ = some (.slice A3 ms.length c3) from fun v hv => ⟨by rw [cell_at (hv.keep C5.out)]; rfl, by rw [cell_at ((G5.out.trans hv).keep M3.out.2)]; rfl⟩)
          go_wp2_with (go_at_call 16; (with_reducible refine FB.out.mono ?_); rintro e w6 ⟨rfl, hw6⟩; obtain ⟨y1, y2⟩ := BX.out w6 hw6; have G6 := Lib.hid hw6; clear hw6)
          clear y1 y2 x3
          go_loopg [19, 20] ms.length (fun g l i wr => ∃ (k : Nat) (lv : Int), k + g = ms.length ∧ l = .int .i64 lv ∧ i = .int .i64 (k : Nat) ∧ Hid (lv = if Am.length < k then 1 else 0) ∧ Hid (Gr w6 wr))
          case atStart => exact ⟨0, 0, by omega, rfl, rfl, Lib.hid (by simp), Lib.hid (Gr.refl _)⟩
          case round =>
            obtain ⟨i, lv, hi, rfl, rfl, HLV, GR⟩ := hrel
            have HI := Lib.hid hi
            have hil : i ≤ ms.length := by omega
            clear hi
            have GB := Lib.hid (G6.out.trans GR.out)
            have GA := Lib.hid (G5.out.trans GB.out)
            obtain ⟨y1, y2⟩ := BX.out wr GB.out
            by_cases hlt3 : i < ms.length
            · have hi1 : ((i : Int) < (ms.length : Int)) := by omega
              have hi0 : (0 : Int) ≤ (i : Int) := by omega
              obtain ⟨m, hm⟩ : ∃ m, ms[i]? = some m := ⟨_, List.getElem?_eq_getElem hlt3⟩
              obtain ⟨m', hm'⟩ : ∃ m', (Am ++ [{ x with items := I ++ J }] ++ Bm)[i]? = some m' := ⟨_, List.getElem?_eq_getElem (by rw [hmU]; exact hlt3)⟩
              have hup := ups (by rw [← HMS.out.1]; exact hm) hm'
              obtain ⟨g1, pv1, qv1, iv1, rfl, hg1, c4, mat⟩ := mod_cells M3.out.1 hm
              obtain ⟨g2, pv2, qv2, iv2, rfl, hg2, d4, mat'⟩ := mod_cells M5.out hm'
              obtain ⟨a0, a1, a2, a3⟩ := mo4o_gr c4 hg1 GA.out
              obtain ⟨b0, b1, b2, b3⟩ := mo4o_gr d4 hg2 GB.out
              have MA := Lib.hid (mat.gr GA.out)
              have MB := Lib.hid (mat'.gr GB.out)
              have lt1 : gb < wr.heap.size := heap_lt (GB.out.keep C5.out)
              have lt2 : w3.heap.size < wr.heap.size := heap_lt (GA.out.keep M3.out.2)
              have lt3 : g1 < wr.heap.size := by have := GA.out.size; omega
              have lt4 : g2 < wr.heap.size := by have := GB.out.size; omega
              have HMM := Lib.hid hm
              clear c4 d4 mat mat' hm hm' hg1 hg2
              by_cases hia : i = Am.length
              · obtain ⟨rfl, rfl⟩ := hup.2 hia
                obtain ⟨pA, pC, qA, qC, iA, iC, rfl, rfl, rfl⟩ := mo_form MA.out
                obtain ⟨pA', pC', qA', qC', iA', iC', rfl, rfl, rfl⟩ := mo_form MB.out
                have hxl : m.items.length = I.length + 1 + J.length := by rw [HMS.out.2]; simp; omega
                have hyl : (I ++ J).length = I.length + J.length := by simp
                obtain ⟨css, HI1⟩ : ∃ css : List (List Value), Hid (RowAt wr (fun _ => True) 59 42 (.slice iA (I.length + 1 + J.length) iC) m.items.length css.flatten ∧ css.length = m.items.length ∧ ∀ (j : Nat) (b : It), m.items[j]? = some b → ∃ c, css[j]? = some c ∧ ItAt wr (fun _ => True) b c) := by
                  obtain ⟨pv, qv, iv, e, _, _, ⟨css, m3, hcl, hcs⟩⟩ := MA.out
                  simp at e
                  rw [← hxl]
                  rw [← e.2.2] at m3
                  exact ⟨css, Lib.hid ⟨RowAt.keep m3 (fun _ _ => trivial) (fun _ _ _ ho => ho), hcl, fun j b hb => by obtain ⟨c, h1, h2⟩ := hcs j b hb; exact ⟨c, h1, h2.keep (fun _ _ => trivial) (fun _ _ _ ho => ho)⟩⟩⟩
                obtain ⟨css', HI2⟩ : ∃ css : List (List Value), Hid (RowAt wr (fun _ => True) 59 42 (.slice iA' (I.length + J.length) iC') (I ++ J).length css.flatten ∧ css.length = (I ++ J).length ∧ ∀ (j : Nat) (b : It), (I ++ J)[j]? = some b → ∃ c, css[j]? = some c ∧ ItAt wr (fun _ => True) b c) := by
                  obtain ⟨pv, qv, iv, e, _, _, ⟨css, m3, hcl, hcs⟩⟩ := MB.out
                  simp at e
                  rw [← e.2.2] at m3
                  rw [← hyl]
                  have m4 := RowAt.keep (F' := fun _ => True) (w' := wr) m3 (fun _ _ => trivial) (fun _ _ _ ho => ho)
                  exact ⟨css, Lib.hid ⟨by simpa using m4, hcl, fun j b hb => by obtain ⟨c, h1, h2⟩ := hcs j b hb; exact ⟨c, h1, h2.keep (fun _ _ => trivial) (fun _ _ _ ho => ho)⟩⟩⟩
                have hmx : m.items.length ≤ 20001 := parse_items (l := t.data.toList) (by rw [← Lib.size_eq]; omega) m (by rw [HO.out]; exact List.mem_of_getElem? HMM.out)
                obtain rfl : lv = 0 := by rw [HLV.out, if_neg (by omega)]
                have HIA := Lib.hid hia
                clear hia hup
                have hne : ((m.items.length : Int) == ((I ++ J).length : Int)) = false := by rw [hxl, hyl]; simp; omega
                go_upto_block 6 with fail
                have hn2 : (((I.length : Int) + 1 + (J.length : Int)) == ((I.length : Int) + (J.length : Int))) = false := by simp; omega
                have hn3 : (I.length : Int) + 1 + (J.length : Int) - ((I.length : Int) + (J.length : Int)) = 1 := by omega
                rw [hn2, hn3]
                clear hn2 hn3
                obtain ⟨W, eW, GW, CA, CB⟩ : ∃ W, (wr.alloc (.cells #[.string (str m.name), .slice pA m.params.length pC, .slice qA m.ports.length qC, .slice iA (I.length + 1 + J.length) iC] 48)).alloc (.cells #[.string (str m.name), .slice pA' m.params.length pC', .slice qA' m.ports.length qC', .slice iA' (I.length + J.length) iC'] 48) = W ∧ Hid (Gr wr W) ∧ Hid (W.heap[wr.heap.size]? = some (.cells #[.string (str m.name), .slice pA m.params.length pC, .slice qA m.ports.length qC, .slice iA (I.length + 1 + J.length) iC] 48 (0, 0))) ∧ Hid (W.heap[wr.heap.size + 1]? = some (.cells #[.string (str m.name), .slice pA' m.params.length pC', .slice qA' m.ports.length qC', .slice iA' (I.length + J.length) iC'] 48 (0, 0))) := by
                  refine ⟨_, rfl, Lib.hid ((Gr.alloc _ _).trans (Gr.alloc _ _)), Lib.hid ((Below.heap_alloc _ _ _ (by simp)).trans (new_at wr _)), Lib.hid ?_⟩
                  have := new_at (wr.alloc (.cells #[.string (str m.name), .slice pA m.params.length pC, .slice qA m.ports.length qC, .slice iA (I.length + 1 + J.length) iC] 48)) (.cells #[.string (str m.name), .slice pA' m.params.length pC', .slice qA' m.ports.length qC', .slice iA' (I.length + J.length) iC'] 48)
                  simpa using this
                rw [eW]
                clear eW a0 a1 a2 a3 b0 b1 b2 b3 y1 y2 hne
                obtain ⟨nx, hnx⟩ : ∃ nx, nx = I.length + 1 + J.length := ⟨_, rfl⟩
                obtain ⟨ny, hny⟩ : ∃ ny, ny = I.length + J.length := ⟨_, rfl⟩
                have AT := Lib.hid (show ∀ (u : World), Gr W u → (u.cell? ⟨wr.heap.size, 3, none⟩ = some (.slice iA nx iC) ∧ u.cell? ⟨wr.heap.size + 1, 3, none⟩ = some (.slice iA' ny iC')) from fun u hu => ⟨by rw [hnx, cell_at (hu.keep CA.out)]; rfl, by rw [hny, cell_at (hu.keep CB.out)]; rfl⟩)
                obtain ⟨wo, rfl⟩ : ∃ x, x = wr := ⟨_, rfl⟩
                go_cut [23] from 167 to 186 (fun s23 wx => ∃ k3 : Nat, s23 = .int .i64 (k3 : Nat) ∧ k3 ≤ ny ∧ Hid (Gr W wx) ∧ Hid (m.items.take k3 ++ m.items.drop (k3 + 1) = I ++ J))
                case first =>
                  go_wp2_with fail
                  go_loopg [23] ny (fun g z wx => ∃ k3 : Nat, k3 + g = ny ∧ z = .int .i64 (k3 : Nat) ∧ Hid (Gr W wx) ∧ Hid (m.items.take k3 = (I ++ J).take k3))
                  case atStart => exact ⟨0, by omega, rfl, Lib.hid (Gr.refl _), Lib.hid (by simp)⟩
                  case round =>
                    obtain ⟨k3, hk3, rfl, G7, HT⟩ := hrel
                    have HK := Lib.hid hk3
                    have hk4 : k3 ≤ ny := by omega
                    clear hk3
                    by_cases hlt4 : k3 < ny
                    · have hkx : k3 < m.items.length := by omega
                      have hky : k3 < (I ++ J).length := by omega
                      obtain ⟨b, hb⟩ : ∃ b, m.items[k3]? = some b := ⟨_, List.getElem?_eq_getElem hkx⟩
                      obtain ⟨b', hb'⟩ : ∃ b', (I ++ J)[k3]? = some b' := ⟨_, List.getElem?_eq_getElem hky⟩
                      obtain ⟨c, hc, hx⟩ := HI1.out.2.2 k3 b hb
                      obtain ⟨c', hc', hx'⟩ := HI2.out.2.2 k3 b' hb'
                      have l42 : ∀ c ∈ css, c.length = 42 := css_len HI1.out.2.1 HI1.out.2.2 (fun _ _ h => it_len h)
                      have l42' : ∀ c ∈ css', c.length = 42 := css_len HI2.out.2.1 HI2.out.2.2 (fun _ _ h => it_len h)
                      obtain ⟨g, cap, hv, _, hgl, hr⟩ := row_range HI1.out.1 HI1.out.2.1 l42 hc
                      obtain ⟨g', cap', hv', _, hgl', hr'⟩ := row_range HI2.out.1 HI2.out.2.1 l42' hc'
                      injection hv with hv1 _ hv3
                      injection hv' with hv1' _ hv3'
                      have GG := GW.out.trans G7.out
                      have SAME := Lib.hid (fun (u : World) (hu : Gr wr u) => same_here (q := k3 < I.length) (cut_same HMS.out.2 hb hb') (hx.keep (fun _ h => h) (fun _ _ _ ho => (GG.trans hu).keep ho)) (hx'.keep (fun _ h => h) (fun _ _ _ ho => (GG.trans hu).keep ho)))
                      have KEEP := Lib.hid (show ∀ u, Gr wr u → (u.cell? ⟨wo.heap.size, 3, none⟩ = some (.slice (some ⟨g, 0, none⟩) nx iC) ∧ u.cell? ⟨wo.heap.size + 1, 3, none⟩ = some (.slice (some ⟨g', 0, none⟩) ny iC') ∧ u.rangeAt g (k3 * 42) c ∧ u.rangeAt g' (k3 * 42) c') from fun u hu => by
                        obtain ⟨k3, q3⟩ := AT.out u (G7.out.trans hu)
                        exact ⟨by rw [← hv1]; exact k3, by rw [← hv1']; exact q3, range_gr hr hgl (GG.trans hu), range_gr hr' hgl' (GG.trans hu)⟩)
                      have HS := Lib.hid (show (Tryd.prog.info? 59).map (·.size) = some c.length by rw [size59, it_len hx])
                      have HS' := Lib.hid (show (Tryd.prog.info? 59).map (·.size) = some c'.length by rw [size59, it_len hx'])
                      have HB := Lib.hid (And.intro hb hb')
                      have hd1 : ((k3 : Int) < (ny : Int)) := by omega
                      have hd2 : ((k3 : Int) < (nx : Int)) := by omega
                      have hd0 : (0 : Int) ≤ (k3 : Int) := by omega
                      clear hx hx' hr hr' hc hc' GG hb hb' l42 l42' hv1 hv1' hv3 hv3'
                      go_wp2_with fail
                      refine region38_in (k3 := k3) (nx := nx) (ny := ny) (g := g) (g' := g') (iC := iC) (iC' := iC') (bx := wo.heap.size) (b2 := wo.heap.size + 1) (c := c) (c' := c') (p := b = b') (q := k3 < I.length) (fun _ _ d _ _ h => by cases d <;> exact h) (fun n hn => (show n < 211 by omega)) rfl rfl rfl hd1 hd2 HS.out HS'.out KEEP.out SAME.out (fun r u hr hq hu => ?_)
                      have HU := Lib.hid hu
                      have HR := Lib.hid (And.intro hr hq)
                      clear hu hr hq
                      try simp only [Act.put, List.setIfInBounds_toArray, List.set_cons_zero, List.set_cons_succ]
                      rcases r with _ | _
                      · go_wp2_with fail
                        go_meet
                        exact ⟨k3, rfl, hk4, Lib.hid (G7.out.trans HU.out), Lib.hid (cut_out HMS.out.2 HT.out (by
                          rcases Nat.lt_or_ge k3 I.length with h | h
                          · have := HR.out.2 h
                            cases this
                          · exact h))⟩
                      · go_wp2_with fail
                        go_roundg (gk - 1)
                        case measure => have := HK.out; omega
                        case rel => exact ⟨k3 + 1, by have := HK.out; omega, by go_num, Lib.hid (G7.out.trans HU.out), Lib.hid (take_more HT.out HB.out.1 HB.out.2 (HR.out.1 rfl))⟩
                    · have hd1 : ¬ ((k3 : Int) < (ny : Int)) := by omega
                      have KEEP := Lib.hid (show ∀ u, Gr wr u → u.cell? ⟨wo.heap.size + 1, 3, none⟩ = some (.slice iA' ny iC') from fun u hu => (AT.out u (G7.out.trans hu)).2)
                      go_wp2_with fail
                      refine region38_out (k3 := k3) (ny := ny) (iC' := iC') (b2 := wo.heap.size + 1) (A' := iA') (fun _ _ d _ _ h => by cases d <;> exact h) (fun n hn => (show n < 211 by omega)) rfl rfl (by omega) (KEEP.out _ (Gr.drew _)) ?_
                      try simp only [Act.put, List.setIfInBounds_toArray, List.set_cons_zero, List.set_cons_succ]
                      go_wp2_with fail
                      go_meet
                      exact ⟨k3, rfl, hk4, Lib.hid (G7.out.trans (Gr.drew _)), Lib.hid (cut_out HMS.out.2 HT.out (by omega))⟩
                case rest =>
                  obtain ⟨k3, rfl, hk4, GC, HT⟩ := hcut
                  obtain ⟨i0, hi0, hz0, hz1, hz2⟩ := info_parts info59
                  have HI0 := Lib.hid (And.intro hi0 (And.intro hz0 (And.intro hz1 hz2)))
                  clear hi0 hz0 hz1 hz2
                  have R1 : RowAt wo (fun _ => True) 59 42 (.slice iA nx iC) nx css.flatten := by
                    have := HI1.out.1
                    rw [hxl] at this
                    rw [hnx]
                    exact this
                  obtain ⟨g, rfl, hgl, hcap, hlen, hsrc⟩ := row_src R1 (by omega)
                  have HSRC := Lib.hid hsrc
                  have HLEN := Lib.hid hlen
                  have HNX := Lib.hid hnx
                  have h20 : nx ≤ 20001 := by omega
                  have hic : k3 + 1 ≤ nx := by omega
                  clear R1 hsrc hlen
                  have GC0 := Lib.hid (GW.out.trans GC.out)
                  have HBX := Lib.hid (show Below wc.heap.size wc (wc.alloc (.cells #[] 59)) from (Below.refl _ _).alloc (Nat.le_refl _) _)
                  have ONE := Lib.hid (items_one HI1.out.2.1 HI1.out.2.2)
                  have b1 : (wc.alloc (.cells #[] 59)).cell? ⟨wo.heap.size, 3, none⟩ = some (.slice (some ⟨g, 0, none⟩) nx iC) := (AT.out _ (GC.out.trans (gr_of HBX.out))).1
                  have hp0 : (0 : Int) ≤ (k3 : Int) := by omega
                  have hp1 : (k3 : Int) ≤ (iC : Int) := by omega
                  have hp2 : (k3 : Int) + 1 ≤ (nx : Int) := by omega
                  have hp3 : (nx : Int) ≤ (iC : Int) := by omega
                  go_upto_region 41 with (at_builtin; refine append_srs _ rfl _ _ 46 rfl wc.heap.size 59 i0 (.agg zero59.toArray) 42 568 Tryd.underlying46 HI0.out.1 HI0.out.2.1 HI0.out.2.2.1 HI0.out.2.2.2 rfl (by decide) (.slice (some ⟨wc.heap.size, 0, none⟩) 0 0) 0 [] rfl (own_empty59 wc wc.heap.size (Nat.le_refl _)) (some ⟨g, 0, none⟩) k3 iC (css.flatten.take (k3 * 42)) rfl (fun h => by cases h) (by rw [List.length_take, HLEN.out]; omega) (src_take (HSRC.out _ (GC0.out.trans (gr_of HBX.out))) (k3 * 42)) (fun u hu => ONE.out u (List.mem_of_mem_take hu)) (by unfold maxLen; omega) (by omega) (by simp) ?_; intro v5 w5 hown5 hb5; have B5 := Lib.hid (HBX.out.trans hb5); have O5 := Lib.hid hown5; clear hown5 hb5 b1; have b3 : w5.cell? ⟨wo.heap.size, 3, none⟩ = some (.slice (some ⟨g, 0, none⟩) nx iC) := (AT.out _ (GC.out.trans (gr_of B5.out))).1)
                  go_upto_region 42 with (at_builtin; refine append_srs _ rfl _ _ 46 rfl wc.heap.size 59 i0 (.agg zero59.toArray) 42 568 Tryd.underlying46 HI0.out.1 HI0.out.2.1 HI0.out.2.2.1 HI0.out.2.2.2 rfl (by decide) v5 (0 + k3) ([] ++ css.flatten.take (k3 * 42)) rfl O5.out (if iC = k3 + 1 then some ⟨g, 0, none⟩ else some ⟨g, (k3 + 1) * 42, none⟩) (I.length + 1 + J.length - (k3 + 1)) (iC - (k3 + 1)) (css.flatten.drop ((k3 + 1) * 42)) rfl (fun h => nil_if h) (by rw [List.length_drop, HLEN.out, HNX.out, Nat.sub_mul]) (src_if (HSRC.out _ (GC0.out.trans (gr_of B5.out))) (fun hq => by rw [HLEN.out]; have : nx ≤ k3 + 1 := (by omega); exact Nat.mul_le_mul_right 42 this)) (fun u hu => ONE.out u (List.mem_of_mem_drop hu)) (by unfold maxLen; omega) (by omega) B5.out.size ?_; intro v6 w6 hown6 hb6; have B6 := Lib.hid (B5.out.trans hb6); have O6 := Lib.hid hown6; obtain ⟨A6, c6, rfl⟩ := own_form hown6; clear hown6 hb6 b3; have b4 : w6.cell? ⟨wo.heap.size, 3, none⟩ = some (.slice (some ⟨g, 0, none⟩) nx iC) := (AT.out _ (GC.out.trans (gr_of B6.out))).1; have f4 : w6.frozen? ⟨wo.heap.size, 3, none⟩ = false := frozen_at ((GC.out.trans (gr_of B6.out)).keep CA.out))
                  generalize (if iC = k3 + 1 then some (⟨g, 0, none⟩ : Addr) else some ⟨g, (k3 + 1) * 42, none⟩) = a198
                  go_upto_region 43 with fail
                  clear b4 f4
                  obtain ⟨n6, hn6⟩ : ∃ n6, k3 + (I.length + 1 + J.length - (k3 + 1)) = n6 := ⟨_, rfl⟩
                  have OO : w6.ownsRow wc.heap.size 59 42 (.slice A6 n6 c6) n6 (css.flatten.take (k3 * 42) ++ css.flatten.drop ((k3 + 1) * 42)) := by
                    have := O6.out
                    simp only [Nat.zero_add, List.nil_append, hn6] at this
                    exact this
                  have hn7 : (I ++ J).length = n6 := by rw [hyl]; omega
                  rw [hn6]
                  clear hn6
                  obtain ⟨W7, eW7, GZ, C7, D7, M7⟩ : ∃ W7, w6.setCell ⟨wo.heap.size, 3, none⟩ (.slice A6 n6 c6) = W7 ∧ Hid (Gr wo W7) ∧ Hid (W7.heap[wo.heap.size]? = some (.cells #[.string (str m.name), .slice pA m.params.length pC, .slice qA m.ports.length qC, .slice A6 n6 c6] 48 (0, 0))) ∧ Hid (W7.heap[wo.heap.size + 1]? = some (.cells #[.string (str m.name), .slice pA' m.params.length pC', .slice qA' m.ports.length qC', .slice iA' (I.length + J.length) iC'] 48 (0, 0))) ∧ Hid (MoAt W7 (fun _ => True) { m with items := I ++ J } [.string (str m.name), .slice pA m.params.length pC, .slice qA m.ports.length qC, .slice A6 n6 c6]) := by
                    have hB := GC.out.trans (gr_of B6.out)
                    have hx := hB.keep CA.out
                    have hy := hB.keep CB.out
                    have hlt := heap_lt CB.out
                    have hsz := GC.out.size
                    have hgr : Gr wo (w6.setCell ⟨wo.heap.size, 3, none⟩ (.slice A6 n6 c6)) := gr_set (GW.out.trans hB) (Nat.le_refl _)
                    refine ⟨_, rfl, Lib.hid hgr, Lib.hid ?_, Lib.hid ?_, Lib.hid ?_⟩
                    · simp [World.setCell, Array.getElem?_modify, hx]
                    · rw [show (w6.setCell ⟨wo.heap.size, 3, none⟩ (.slice A6 n6 c6)).heap[wo.heap.size + 1]? = w6.heap[wo.heap.size + 1]? by simp [World.setCell, Array.getElem?_modify]]
                      exact hy
                    · exact mo_cut hgr MA.out HI1.out.2.1 HI1.out.2.2 HT.out hn7 (own_set OO (by omega))
                  rw [eW7]
                  clear eW7 OO
                  have SM := Lib.hid (show Calls Tryd.prog 17 #[.agg #[.string (str m.name), .slice pA m.params.length pC, .slice qA m.ports.length qC, .slice A6 n6 c6], .agg #[.string (str m.name), .slice pA' m.params.length pC', .slice qA' m.ports.length qC', .slice iA' (I.length + J.length) iC']] W7 (fun e w' => e = .returned (.bool true) ∧ Gr wo w') from (SameModule_yes { m with items := I ++ J } _ _ _ _ _ M7 (Lib.hid (by have h := MB.out.gr GZ.out; simp only [List.length_append] at h; exact h))).mono fun e w' h => ⟨h.1, GZ.out.trans h.2⟩)
                  have a0 : W7.cell? ⟨wo.heap.size, 0, none⟩ = some (.string (str m.name)) := by rw [cell_at C7.out]; rfl
                  have a1 : W7.cell? ⟨wo.heap.size, 1, none⟩ = some (.slice pA m.params.length pC) := by rw [cell_at C7.out]; rfl
                  have a2 : W7.cell? ⟨wo.heap.size, 2, none⟩ = some (.slice qA m.ports.length qC) := by rw [cell_at C7.out]; rfl
                  have a3 : W7.cell? ⟨wo.heap.size, 3, none⟩ = some (.slice A6 n6 c6) := by rw [cell_at C7.out]; rfl
                  have b0 : W7.cell? ⟨wo.heap.size + 1, 0, none⟩ = some (.string (str m.name)) := by rw [cell_at D7.out]; rfl
                  have b1 : W7.cell? ⟨wo.heap.size + 1, 1, none⟩ = some (.slice pA' m.params.length pC') := by rw [cell_at D7.out]; rfl
                  have b2 : W7.cell? ⟨wo.heap.size + 1, 2, none⟩ = some (.slice qA' m.ports.length qC') := by rw [cell_at D7.out]; rfl
                  have b3 : W7.cell? ⟨wo.heap.size + 1, 3, none⟩ = some (.slice iA' (I.length + J.length) iC') := by rw [cell_at D7.out]; rfl
                  go_wp2_with (go_at_call 17; (with_reducible refine SM.out.mono ?_); rintro e w8 ⟨rfl, hw8⟩; have G8 := Lib.hid hw8; clear hw8)
                  go_roundg (gk - 1)
                  case measure => have := HI.out; omega
                  case rel => exact ⟨i + 1, 1, by have := HI.out; omega, rfl, by go_num, Lib.hid (by have := HIA.out; rw [if_pos (by omega)]), Lib.hid (GR.out.trans G8.out)⟩
              · obtain rfl := hup.1 hia
                obtain ⟨pA, pC, qA, qC, iA, iC, rfl, rfl, rfl⟩ := mo_form MA.out
                obtain ⟨pA', pC', qA', qC', iA', iC', rfl, rfl, rfl⟩ := mo_form MB.out
                have SM := Lib.hid (show Calls Tryd.prog 17 #[.agg #[.string (str m.name), (.slice pA m.params.length pC), (.slice qA m.ports.length qC), .slice iA m.items.length iC], .agg #[.string (str m.name), (.slice pA' m.params.length pC'), (.slice qA' m.ports.length qC'), .slice iA' m.items.length iC']] ((wr.alloc (.cells #[.string (str m.name), (.slice pA m.params.length pC), (.slice qA m.ports.length qC), .slice iA m.items.length iC] 48)).alloc (.cells #[.string (str m.name), (.slice pA' m.params.length pC'), (.slice qA' m.ports.length qC'), .slice iA' m.items.length iC'] 48)) (fun e w' => e = .returned (.bool true) ∧ Gr wr w') from (SameModule_yes m _ _ _ _ _ (Lib.hid (MA.out.gr ((Gr.alloc _ _).trans (Gr.alloc _ _)))) (Lib.hid (MB.out.gr ((Gr.alloc _ _).trans (Gr.alloc _ _))))).mono fun e w' h => ⟨h.1, ((Gr.alloc _ _).trans (Gr.alloc _ _)).trans h.2⟩)
                have HIA := Lib.hid hia
                clear hia hup
                go_wp2_with (go_at_call 17; (with_reducible refine SM.out.mono ?_); rintro e w7 ⟨rfl, hw7⟩; have G7 := Lib.hid hw7; clear hw7)
                go_roundg (gk - 1)
                case measure => have := HI.out; omega
                case rel => exact ⟨i + 1, lv, by have := HI.out; omega, rfl, by go_num, Lib.hid (by
                  rw [HLV.out]
                  have := HIA.out
                  by_cases hq : Am.length < i
                  · rw [if_pos hq, if_pos (by omega)]
                  · rw [if_neg hq, if_neg (by omega)]), Lib.hid (GR.out.trans G7.out)⟩
            · have hi1 : ¬ ((i : Int) < (ms.length : Int)) := by omega
              obtain rfl : lv = 1 := by
                rw [HLV.out, if_pos]
                have : ms.length = Am.length + (Bm.length + 1) := by rw [HMS.out.1]; simp
                omega
              go_wp2_with fail
              go_ret
              exact ⟨rfl, S3.out.1.trans ((bel_of GA.out).mono S3.out.1.size)⟩
end Go.Proofs.YtccjbpghpoblhaaDoor

