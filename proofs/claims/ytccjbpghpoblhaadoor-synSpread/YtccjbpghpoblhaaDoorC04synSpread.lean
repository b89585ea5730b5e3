/-
  SynSpread, WALKED: true of every text.
-/
import Derived.Test.YtccjbpghpoblhaaDoorK34
import Derived.Test.YtccjbpghpoblhaaDoorC01synSpread
import Derived.Test.YtccjbpghpoblhaaDoorC02synSpread
import Derived.Test.YtccjbpghpoblhaaDoorC03synSpread
import Derived.IntWalk
import Derived.BigQuiet
namespace Go.Proofs.YtccjbpghpoblhaaDoor
open Go.RowKit

theorem gTexts_of (ts : List LexM.Tk) : gTexts (ts.map gOf) = ts.map (·.text) := by
  unfold gTexts gOf
  rw [List.map_map]
  apply List.map_congr_left
  intro t _
  simp [str_data]
/-- a row of tokens as Text takes it -/
theorem toks_own {w : World} {base : Nat} {A : Option Addr} {n c : Nat} {ts : List LexM.Tk} (h : w.ownsRow base 37 4 (.slice A n c) ts.length (rowOf ts)) : Toks w w.heap.size A (ts.map gOf) := by
  intro i t hi
  rw [List.getElem?_map] at hi
  obtain ⟨x, hx, rfl⟩ := Option.map_eq_some_iff.1 hi
  have q : ∀ k, k < 4 → ∃ g, A = some ⟨g, 0, none⟩ ∧ g < w.heap.size ∧ w.cell? ⟨g, i * 4 + k, none⟩ = (tkCells x)[k]? := fun k hk => by
    obtain ⟨g, cap, hv, _, hgl, c0⟩ := row_cell (f := tkCells) (fun a => rfl) h (j := k) hx hk
    injection hv with hv _ _
    exact ⟨g, hv, hgl, c0⟩
  obtain ⟨g, hA, hgl, c0⟩ := q 0 (by omega)
  have r : ∀ k, k < 4 → w.cell? ⟨g, 0 + i * 4 + k, none⟩ = (tkCells x)[k]? := fun k hk => by
    obtain ⟨g', hA', _, c1⟩ := q k hk
    rw [hA] at hA'
    have e : g = g' := by simpa using hA'
    subst e
    rw [Nat.zero_add]
    exact c1
  exact ⟨g, 0, hA, hgl, r 0 (by omega), r 1 (by omega), r 2 (by omega), r 3 (by omega)⟩
/-- the first two cells of a fault -/
theorem fl_two {w : World} {F : Nat → Prop} {xs : List (Nat × Nat)} {A : Option Addr} {n c : Nat} (h : FlAt w F xs (.slice A n c)) {j : Nat} {x : Nat × Nat} (hx : xs[j]? = some x) : ∃ g, A = some ⟨g, 0, none⟩ ∧ g < w.heap.size ∧ w.cell? ⟨g, j * 4, none⟩ = some (.int .i64 (x.1 : Nat)) ∧ w.cell? ⟨g, j * 4 + 1, none⟩ = some (.int .i64 (x.2 : Nat)) := by
  have hs4 : ∀ a, (flCells a).length = 4 := fun a => rfl
  obtain ⟨g, cap, hv, _, hgl, c0⟩ := row_cell hs4 h.1 (j := 0) hx (by omega)
  obtain ⟨g1, cap1, hv1, _, _, c1⟩ := row_cell hs4 h.1 (j := 1) hx (by omega)
  have : g = g1 := by rw [hv] at hv1; simp at hv1; exact hv1.1
  subst this
  injection hv with hv _ _
  exact ⟨g, hv, hgl, c0, c1⟩
/-- a token's place -/
theorem tok_at {w : World} {base n c : Nat} {A : Option Addr} {ts : List LexM.Tk} (h : w.ownsRow base 37 4 (.slice A n c) ts.length (rowOf ts)) {k : Nat} {t : LexM.Tk} (ht : ts[k]? = some t) : ∃ g, A = some ⟨g, 0, none⟩ ∧ g < w.heap.size ∧ w.cell? ⟨g, k * 4 + 3, none⟩ = some (.int .i64 (t.pos : Nat)) := by
  obtain ⟨g, cap, hv, _, hgl, c0⟩ := row_cell (f := tkCells) (fun a => rfl) h (j := 3) ht (by omega)
  injection hv with hv _ _
  exact ⟨g, hv, hgl, c0⟩
theorem own_gr {w w' : World} {base : Nat} {e : TypeId} {size : Nat} {v : Value} {n : Nat} {xs : List Value} (h : w.ownsRow base e size v n xs) (hg : Gr w w') : w'.ownsRow base e size v n xs :=
  ⟨h.1, h.2.imp id (fun ⟨g, cap, cur, h1, h2, h3, h4⟩ => ⟨g, cap, cur, h1, h2, hg.keep h3, h4⟩)⟩
theorem gr_cell {w w' : World} {g o : Nat} {v : Value} (hg : Gr w w') (hl : g < w.heap.size) (h : w.cell? ⟨g, o, none⟩ = some v) : w'.cell? ⟨g, o, none⟩ = some v := (World.cell?_of_block (a := ⟨g, o, none⟩) (hg.block g hl (by simp))).trans h

set_option maxRecDepth 100000 in
set_option maxHeartbeats 4000000 in
theorem spread_walk (s : ByteArray) (w : World) (hs : s.size ≤ maxLen) (hsg : Hid (SgLaid w)) (hop : Hid (OpLaid w)) :
    Calls Tryd.prog 4 #[.string s] w fun e w' => e = .returned (.bool true) ∧ Below w.heap.size w w' := by
  have S0 : Hid (Stg w w) := Lib.hid ⟨Below.refl _ _, hsg.out, hop.out⟩
  obtain ⟨t, ht⟩ : ∃ t, t = str (s.data.toList.take 3000) := ⟨_, rfl⟩
  have hts : t.size ≤ 3000 := by rw [ht]; exact few_size s
  have FW := few_any s
  rw [← ht] at FW
  clear ht
  have HFW := Lib.hid (fun u => FW u hs)
  clear FW
  rcases hL : lexOut t.data.toList with ⟨ts, en, ei⟩
  rcases hO : parseOut t.data.toList with ⟨ms, fs⟩
  have HL := Lib.hid hL
  have HO := Lib.hid hO
  clear hL hO
  go_enter Tryd.func4, Tryd.ntmps4
  go_wp2_with fail
  refine (head_any w hsg hop).mono ?_
  rintro e w1 ⟨rfl, hb⟩
  have S1 := Lib.hid (S0.out.step hb)
  clear hb
  go_wp2_with fail
  refine (HFW.out w1).mono ?_
  rintro e w1' ⟨rfl, rfl⟩
  have LX := Lex_any t w1 (by omega) (Lib.hid S1.out.2.1)
  rw [HL.out] at LX
  have HLX := Lib.hid LX
  clear LX
  go_wp2_with fail
  refine HLX.out.mono ?_
  rintro e w2 ⟨v, rfl, hown, hb⟩
  obtain ⟨A2, c2, rfl⟩ := own_form hown
  have S2 := Lib.hid (S1.out.step hb)
  have O2 := Lib.hid hown
  clear hb hown HLX
  by_cases he : en = 0
  case neg =>
    have hd : ((en : Int) != 0) = true := by simp; omega
    go_wp2
    go_ret
    exact ⟨rfl, S2.out.1⟩
  subst he
  obtain ⟨us, hul, hux, huts, hpm, hpl, hpe⟩ := parse_spread (l := t.data.toList) (by rw [← Lib.size_eq]; exact hts) HL.out
  have htl : ts.length ≤ 20000 := by have := (lexOut_bounds (l := t.data.toList) (by rw [← Lib.size_eq]; omega)).1; rw [HL.out] at this; exact this
  have hf20 : fs.length ≤ 20 := by
    have := (parse_places (l := t.data.toList) (by rw [← Lib.size_eq]; omega) (by rw [HL.out])).1
    rw [HO.out] at this
    exact this
  obtain ⟨u, hu⟩ : ∃ u, u = str (LexM.joinSp (ts.map (·.text))) := ⟨_, rfl⟩
  have hud : u.data.toList = LexM.joinSp (ts.map (·.text)) := by rw [hu, str_data]
  have hus : u.size ≤ 6000 := by rw [Lib.size_eq, hud]; exact hul
  have TX := Lib.hid (show Calls Tryd.prog 13 #[.slice A2 ts.length c2] w2 (fun e w' => e = .returned (.string u) ∧ Below w2.heap.size w2 w') from by
    have h := Text_any A2 c2 (ts.map gOf) w2 (by simp; unfold maxLen; omega) (Lib.hid (toks_own O2.out)) (Lib.hid (by rw [gTexts_of]; omega))
    rw [List.length_map, gTexts_of, ← hu] at h
    exact h)
  rw [← hud] at hux hpm hpl hpe
  rcases hO2 : parseOut u.data.toList with ⟨ms2, gs⟩
  rw [hO2, HO.out] at hpm hpl hpe
  simp only at hpm hpl hpe
  subst hpm
  have HU := Lib.hid hux
  have HO2 := Lib.hid hO2
  have HPE := Lib.hid hpe
  have HGL := Lib.hid hpl
  have HUL := Lib.hid huts
  clear hux hO2 hpe hu hud hul hpl huts
  have hd : (((0 : Nat) : Int) != 0) = false := by simp
  go_wp2_with fail
  refine TX.out.mono ?_
  rintro e w3 ⟨rfl, hb⟩
  have S3 := Lib.hid (S2.out.step hb)
  have O3 := Lib.hid (own_gr O2.out (gr_of hb))
  clear hb
  have LX := Lex_any u w3 (by omega) (Lib.hid S3.out.2.1)
  rw [HU.out] at LX
  have HLX := Lib.hid LX
  clear LX
  go_wp2_with fail
  refine HLX.out.mono ?_
  rintro e w4 ⟨v, rfl, hown, hb⟩
  obtain ⟨A4, c4, rfl⟩ : ∃ A c, v = .slice A ts.length c := by
    obtain ⟨A, c, h⟩ := own_form hown
    exact ⟨A, c, by rw [h]; show Value.slice A us.length c = _; rw [HUL.out]⟩
  have S4 := Lib.hid (S3.out.step hb)
  have O4 := Lib.hid (And.intro (own_gr O3.out (gr_of hb)) hown)
  clear hb hown HLX
  go_wp2_with fail
  refine (Parse_is (by omega) S4.out.2.1 S4.out.2.2 HO.out).mono ?_
  rintro e w5 ⟨hb, mv, fv, rfl, hm, hf⟩
  obtain ⟨A5, c5, rfl⟩ := mods_form hm
  obtain ⟨B5, d5, rfl⟩ := row_form hf
  have hb' : Below w5.heap.size w5 (w5.alloc (.cells #[.slice A5 ms2.length c5] 26)) := (Below.refl _ _).alloc (Nat.le_refl _) _
  have S5 := Lib.hid ((S4.out.step hb).step hb')
  have M5 := Lib.hid (And.intro (hm.keep (fun _ h => h) (fun _ _ _ ho => (gr_of hb').keep ho)) (And.intro (hf.gr (gr_of hb')) (new_at w5 (.cells #[.slice A5 ms2.length c5] 26))))
  have O5 := Lib.hid (And.intro (own_gr O4.out.1 ((gr_of hb).trans (gr_of hb'))) (own_gr O4.out.2 ((gr_of hb).trans (gr_of hb'))))
  clear hb hm hf hb'
  go_wp2_with fail
  refine (Parse_is (by omega) S5.out.2.1 S5.out.2.2 HO2.out).mono ?_
  rintro e w6 ⟨hb, mv, fv, rfl, hm, hf⟩
  obtain ⟨A6, c6, rfl⟩ := mods_form hm
  obtain ⟨B6, d6, rfl⟩ : ∃ B d, fv = .slice B fs.length d := by
    obtain ⟨B, d, h⟩ := row_form hf
    exact ⟨B, d, by rw [h]; show Value.slice B gs.length d = _; rw [HGL.out]⟩
  have hb' : Below w6.heap.size w6 (w6.alloc (.cells #[.slice A6 ms2.length c6] 26)) := (Below.refl _ _).alloc (Nat.le_refl _) _
  have S6 := Lib.hid ((S5.out.step hb).step hb')
  have M6 := Lib.hid (And.intro (hm.keep (fun _ h => h) (fun _ _ _ ho => (gr_of hb').keep ho)) (And.intro (hf.gr (gr_of hb')) (new_at w6 (.cells #[.slice A6 ms2.length c6] 26))))
  have G56 := Lib.hid ((gr_of hb).trans (gr_of hb'))
  clear hb hm hf hb'
  have N5 := Lib.hid (And.intro (M5.out.1.keep (fun _ h => h) (fun _ _ _ ho => G56.out.keep ho)) (And.intro (M5.out.2.1.gr G56.out) (G56.out.keep M5.out.2.2)))
  have O6 := Lib.hid (And.intro (own_gr O5.out.1 G56.out) (own_gr O5.out.2 G56.out))
  clear M5 O5 O4 O3 O2 G56
  go_upto_region 10 with fail
  generalize (w6.alloc (.cells #[.slice A6 ms2.length c6] 26)) = X at S6 M6 N5 O6 ⊢
  go_wp2_with fail
  go_loopg [16] fs.length (fun g i wr => ∃ j : Nat, j + g = fs.length ∧ i = .int .i64 (j : Nat) ∧ Hid (Gr X wr))
  case atStart => exact ⟨0, by omega, rfl, Lib.hid (Gr.refl _)⟩
  case round =>
    obtain ⟨j, hj, rfl, GR⟩ := hrel
    have HJ := Lib.hid hj
    have hjl : j ≤ fs.length := by omega
    clear hj
    by_cases hlt : j < fs.length
    · obtain ⟨x, hx⟩ : ∃ x, fs[j]? = some x := ⟨_, List.getElem?_eq_getElem hlt⟩
      obtain ⟨y, hy⟩ : ∃ y, gs[j]? = some y := ⟨_, List.getElem?_eq_getElem (by rw [HGL.out]; exact hlt)⟩
      obtain ⟨h1, h2⟩ := HPE.out j x y hx hy
      obtain ⟨gx, rfl, hgx, x0, x1⟩ := fl_two N5.out.2.1 hx
      obtain ⟨gy, rfl, hgy, y0, y1⟩ := fl_two M6.out.2.1 hy
      have HH := Lib.hid h2
      have KX := Lib.hid (show ∀ v, Gr X v → v.cell? ⟨gx, j * 4, none⟩ = some (.int .i64 (x.1 : Nat)) ∧ v.cell? ⟨gx, j * 4 + 1, none⟩ = some (.int .i64 (x.2 : Nat)) ∧ v.cell? ⟨gy, j * 4, none⟩ = some (.int .i64 (x.1 : Nat)) ∧ v.cell? ⟨gy, j * 4 + 1, none⟩ = some (.int .i64 (y.2 : Nat)) from fun v hv => ⟨gr_cell hv hgx x0, gr_cell hv hgx x1, by rw [h1]; exact gr_cell hv hgy y0, gr_cell hv hgy y1⟩)
      clear x0 x1 y0 y1 h1 h2 hx hy hgx hgy
      have hd1 : ((j : Int) < (fs.length : Int)) := by omega
      have hd0 : (0 : Int) ≤ (j : Int) := by omega
      obtain ⟨x0, x1, y0, y1⟩ := KX.out wr GR.out
      go_wp2_with fail
      go_quiet (fail)
      have G2 := Lib.hid (GR.out.trans (Gr.drewN wr nq))
      clear x0 x1 y0 y1
      go_wp2_with fail
      go_loopg [17] ts.length (fun q i v => ∃ k : Nat, k + q = ts.length ∧ i = .int .i64 (k : Nat) ∧ Hid (Gr X v))
      case atStart => exact ⟨0, by omega, rfl, G2⟩
      case round =>
        obtain ⟨k, hk, rfl, GV⟩ := hrel
        have HK := Lib.hid hk
        have hkl : k ≤ ts.length := by omega
        clear hk
        by_cases hlt2 : k < ts.length
        · obtain ⟨a, ha⟩ : ∃ a, ts[k]? = some a := ⟨_, List.getElem?_eq_getElem hlt2⟩
          obtain ⟨b, hb⟩ : ∃ b, us[k]? = some b := ⟨_, List.getElem?_eq_getElem (by rw [HUL.out]; exact hlt2)⟩
          obtain ⟨ga, rfl, hga, p0⟩ := tok_at O6.out.1 ha
          obtain ⟨gb, rfl, hgb, p1⟩ := tok_at O6.out.2 hb
          have z0 := gr_cell GV.out hga p0
          have z1 := gr_cell GV.out hgb p1
          obtain ⟨x0, x1, y0, y1⟩ := KX.out _ GV.out
          have hk1 : ((k : Int) < (ts.length : Int)) := by omega
          have hk0 : (0 : Int) ≤ (k : Int) := by omega
          clear p0 p1 hga hgb
          by_cases h21 : x.1 = 21
          · have e21 : ((x.1 : Int) != 21) = false := by simp; omega
            have H21 := Lib.hid h21
            clear h21 ha hb
            go_wp2_with fail
            go_quiet (fail)
            go_wp2_with fail
            go_roundg (gk - 1)
            case measure => have := HK.out; omega
            case rel => exact ⟨k + 1, by have := HK.out; omega, by go_num, Lib.hid (GV.out.trans (Gr.drewN _ _))⟩
          · have e21 : ((x.1 : Int) != 21) = true := by simp; omega
            have hiff := HH.out h21 k a b ha hb
            have H21 := Lib.hid h21
            clear h21 ha hb
            by_cases hxa : x.2 = a.pos
            · have q1 : ((x.2 : Int) == (a.pos : Int)) = true := by simp; omega
              have q2 : ((y.2 : Int) == (b.pos : Int)) = true := by have := hiff.1 hxa; simp; omega
              have HXA := Lib.hid (And.intro hxa hiff)
              clear hxa hiff
              go_wp2_with fail
              go_quiet (fail)
              go_wp2_with fail
              go_roundg (gk - 1)
              case measure => have := HK.out; omega
              case rel => exact ⟨k + 1, by have := HK.out; omega, by go_num, Lib.hid (GV.out.trans (Gr.drewN _ _))⟩
            · have q1 : ((x.2 : Int) == (a.pos : Int)) = false := by simp; omega
              have q2 : ((y.2 : Int) == (b.pos : Int)) = false := by have : ¬ y.2 = b.pos := fun h => hxa (hiff.2 h); simp; omega
              have HXA := Lib.hid (And.intro hxa hiff)
              clear hxa hiff
              go_wp2_with fail
              go_quiet (fail)
              go_wp2_with fail
              go_roundg (gk - 1)
              case measure => have := HK.out; omega
              case rel => exact ⟨k + 1, by have := HK.out; omega, by go_num, Lib.hid (GV.out.trans (Gr.drewN _ _))⟩
        · have hk1 : ¬ ((k : Int) < (ts.length : Int)) := by omega
          go_wp2_with fail
          go_roundg (fs.length - (j + 1))
          case measure => have := HJ.out; omega
          case rel => exact ⟨j + 1, by omega, by go_num, GV⟩
    · have hd1 : ¬ ((j : Int) < (fs.length : Int)) := by omega
      have k5 : wr.cell? ⟨w5.heap.size, 0, none⟩ = some (.slice A5 ms2.length c5) := by rw [cell_at (GR.out.keep N5.out.2.2)]; rfl
      have k6 : wr.cell? ⟨w6.heap.size, 0, none⟩ = some (.slice A6 ms2.length c6) := by rw [cell_at (GR.out.keep M6.out.2.2)]; rfl
      have SS := Lib.hid (show Calls Tryd.prog 14 #[.agg #[.slice A5 ms2.length c5], .agg #[.slice A6 ms2.length c6]] wr (fun e w' => e = .returned (.bool true) ∧ Gr wr w') from
        Same_yes ms2 A5 A6 _ c5 c6 _ _ wr rfl (Lib.hid (N5.out.1.keep (fun _ h => h) (fun _ _ _ ho => GR.out.keep ho))) (Lib.hid (M6.out.1.keep (fun _ h => h) (fun _ _ _ ho => GR.out.keep ho))))
      go_wp2_with (go_at_call 14; (with_reducible refine SS.out.mono ?_); rintro e w7 ⟨rfl, hw7⟩)
      go_ret
      exact ⟨rfl, S6.out.1.trans ((bel_of (GR.out.trans hw7)).mono S6.out.1.size)⟩
end Go.Proofs.YtccjbpghpoblhaaDoor

