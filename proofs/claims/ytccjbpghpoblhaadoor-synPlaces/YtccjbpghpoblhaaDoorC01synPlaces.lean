/-
  SynPlaces, WALKED: true of every text.
-/
import Derived.Test.YtccjbpghpoblhaaDoorK34
import Derived.Laws.StructEq
import Derived.IntWalk
namespace Go.Proofs.YtccjbpghpoblhaaDoor
open Go.RowKit

theorem eq35 (a b : Int) (w : World) :
    (binOp .eql 35 (.agg #[.int .i64 a, .int .i64 b, .int .i64 0, .int .i64 0]) (.agg #[.int .i64 a, .int .i64 b, .int .i64 0, .int .i64 0])).run Tryd.prog w = .ok (.bool true) w := by
  have hS : Tryd.prog.underlying 35 = some (.struct (Tryd.prog.fieldsOf 35)) := by kernel_rfl
  have hp : Tryd.prog.stoodInHeld 35 = false := by kernel_rfl
  have u3 := Tryd.underlying3
  rw [run_eql_struct, show (10000 : Nat) = 9999 + 1 from rfl, run_equalIn_agg w 9999 35 _ _ hS hp]
  simp only [Program.fieldsOf, Tryd.underlying35]
  go_simp

/-- the four cells of a fault -/
abbrev Fl4 (w : World) (g o : Nat) (x : Nat × Nat) : Prop := w.cell? ⟨g, o, none⟩ = some (.int .i64 (x.1 : Nat)) ∧ w.cell? ⟨g, o + 1, none⟩ = some (.int .i64 (x.2 : Nat)) ∧ w.cell? ⟨g, o + 2, none⟩ = some (.int .i64 0) ∧ w.cell? ⟨g, o + 3, none⟩ = some (.int .i64 0)
theorem fl_at {w : World} {F : Nat → Prop} {xs : List (Nat × Nat)} {A : Option Addr} {n c : Nat} (h : FlAt w F xs (.slice A n c)) {j : Nat} {x : Nat × Nat} (hx : xs[j]? = some x) : ∃ g, A = some ⟨g, 0, none⟩ ∧ g < w.heap.size ∧ Fl4 w g (j * 4) x := by
  have hs4 : ∀ a, (flCells a).length = 4 := fun a => rfl
  obtain ⟨g, cap, hv, _, hgl, c0⟩ := row_cell hs4 h.1 (j := 0) hx (by omega)
  have q : ∀ k, k < 4 → w.cell? ⟨g, j * 4 + k, none⟩ = (flCells x)[k]? := fun k hk => by
    obtain ⟨g1, cap1, hv1, _, _, c1⟩ := row_cell hs4 h.1 (j := k) hx hk
    have : g = g1 := by rw [hv] at hv1; simp at hv1; exact hv1.1
    subst this
    exact c1
  injection hv with hv _ _
  exact ⟨g, hv, hgl, q 0 (by omega), q 1 (by omega), q 2 (by omega), q 3 (by omega)⟩

/-- does a token begin there? -/
def begB (ts : List LexM.Tk) (a : Nat) : Bool := ts.any fun t => decide (t.pos = a)
theorem begB_step {ts : List LexM.Tk} {a k : Nat} {t : LexM.Tk} (h : ts[k]? = some t) : begB (ts.take (k + 1)) a = (begB (ts.take k) a || decide (t.pos = a)) := by
  unfold begB
  rw [List.take_add_one, h]
  simp
theorem begB_yes {ts : List LexM.Tk} {a k : Nat} {t : LexM.Tk} (h : ts[k]? = some t) (ha : t.pos = a) : begB ts a = true := by
  unfold begB
  rw [List.any_eq_true]
  exact ⟨t, List.mem_of_getElem? h, by simp [ha]⟩
theorem tok_pos {w : World} {base n c : Nat} {A : Option Addr} {ts : List LexM.Tk} (h : w.ownsRow base 37 4 (.slice A n c) ts.length (rowOf ts)) {k : Nat} {t : LexM.Tk} (ht : ts[k]? = some t) : ∃ g, A = some ⟨g, 0, none⟩ ∧ g < w.heap.size ∧ w.cell? ⟨g, k * 4 + 3, none⟩ = some (.int .i64 (t.pos : Nat)) := by
  obtain ⟨g, cap, hv, _, hgl, c0⟩ := row_cell (f := tkCells) (fun a => rfl) h (j := 3) ht (by omega)
  injection hv with hv _ _
  exact ⟨g, hv, hgl, c0⟩

set_option maxRecDepth 100000 in
set_option maxHeartbeats 4000000 in
theorem places_walk (s : ByteArray) (w : World) (hs : s.size ≤ maxLen) (hsg : Hid (SgLaid w)) (hop : Hid (OpLaid w)) :
    Calls Tryd.prog 3 #[.string s] w fun e w' => e = .returned (.bool true) ∧ Below w.heap.size w w' := by
  have S0 : Hid (Stg w w) := Lib.hid ⟨Below.refl _ _, hsg.out, hop.out⟩
  obtain ⟨t, ht⟩ : ∃ t, t = str (s.data.toList.take 3000) := ⟨_, rfl⟩
  have hts : t.size ≤ 3000 := by rw [ht]; exact few_size s
  have HT := Lib.hid ht
  clear ht
  rcases hL : lexOut t.data.toList with ⟨ts, en, ei⟩
  rcases hO : parseOut t.data.toList with ⟨ms, fs⟩
  have HL := Lib.hid hL
  have HO := Lib.hid hO
  clear hL hO
  have FW := few_any s
  rw [← HT.out] at FW
  have HFW := Lib.hid (fun u => FW u hs)
  clear FW
  go_enter Tryd.func3, Tryd.ntmps3
  go_wp2_with fail
  refine (head_any w hsg hop).mono ?_
  rintro e w1 ⟨rfl, hb⟩
  have S1 := Lib.hid (S0.out.step hb)
  clear hb
  go_wp2_with fail
  refine (HFW.out w1).mono ?_
  rintro e w1' ⟨rfl, rfl⟩
  go_wp2_with fail
  refine (Parse_is (by omega) S1.out.2.1 S1.out.2.2 HO.out).mono ?_
  rintro e w2 ⟨hb, mv, fv, rfl, hm, hf⟩
  obtain ⟨A2, c2, rfl⟩ := mods_form hm
  obtain ⟨B2, d2, rfl⟩ := row_form hf
  have hb' : Below w2.heap.size w2 (w2.alloc (.cells #[.slice A2 ms.length c2] 26)) := (Below.refl _ _).alloc (Nat.le_refl _) _
  have S2 := Lib.hid ((S1.out.step hb).step hb')
  have F2 := Lib.hid (hf.gr (gr_of hb'))
  clear hb hm hf hb'
  have LX := Lex_any t (w2.alloc (.cells #[.slice A2 ms.length c2] 26)) (by omega) (Lib.hid S2.out.2.1)
  rw [HL.out] at LX
  have HLX := Lib.hid LX
  clear LX
  go_wp2_with fail
  refine HLX.out.mono ?_
  rintro e w3 ⟨v, rfl, hown, hb⟩
  obtain ⟨A3, c3, rfl⟩ := own_form hown
  have S3 := Lib.hid (S2.out.step hb)
  have F3 := Lib.hid (F2.out.gr (gr_of hb))
  have O3 := Lib.hid hown
  clear hb hown
  by_cases he : en = 0
  · have hd : ((en : Int) != 0) = false := by simp; omega
    have HP := Lib.hid (parse_places (l := t.data.toList) (by rw [← Lib.size_eq]; omega) (by rw [HL.out]; exact he))
    rw [HL.out, HO.out] at HP
    have hfl : fs.length ≤ 20 := HP.out.1
    have HE := Lib.hid he
    clear he
    have HTL : Hid (ts.length ≤ 20000) := Lib.hid (by have := (lexOut_bounds (l := t.data.toList) (by rw [← Lib.size_eq]; omega)).1; rw [HL.out] at this; exact this)
    go_wp2_with fail
    go_loopg [10] fs.length (fun g i wr => ∃ j : Nat, j + g = fs.length ∧ i = .int .i64 (j : Nat) ∧ Hid (Gr w3 wr))
    case atStart => exact ⟨0, by omega, rfl, Lib.hid (Gr.refl _)⟩
    case round =>
      obtain ⟨j, hj, rfl, GR⟩ := hrel
      have HJ := Lib.hid hj
      have hjl : j ≤ fs.length := by omega
      clear hj
      by_cases hlt : j < fs.length
      · obtain ⟨x, hx⟩ : ∃ x, fs[j]? = some x := ⟨_, List.getElem?_eq_getElem hlt⟩
        have HX := Lib.hid hx
        have hd1 : ((j : Int) < (fs.length : Int)) := by omega
        have hd0 : (0 : Int) ≤ (j : Int) := by omega
        obtain ⟨g, rfl, hgl, f0, f1, f2, f3⟩ := fl_at F3.out hx
        have KF := Lib.hid (show ∀ u, Gr w3 u → Fl4 u g (j * 4) x from fun u hu => by
          have q : ∀ o, u.cell? ⟨g, o, none⟩ = w3.cell? ⟨g, o, none⟩ := fun o => World.cell?_of_block (a := ⟨g, o, none⟩) (hu.block g hgl (by simp))
          exact ⟨(q _).trans f0, (q _).trans f1, (q _).trans f2, (q _).trans f3⟩)
        clear f0 f1 f2 f3 hx
        obtain ⟨f0, f1, f2, f3⟩ := KF.out wr GR.out
        have hwl := GR.out.size
        go_wp2_with fail
        have GX : Gr w3 (wr.alloc (.cells #[.int .i64 (x.1 : Nat), .int .i64 (x.2 : Nat), .int .i64 0, .int .i64 0] 35)) := GR.out.trans (Gr.alloc _ _)
        have HGX := Lib.hid GX
        have CX := Lib.hid (new_at wr (.cells #[.int .i64 (x.1 : Nat), .int .i64 (x.2 : Nat), .int .i64 0, .int .i64 0] 35))
        clear GX f0 f1 f2 f3
        go_loopg [12, 13] ts.length (fun q b i u => ∃ (k : Nat) (bb : Bool), k + q = ts.length ∧ b = .bool bb ∧ i = .int .i64 (k : Nat) ∧ Hid (begB (ts.take k) x.2 = bb) ∧ Hid (Gr (wr.alloc (.cells #[.int .i64 (x.1 : Nat), .int .i64 (x.2 : Nat), .int .i64 0, .int .i64 0] 35)) u))
        case atStart => exact ⟨0, false, by omega, rfl, rfl, Lib.hid rfl, Lib.hid (Gr.refl _)⟩
        case round =>
          obtain ⟨k, bb, hk, rfl, rfl, HB, GU⟩ := hrel
          have HK := Lib.hid hk
          have hkl : k ≤ ts.length := by omega
          clear hk
          have hcx := GU.out.keep CX.out
          have x0 := cell_at (o := 0) hcx
          have x1 := cell_at (o := 1) hcx
          have x2 := cell_at (o := 2) hcx
          have x3 := cell_at (o := 3) hcx
          simp at x0 x1 x2 x3
          clear hcx
          have htl : ts.length ≤ 20000 := HTL.out
          by_cases hlt2 : k < ts.length
          · obtain ⟨tk, htk⟩ : ∃ tk, ts[k]? = some tk := ⟨_, List.getElem?_eq_getElem hlt2⟩
            obtain ⟨gt, rfl, hgtl, p3⟩ := tok_pos O3.out htk
            have y3 := (World.cell?_of_block (a := ⟨gt, k * 4 + 3, none⟩) ((HGX.out.trans GU.out).block gt hgtl (by simp))).trans p3
            have HTK := Lib.hid htk
            clear p3 htk x0 x2 x3
            have hk1 : ((k : Int) < (ts.length : Int)) := by omega
            have hk0 : (0 : Int) ≤ (k : Int) := by omega
            rcases bb with _ | _
            · by_cases hp : tk.pos = x.2
              · have hpe : ((tk.pos : Int) == (x.2 : Int)) = true := by simp; omega
                have HPP := Lib.hid hp
                clear hp
                go_wp2_with fail
                go_quiet (fail)
                go_wp2_with fail
                go_roundg (gk - 1)
                case measure => have := HK.out; omega
                case rel => exact ⟨k + 1, true, by have := HK.out; omega, rfl, by go_num, Lib.hid (by rw [begB_step HTK.out]; simp [HPP.out]), Lib.hid (GU.out.trans (Gr.drewN _ _))⟩
              · have hpe : ((tk.pos : Int) == (x.2 : Int)) = false := by simp; omega
                have HPP := Lib.hid hp
                clear hp
                go_wp2_with fail
                go_quiet (fail)
                go_wp2_with fail
                go_roundg (gk - 1)
                case measure => have := HK.out; omega
                case rel => exact ⟨k + 1, false, by have := HK.out; omega, rfl, by go_num, Lib.hid (by rw [begB_step HTK.out, HB.out]; simp [HPP.out]), Lib.hid (GU.out.trans (Gr.drewN _ _))⟩
            · go_wp2_with fail
              go_quiet (fail)
              go_wp2_with fail
              go_roundg (gk - 1)
              case measure => have := HK.out; omega
              case rel => exact ⟨k + 1, true, by have := HK.out; omega, rfl, by go_num, Lib.hid (by rw [begB_step HTK.out, HB.out]; simp), Lib.hid (GU.out.trans (Gr.drewN _ _))⟩
          · have hk1 : ¬ ((k : Int) < (ts.length : Int)) := by omega
            have hbb : begB ts x.2 = bb := by
              have := HB.out
              rw [List.take_of_length_le (by omega)] at this
              exact this
            have HBB := Lib.hid hbb
            clear hbb HB
            have hcase : (x = (21, t.size) ∧ j + 1 = fs.length) ∨ (bb = true ∧ (x.1 = 2 ∨ x.1 = 20)) := by
              rcases HP.out.2.2 j x HX.out with ⟨h1, h2⟩ | ⟨⟨k', t', h1, h2⟩, h3⟩
              · left; rw [Lib.size_eq]; exact ⟨h1, h2⟩
              · right; exact ⟨by rw [← HBB.out]; exact begB_yes h1 h2, h3⟩
            have HC := Lib.hid hcase
            clear hcase
            have hprev : j = 0 ∨ (0 < j ∧ ∃ y : Nat × Nat, y.2 ≤ x.2 ∧ wr.cell? ⟨g, (j - 1) * 4 + 1, none⟩ = some (.int .i64 (y.2 : Nat))) := by
              rcases Nat.eq_zero_or_pos j with h | h
              · exact .inl h
              · right
                obtain ⟨y, hy⟩ : ∃ y, fs[j - 1]? = some y := ⟨_, List.getElem?_eq_getElem (by omega)⟩
                obtain ⟨g', hg', hgl', _, q1, _, _⟩ := fl_at F3.out hy
                have e : g = g' := by simpa using hg'
                subst e
                refine ⟨h, y, HP.out.2.1 (j - 1) y x hy (by rw [show j - 1 + 1 = j by omega]; exact HX.out), ?_⟩
                exact (World.cell?_of_block (a := ⟨g, (j - 1) * 4 + 1, none⟩) ((HGX.out.trans GU.out).block g hgl' (by simp))).trans q1
            have hfl2 : (fs.length : Int) ≤ 20 := by omega
            rcases hprev with hj0 | ⟨hj0, y, hy2, cy⟩
            · have hz : ¬ ((0 : Int) < (j : Int)) := by omega
              rcases HC.out with ⟨hx', hj1⟩ | ⟨hb', h3⟩
              · have h21 : ((x.1 : Int) == 21) = true := by rw [hx']; rfl
                have hsz : ((x.2 : Int) == (t.size : Int)) = true := by rw [hx']; simp
                have hje : ((j : Int) == (fs.length : Int) - 1) = true := by simp; omega
                have hwf : IntKind.i64.wrap ((fs.length : Int) - 1) = (fs.length : Int) - 1 := IntWalk.i64_in _ (by omega)
                have HXX := Lib.hid (And.intro hx' hj1)
                have HJ0 := Lib.hid hj0
                clear hx' hj1 hj0
                go_wp2_with fail
                clear hje hwf hsz h21
                have hj0 := HJ0.out
                go_quiet (fail)
                go_wp2_with fail
                go_roundg (fs.length - (j + 1))
                case measure => have := HJ.out; omega
                case rel => exact ⟨j + 1, by have := HJ.out; omega, by go_num, Lib.hid ((HGX.out.trans GU.out).trans (Gr.drewN _ _))⟩
              · obtain rfl := hb'
                have h21 : ((x.1 : Int) == 21) = false := by simp; omega
                rcases h3 with h3 | h3
                · have e1 : ((x.1 : Int) != 20) = true := by simp; omega
                  have e2 : ((x.1 : Int) != 2) = false := by simp; omega
                  have H3 := Lib.hid h3
                  clear h3
                  go_wp2_with fail
                  go_quiet (fail)
                  go_wp2_with fail
                  go_roundg (fs.length - (j + 1))
                  case measure => have := HJ.out; omega
                  case rel => exact ⟨j + 1, by have := HJ.out; omega, by go_num, Lib.hid ((HGX.out.trans GU.out).trans (Gr.drewN _ _))⟩
                · have e1 : ((x.1 : Int) != 20) = false := by simp; omega
                  have H3 := Lib.hid h3
                  clear h3
                  go_wp2_with fail
                  go_quiet (fail)
                  go_wp2_with fail
                  go_roundg (fs.length - (j + 1))
                  case measure => have := HJ.out; omega
                  case rel => exact ⟨j + 1, by have := HJ.out; omega, by go_num, Lib.hid ((HGX.out.trans GU.out).trans (Gr.drewN _ _))⟩
            · have hz : ((0 : Int) < (j : Int)) := by omega
              have hw : IntKind.i64.wrap ((j : Int) - 1) = (j : Int) - 1 := IntWalk.i64_in _ (by omega)
              have hq0 : (0 : Int) ≤ (j : Int) - 1 := by omega
              have hq1 : (j : Int) - 1 < (fs.length : Int) := by omega
              have hq4 : (1 : Int) ≤ (j : Int) := by omega
              have hq5 : (j : Int) ≤ (fs.length : Int) := by omega
              have hq6 : (j : Int) < (fs.length : Int) + 1 := by omega
              have hq7 : (j : Int) - 1 ≤ 20 := by omega
              have hq8 : 1 ≤ j := by omega
              have hq2 : ((j : Int) - 1).toNat = j - 1 := by omega
              have hq3 : decide ((x.2 : Int) < (y.2 : Int)) = false := by simp; omega
              have hq9 : decide (x.2 < y.2) = false := by simp; omega
              rcases HC.out with ⟨hx', hj1⟩ | ⟨hb', h3⟩
              · have h21 : ((x.1 : Int) == 21) = true := by rw [hx']; rfl
                have hsz : ((x.2 : Int) == (t.size : Int)) = true := by rw [hx']; simp
                have hje : ((j : Int) == (fs.length : Int) - 1) = true := by simp; omega
                have hwf : IntKind.i64.wrap ((fs.length : Int) - 1) = (fs.length : Int) - 1 := IntWalk.i64_in _ (by omega)
                have HXX := Lib.hid (And.intro hx' hj1)
                clear hx' hj1
                go_wp2_with fail
                clear hje hwf hsz h21
                go_quiet (fail)
                go_wp2_with fail
                go_roundg (fs.length - (j + 1))
                case measure => have := HJ.out; omega
                case rel => exact ⟨j + 1, by have := HJ.out; omega, by go_num, Lib.hid ((HGX.out.trans GU.out).trans (Gr.drewN _ _))⟩
              · obtain rfl := hb'
                have h21 : ((x.1 : Int) == 21) = false := by simp; omega
                rcases h3 with h3 | h3
                · have e1 : ((x.1 : Int) != 20) = true := by simp; omega
                  have e2 : ((x.1 : Int) != 2) = false := by simp; omega
                  have H3 := Lib.hid h3
                  clear h3
                  go_wp2_with fail
                  go_quiet (fail)
                  go_wp2_with fail
                  go_roundg (fs.length - (j + 1))
                  case measure => have := HJ.out; omega
                  case rel => exact ⟨j + 1, by have := HJ.out; omega, by go_num, Lib.hid ((HGX.out.trans GU.out).trans (Gr.drewN _ _))⟩
                · have e1 : ((x.1 : Int) != 20) = false := by simp; omega
                  have H3 := Lib.hid h3
                  clear h3
                  go_wp2_with fail
                  go_quiet (fail)
                  go_wp2_with fail
                  go_roundg (fs.length - (j + 1))
                  case measure => have := HJ.out; omega
                  case rel => exact ⟨j + 1, by have := HJ.out; omega, by go_num, Lib.hid ((HGX.out.trans GU.out).trans (Gr.drewN _ _))⟩
      · have hd1 : ¬ ((j : Int) < (fs.length : Int)) := by omega
        go_wp2_with fail
        go_ret
        exact ⟨rfl, S3.out.1.trans ((bel_of GR.out).mono S3.out.1.size)⟩
  · have hd : ((en : Int) != 0) = true := by simp; omega
    have hfs : ms = [] ∧ fs = [(en, ei)] := by
      have h1 := parse_lexerr (l := t.data.toList) (by rw [HL.out]; exact he)
      rw [HO.out, HL.out] at h1
      simpa using h1
    obtain ⟨rfl, rfl⟩ := hfs
    obtain ⟨g, rfl, hgl, f0, f1, f2, f3⟩ := fl_at F3.out (j := 0) rfl
    simp only [Nat.zero_mul, Nat.zero_add] at f0 f1 f2 f3
    have heq := eq35 (en : Int) (ei : Int)
    go_wp2
    go_ret
    exact ⟨rfl, S3.out.1⟩
end Go.Proofs.YtccjbpghpoblhaaDoor

