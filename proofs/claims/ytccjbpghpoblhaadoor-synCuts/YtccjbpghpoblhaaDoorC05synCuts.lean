/-
  SynCuts, WALKED: true of every text and every number.
-/
import Derived.Test.YtccjbpghpoblhaaDoorK34
import Derived.Test.YtccjbpghpoblhaaDoorC01synCuts
import Derived.Test.YtccjbpghpoblhaaDoorC04synCuts
import Derived.Laws.StructEq
import Derived.IntWalk
namespace Go.Proofs.YtccjbpghpoblhaaDoor
open Go.RowKit

theorem neq35 (a b : Int) (w : World) :
    (binOp .neq 35 (.agg #[.int .i64 a, .int .i64 b, .int .i64 0, .int .i64 0]) (.agg #[.int .i64 a, .int .i64 b, .int .i64 0, .int .i64 0])).run Tryd.prog w = .ok (.bool false) w := by
  have hS : Tryd.prog.underlying 35 = some (.struct (Tryd.prog.fieldsOf 35)) := by kernel_rfl
  have hp : Tryd.prog.stoodInHeld 35 = false := by kernel_rfl
  have u3 := Tryd.underlying3
  rw [run_neq_struct, show (10000 : Nat) = 9999 + 1 from rfl, run_equalIn_agg w 9999 35 _ _ hS hp]
  simp only [Program.fieldsOf, Tryd.underlying35]
  go_simp

theorem flat_take : ∀ (css : List (List Value)) (k : Nat), (∀ c ∈ css, c.length = 4) → (css.take k).flatten = css.flatten.take (k * 4)
  | [], k, _ => by simp
  | c :: r, 0, _ => by simp
  | c :: r, k + 1, h => by
    have h4 : c.length = 4 := h c (by simp)
    rw [List.take_succ_cons, List.flatten_cons, List.flatten_cons, flat_take r k (fun x hx => h x (by simp [hx])), List.take_append, h4, show (k + 1) * 4 - 4 = k * 4 by omega, List.take_of_length_le (l := c) (by omega)]
/-- the first modules of a row -/
theorem mods_take {w : World} {F : Nat → Prop} {b rest : List Mo} {g n c : Nat} (h : ModsAt w F (b ++ rest) (.slice (some ⟨g, 0, none⟩) n c)) : ModsAt w F b (.slice (some ⟨g, 0, none⟩) b.length c) ∧ (b ++ rest).length ≤ c := by
  obtain ⟨css, hr, hl, hq⟩ := h
  have l4 : ∀ c ∈ css, c.length = 4 := css_len hl hq (fun k c hk => by obtain ⟨_, _, _, rfl, _⟩ := hk; rfl)
  rcases hr.1.2 with ⟨hv, _⟩ | ⟨g', cap, cur, hv, hb, hh, h1, h2, h3, h4⟩
  · cases hv
  injection hv with hv hv2 hv3
  obtain rfl : g = g' := by simpa using hv
  subst hv3
  have hbl : b.length ≤ (b ++ rest).length := by simp
  refine ⟨⟨css.take b.length, ⟨⟨?_, .inr ⟨g, c, cur, rfl, hb, hh, by omega, h2, h3, ?_⟩⟩, hr.2⟩, by rw [List.length_take, hl]; omega, fun j m hm => ?_⟩, h1⟩
  · rw [flat_take _ _ l4, List.length_take, hr.1.1]
    have : b.length * 4 ≤ (b ++ rest).length * 4 := Nat.mul_le_mul_right _ hbl
    omega
  · rw [flat_take _ _ l4, ← h4, List.take_take, Nat.min_eq_left (Nat.mul_le_mul_right _ hbl)]
  · have hjl : j < b.length := (List.getElem?_eq_some_iff.1 hm).1
    obtain ⟨cs, e1, e2⟩ := hq j m (by rw [List.getElem?_append_left hjl]; exact hm)
    exact ⟨cs, by rw [List.getElem?_take, if_pos hjl]; exact e1, e2⟩
theorem gr_cell {w w' : World} {g o : Nat} {v : Value} (hg : Gr w w') (hl : g < w.heap.size) (h : w.cell? ⟨g, o, none⟩ = some v) : w'.cell? ⟨g, o, none⟩ = some v := (World.cell?_of_block (a := ⟨g, o, none⟩) (hg.block g hl (by simp))).trans h
/-- a token's text, and its place -/
theorem tok_two {w : World} {base n c : Nat} {A : Option Addr} {ts : List LexM.Tk} (h : w.ownsRow base 37 4 (.slice A n c) ts.length (rowOf ts)) {k : Nat} {t : LexM.Tk} (ht : ts[k]? = some t) : ∃ g, A = some ⟨g, 0, none⟩ ∧ g < w.heap.size ∧ w.cell? ⟨g, k * 4 + 1, none⟩ = some (.string (str t.text)) ∧ w.cell? ⟨g, k * 4 + 3, none⟩ = some (.int .i64 (t.pos : Nat)) := by
  obtain ⟨g, cap, hv, _, hgl, c0⟩ := row_cell (f := tkCells) (fun a => rfl) h (j := 1) ht (by omega)
  obtain ⟨g1, cap1, hv1, _, _, c1⟩ := row_cell (f := tkCells) (fun a => rfl) h (j := 3) ht (by omega)
  have : g = g1 := by rw [hv] at hv1; simp at hv1; exact hv1.1
  subst this
  injection hv with hv _ _
  exact ⟨g, hv, hgl, c0, c1⟩

set_option maxRecDepth 100000 in
set_option maxHeartbeats 4000000 in
theorem cuts_walk (s : ByteArray) (n : Int) (w : World) (hs : s.size ≤ maxLen) (hn : -9223372036854775808 ≤ n ∧ n ≤ 9223372036854775807) (hsg : Hid (SgLaid w)) (hop : Hid (OpLaid w)) :
    Calls Tryd.prog 6 #[.string s, .int .i64 n] w fun e w' => e = .returned (.bool true) ∧ Below w.heap.size w w' := by
  have S0 : Hid (Stg w w) := Lib.hid ⟨Below.refl _ _, hsg.out, hop.out⟩
  obtain ⟨t, ht⟩ : ∃ t, t = str (s.data.toList.take 3000) := ⟨_, rfl⟩
  have hts : t.size ≤ 3000 := by rw [ht]; exact few_size s
  have FW := few_any s
  rw [← ht] at FW
  clear ht
  have HFW := Lib.hid (fun u => FW u hs)
  clear FW
  rcases hL : lexOut t.data.toList with ⟨ts, en, ei⟩
  rcases hO : parseOut t.data.toList with ⟨ms, fs⟩
  have HL := Lib.hid hL
  have HO := Lib.hid hO
  clear hL hO
  have htl : ts.length ≤ 20000 := by have := (lexOut_bounds (l := t.data.toList) (by rw [← Lib.size_eq]; omega)).1; rw [HL.out] at this; exact this
  go_enter Tryd.func6, Tryd.ntmps6
  go_wp2_with fail
  refine (head_any w hsg hop).mono ?_
  rintro e w1 ⟨rfl, hb⟩
  have S1 := Lib.hid (S0.out.step hb)
  clear hb
  go_wp2_with fail
  refine (HFW.out w1).mono ?_
  rintro e w1' ⟨rfl, rfl⟩
  have LX := Lex_any t w1 (by omega) (Lib.hid S1.out.2.1)
  rw [HL.out] at LX
  have HLX := Lib.hid LX
  clear LX
  go_wp2_with fail
  refine HLX.out.mono ?_
  rintro e w2 ⟨v, rfl, hown, hb⟩
  obtain ⟨A2, c2, rfl⟩ := own_form hown
  have S2 := Lib.hid (S1.out.step hb)
  have O2 := Lib.hid hown
  clear hb hown HLX
  go_wp2_with fail
  refine (Parse_is (by omega) S2.out.2.1 S2.out.2.2 HO.out).mono ?_
  rintro e w3 ⟨hb, mv, fv, rfl, hm, hf⟩
  obtain ⟨A3, c3, rfl⟩ := mods_form hm
  obtain ⟨B3, d3, rfl⟩ := row_form hf
  have hb' : Below w3.heap.size w3 (w3.alloc (.cells #[.slice A3 ms.length c3] 26)) := (Below.refl _ _).alloc (Nat.le_refl _) _
  have S3 := Lib.hid ((S2.out.step hb).step hb')
  have M3 := Lib.hid (And.intro (hm.keep (fun _ h => h) (fun _ _ _ ho => (gr_of hb').keep ho)) (new_at w3 (.cells #[.slice A3 ms.length c3] 26)))
  have G23 := Lib.hid ((gr_of hb).trans (gr_of hb'))
  have hfl := row_max hf
  unfold maxLen at hfl
  clear hb hm hf hb'
  go_upto_region 5 with fail
  generalize (w3.alloc (.cells #[.slice A3 ms.length c3] 26)) = X at S3 M3 G23 ⊢
  by_cases he : en = 0
  case neg =>
    have hd : ((en : Int) != 0) = true := by simp; omega
    go_wp2
    go_ret
    exact ⟨rfl, S3.out.1⟩
  subst he
  by_cases hf : 0 < fs.length
  · have hd : ((0 : Int) < (fs.length : Int)) := by omega
    go_wp2
    go_ret
    exact ⟨rfl, S3.out.1⟩
  obtain rfl : fs = [] := List.eq_nil_of_length_eq_zero (by omega)
  by_cases hn0 : n < 0
  · go_wp2
    go_ret
    exact ⟨rfl, S3.out.1⟩
  obtain ⟨k, rfl⟩ : ∃ k : Nat, n = k := ⟨n.toNat, by omega⟩
  by_cases hk : ts.length ≤ k
  · have hd : ((ts.length : Int) ≤ (k : Int)) := by omega
    go_wp2
    go_ret
    exact ⟨rfl, S3.out.1⟩
  obtain ⟨a, ha⟩ : ∃ a, ts[k]? = some a := ⟨_, List.getElem?_eq_getElem (by omega)⟩
  obtain ⟨hpos, b, rest, gs, hrest, hms, hpc, hcase⟩ := parse_cuts (l := t.data.toList) (by rw [← Lib.size_eq]; omega) HO.out HL.out ha
  rw [← Lib.size_eq] at hpos
  have HPC : Hid (parseOut (t.extract 0 a.pos).data.toList = (b, gs)) := Lib.hid (by rw [str_extract, str_data, List.drop_zero, Nat.sub_zero]; exact hpc)
  have HC := Lib.hid hcase
  have hbl : b.length ≤ ms.length := by rw [hms]; simp
  obtain ⟨q, hq⟩ : ∃ q, ms[0]? = some q := by
    rw [hms]
    rcases b with _ | ⟨q, b⟩
    · rcases rest with _ | ⟨q, r⟩
      · exact absurd rfl hrest
      · exact ⟨q, rfl⟩
    · exact ⟨q, rfl⟩
  obtain ⟨gm, _, _, _, rfl, hgm, _, _⟩ := mod_cells M3.out.1 hq
  have HMS := Lib.hid hms
  have hml := mods_len M3.out.1
  unfold maxLen at hml
  obtain ⟨ga, rfl, hga, p1, p3⟩ := tok_two O2.out ha
  have KT := Lib.hid (show ∀ u, Gr X u → u.cell? ⟨ga, k * 4 + 1, none⟩ = some (.string (str a.text)) ∧ u.cell? ⟨ga, k * 4 + 3, none⟩ = some (.int .i64 (a.pos : Nat)) ∧ u.cell? ⟨w3.heap.size, 0, none⟩ = some (.slice (some ⟨gm, 0, none⟩) ms.length c3) from fun u hu => ⟨gr_cell (G23.out.trans hu) hga p1, gr_cell (G23.out.trans hu) hga p3, by rw [cell_at (hu.keep M3.out.2)]; rfl⟩)
  clear p1 p3 hga hq hgm hrest hms hpc hcase ha
  obtain ⟨x1, x3, x0⟩ := KT.out X (Gr.refl _)
  have hk0 : (0 : Int) ≤ (k : Int) := by omega
  have hk1 : (k : Int) < (ts.length : Int) := by omega
  have hk2 : ¬ ((ts.length : Int) ≤ (k : Int)) := by omega
  have hp0 : ¬ ((a.pos : Int) < 0) := by omega
  have hp1 : ¬ ((t.size : Int) < (a.pos : Int)) := by omega
  have hes : (t.extract 0 a.pos).size ≤ 20000 := by rw [ByteArray.size_extract]; omega
  go_wp2_with fail
  refine (Parse_is hes S3.out.2.1 S3.out.2.2 HPC.out).mono ?_
  rintro e w5 ⟨hb, mv, fv, rfl, hm, hf5⟩
  obtain ⟨A5, c5, rfl⟩ := mods_form hm
  obtain ⟨B5, d5, rfl⟩ := row_form hf5
  have hb' : Below w5.heap.size w5 (w5.alloc (.cells #[.slice A5 b.length c5] 26)) := (Below.refl _ _).alloc (Nat.le_refl _) _
  have S5 := Lib.hid ((S3.out.step hb).step hb')
  have M5 := Lib.hid (And.intro (hm.keep (fun _ h => h) (fun _ _ _ ho => (gr_of hb').keep ho)) (And.intro (hf5.gr (gr_of hb')) (new_at w5 (.cells #[.slice A5 b.length c5] 26))))
  have G35 := Lib.hid ((gr_of hb).trans (gr_of hb'))
  clear hb hm hf5 hb' x1 x3 x0
  go_upto_region 11 with fail
  generalize (w5.alloc (.cells #[.slice A5 b.length c5] 26)) = Y at S5 M5 G35 ⊢
  obtain ⟨x1, x3, x0⟩ := KT.out Y G35.out
  have y0 : Y.cell? ⟨w5.heap.size, 0, none⟩ = some (.slice A5 b.length c5) := by rw [cell_at M5.out.2.2]; rfl
  have hbd : ¬ ((ms.length : Int) < (b.length : Int)) := by omega
  obtain ⟨MT, hcap⟩ : ModsAt Y _ b (.slice (some ⟨gm, 0, none⟩) b.length c3) ∧ ms.length ≤ c3 := by
    have h1 := M3.out.1.keep (fun _ h => h) (fun _ _ _ ho => G35.out.keep ho)
    rw [HMS.out] at h1 ⊢
    exact mods_take h1
  have HMT := Lib.hid MT
  clear MT
  have hb0 : (0 : Int) ≤ (b.length : Int) := by omega
  have hb1 : (b.length : Int) ≤ (c3 : Int) := by omega
  have KEEP := Lib.hid (show ∀ u, Gr Y u → u.cell? ⟨w3.heap.size, 0, none⟩ = some (.slice (some ⟨gm, 0, none⟩) ms.length c3) ∧ u.cell? ⟨w5.heap.size, 0, none⟩ = some (.slice A5 b.length c5) from fun u hu => ⟨(KT.out u (G35.out.trans hu)).2.2, by rw [cell_at (hu.keep M5.out.2.2)]; rfl⟩)
  have SS := Lib.hid (show ∀ u : World, Gr Y u → Calls Tryd.prog 14 #[.agg #[.slice A5 b.length c5], .agg #[.slice (some ⟨gm, 0, none⟩) b.length c3]] u (fun e w' => e = .returned (.bool true) ∧ Gr u w') from fun u hu =>
    Same_yes b A5 _ _ c5 c3 _ _ u rfl (Lib.hid (M5.out.1.keep (fun _ h => h) (fun _ _ _ ho => hu.keep ho))) (Lib.hid (HMT.out.keep (fun _ h => h) (fun _ _ _ ho => hu.keep ho))))
  rcases HC.out with ⟨rfl, htx⟩ | ⟨rfl, htx⟩
  · rw [htx] at x1
    have x1' : Y.cell? ⟨ga, k * 4 + 1, none⟩ = some (.string ⟨#[109, 111, 100, 117, 108, 101]⟩) := x1
    clear x1
    go_wp2_with fail
    clear x1' x3 x0 y0
    go_region_held3 (fun u => u.cell? ⟨w3.heap.size, 0, none⟩ = some (.slice (some ⟨gm, 0, none⟩) ms.length c3) ∧ u.cell? ⟨w5.heap.size, 0, none⟩ = some (.slice A5 b.length c5))
      (first | exact KEEP.out _ (Gr.drew _) | exact KEEP.out _ (by assumption))
      (first
        | (go_at_call 14; (with_reducible refine (SS.out _ (Gr.drew _)).mono ?_); rintro e u1 ⟨rfl, hu1'⟩; have hu1 : Gr Y u1 := (Gr.drew _).trans hu1'))
    go_wp2_with fail
    go_ret
    exact ⟨rfl, S5.out.1.trans ((bel_of hu1).mono S5.out.1.size)⟩
  · have hne : ((str a.text).toList == [109, 111, 100, 117, 108, 101]) = false := by
      rw [str_toList]
      simpa [wModule] using htx
    have hs4 : ∀ a, (flCells a).length = 4 := fun a => rfl
    have hF := M5.out.2.1
    obtain ⟨gf, cap, hv, _, hgf, hz0⟩ := row_cell hs4 hF.1 (i := 0) (j := 0) rfl (by omega)
    have qf : ∀ j, j < 4 → Y.cell? ⟨gf, j, none⟩ = (flCells (21, a.pos))[j]? := fun j hj => by
      obtain ⟨g1, cap1, hv1, _, _, c1⟩ := row_cell hs4 hF.1 (i := 0) (j := j) rfl hj
      have : gf = g1 := by rw [hv] at hv1; simp at hv1; exact hv1.1
      subst this
      rw [Nat.zero_mul, Nat.zero_add] at c1
      exact c1
    injection hv with hv _ _
    subst hv
    have f0 : Y.cell? ⟨gf, 0, none⟩ = some (.int .i64 21) := qf 0 (by omega)
    have f1 : Y.cell? ⟨gf, 1, none⟩ = some (.int .i64 (a.pos : Nat)) := qf 1 (by omega)
    have f2 : Y.cell? ⟨gf, 2, none⟩ = some (.int .i64 0) := qf 2 (by omega)
    have f3 : Y.cell? ⟨gf, 3, none⟩ = some (.int .i64 0) := qf 3 (by omega)
    have hneq := neq35 21 (a.pos : Int)
    clear qf hF hs4 hgf hz0
    go_wp2_with fail
    clear x1 x3 x0 y0 f0 f1 f2 f3 hneq hne
    go_region_held3 (fun u => u.cell? ⟨w3.heap.size, 0, none⟩ = some (.slice (some ⟨gm, 0, none⟩) ms.length c3) ∧ u.cell? ⟨w5.heap.size, 0, none⟩ = some (.slice A5 b.length c5))
      (first | exact KEEP.out _ (Gr.drew _) | exact KEEP.out _ (by assumption))
      (first
        | (go_at_call 14; (with_reducible refine (SS.out _ (Gr.drew _)).mono ?_); rintro e u1 ⟨rfl, hu1'⟩; have hu1 : Gr Y u1 := (Gr.drew _).trans hu1'))
    go_wp2_with fail
    go_ret
    exact ⟨rfl, S5.out.1.trans ((bel_of hu1).mono S5.out.1.size)⟩
end Go.Proofs.YtccjbpghpoblhaaDoor

