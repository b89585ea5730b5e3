/-
  SynJoins, WALKED: true of every two texts.
-/
import Derived.Test.YtccjbpghpoblhaaDoorK34
import Derived.Test.YtccjbpghpoblhaaDoorC01synJoins
import Derived.Test.YtccjbpghpoblhaaDoorC02synJoins
import Derived.Laws.AppendOwnNone
namespace Go.Proofs.YtccjbpghpoblhaaDoor
open Go.RowKit

theorem Same_is {ms : List Mo} {A A' : Option Addr} {n n' c c' : Nat} {F F' : Nat → Prop} {w : World} (hn : ms.length = n) (hn' : ms.length = n') (h : ModsAt w F ms (.slice A n c)) (h' : ModsAt w F' ms (.slice A' n' c')) :
    Calls Tryd.prog 14 #[.agg #[.slice A n c], .agg #[.slice A' n' c']] w fun e w' => e = .returned (.bool true) ∧ Gr w w' := by
  subst hn'
  subst hn
  exact Same_yes ms A A' _ c c' F F' w rfl (Lib.hid h) (Lib.hid h')

/-- an append of a row that may be nil onto a row of one's own -/
theorem append_src {P : Program} (w : World) {ops : Array Oper} {rest : List Oper} {o : Oper} {a : Act} {Q : Exit → Act → World → Prop} (hgd : o.guard = none) (s x : Operand) (t : TypeId)
    (ho : o.op = .call { callee := .builtin .append, args := #[s, x], argTypes := #[t, t] })
    (base : Nat) (e : TypeId) (i : TypeInfo) (z : Value) (size bytes : Nat) (ht : P.underlying t = some (.slice e)) (hi : P.info? e = some i) (hz : i.zero = some z)
    (hsize : i.size = size) (hby : i.bytes = bytes) (hzs : z.cells.size = size) (hsz : 0 < size)
    (v : Value) (n : Nat) (xs : List Value) (hs : a.eval s = v) (hown : w.ownsRow base e size v n xs)
    (A : Option Addr) (m c : Nat) (news : List Value) (hx : a.eval x = .slice A m c) (hnil : A = none → m = 0 ∧ c = 0) (hl : news.length = m * size) (hnews : ∀ ad, A = some ad → ∀ j u, news[j]? = some u → w.cell? (ad.add j) = some u) (h1 : ∀ u ∈ news, u.oneCell' = true)
    (h63 : n + m ≤ maxLen) (hbytes : (n + m) * bytes ≤ 140737488355328) (hbase : base ≤ w.heap.size)
    (h : ∀ v' w', w'.ownsRow base e size v' (n + m) (xs ++ news) → Below base w w' → wpList P ops Q rest (a.put o.dst v') w') : wpList P ops Q (o :: rest) a w := by
  rcases A with _ | ad
  · obtain ⟨rfl, rfl⟩ := hnil rfl
    have hn0 : news = [] := List.eq_nil_of_length_eq_zero (by rw [hl]; omega)
    subst hn0
    exact wpList_append_own_none hgd s x t ho base e i size ht hi v n xs hs hown hx (h v w (by rw [List.append_nil]; exact hown) (Below.refl _ _))
  · exact wpList_append_own w hgd s x t ho base e i z size bytes ht hi hz hsize hby hzs hsz v n xs hs hown ad m c news hx hl (hnews ad rfl) h1 h63 hbytes hbase
      fun v' w' h2 h3 _ => h v' w' h2 ((Below.refl _ _).grown h3 hbase (fun k hk => (hown.lt k hk).1))
theorem own_zero {w : World} {base : Nat} {e : TypeId} {size : Nat} {v : Value} {n : Nat} {xs : List Value} (h : w.ownsRow base e size v n xs) : w.ownsRow 0 e size v n xs :=
  ⟨h.1, h.2.imp id (fun ⟨g, cap, cur, h1, _, h3⟩ => ⟨g, cap, cur, h1, Nat.zero_le _, h3⟩)⟩
theorem own_empty48 (w : World) (base : Nat) (hb : base ≤ w.heap.size) : (w.alloc (.cells #[] 48)).ownsRow base 48 4 (.slice (some ⟨w.heap.size, 0, none⟩) 0 0) 0 [] :=
  ⟨rfl, .inr ⟨w.heap.size, 0, #[], rfl, hb, by show (w.heap.push _)[w.heap.size]? = _; simp, Nat.le_refl _, Nat.zero_le _, rfl, rfl⟩⟩
theorem own_src {w : World} {base : Nat} {e : TypeId} {size : Nat} {A : Option Addr} {n c : Nat} {xs : List Value} (h : w.ownsRow base e size (.slice A n c) n xs) : (A = none → n = 0 ∧ c = 0) ∧ ∀ ad, A = some ad → ∀ j u, xs[j]? = some u → w.cell? (ad.add j) = some u := by
  rcases h.2 with ⟨hv, _⟩ | ⟨g, cap, cur, hv, _, hh, _, _, _, ht⟩
  · injection hv with h1 h2 h3
    exact ⟨fun _ => ⟨h2, h3⟩, fun ad had => (by rw [h1] at had; cases had)⟩
  · injection hv with h1 _ _
    refine ⟨fun hA => (by rw [hA] at h1; cases h1), fun ad had j u hu => ?_⟩
    rw [h1] at had
    obtain rfl := Option.some.inj had
    have hadd : (⟨g, 0, none⟩ : Addr).add j = ⟨g, j, none⟩ := by
      by_cases hq : j = 0
      · subst hq; rfl
      · simp [Addr.add, hq]
    rw [hadd, cell_at hh]
    rw [← ht, List.getElem?_take] at hu
    split at hu
    · simpa using hu
    · cases hu
theorem own_keep {w w' : World} {base : Nat} {e : TypeId} {size : Nat} {v : Value} {n : Nat} {xs : List Value} (h : w.ownsRow base e size v n xs) (hg : Gr w w') : w'.ownsRow base e size v n xs :=
  ⟨h.1, h.2.imp id (fun ⟨g, cap, cur, h1, h2, h3, h4⟩ => ⟨g, cap, cur, h1, h2, hg.keep h3, h4⟩)⟩
/-- the parts of a row of modules -/
def ModsP (w : World) (F : Nat → Prop) (ms : List Mo) (css : List (List Value)) : Prop := css.length = ms.length ∧ ∀ (j : Nat) (m : Mo), ms[j]? = some m → ∃ cs, css[j]? = some cs ∧ MoAt w F m cs
theorem ModsP.gr {w w' : World} {F : Nat → Prop} {ms : List Mo} {css : List (List Value)} (h : ModsP w F ms css) (hg : Gr w w') : ModsP w' F ms css :=
  ⟨h.1, fun j m hm => by obtain ⟨cs, h1, h2⟩ := h.2 j m hm; exact ⟨cs, h1, h2.gr hg⟩⟩
theorem ModsP.one {w : World} {F : Nat → Prop} {ms : List Mo} {css : List (List Value)} (h : ModsP w F ms css) : ∀ u ∈ css.flatten, u.oneCell' = true := by
  intro u hu
  obtain ⟨cs, hcs, hu⟩ := List.mem_flatten.1 hu
  obtain ⟨j, hj⟩ := List.getElem?_of_mem hcs
  have hjl : j < ms.length := by rw [← h.1]; exact (List.getElem?_eq_some_iff.1 hj).1
  obtain ⟨cs', h1, pv, qv, iv, rfl, m1, m2, m3⟩ := h.2 j (ms[j]'hjl) (List.getElem?_eq_getElem hjl)
  rw [hj] at h1
  obtain rfl := Option.some.inj h1
  obtain ⟨_, _, rfl⟩ := row_form m1
  obtain ⟨_, _, rfl⟩ := row_form m2
  obtain ⟨css', m3, _, _⟩ := m3
  obtain ⟨_, _, rfl⟩ := row_form m3
  simp at hu
  rcases hu with rfl | rfl | rfl | rfl <;> rfl
theorem ModsP.app {w : World} {F F' : Nat → Prop} {ms ms' : List Mo} {css css' : List (List Value)} (h : ModsP w F ms css) (h' : ModsP w F' ms' css') : ModsP w (fun _ => True) (ms ++ ms') (css ++ css') := by
  refine ⟨by simp [h.1, h'.1], fun j m hm => ?_⟩
  rw [List.getElem?_append] at hm ⊢
  rw [h.1]
  split at hm
  · rename_i c
    obtain ⟨cs, h1, h2⟩ := h.2 j m hm
    exact ⟨cs, by rw [if_pos c]; exact h1, h2.keep (fun _ _ => trivial) (fun _ _ _ ho => ho)⟩
  · rename_i c
    obtain ⟨cs, h1, h2⟩ := h'.2 _ m hm
    exact ⟨cs, by rw [if_neg c]; exact h1, h2.keep (fun _ _ => trivial) (fun _ _ _ ho => ho)⟩
theorem mods_open {w : World} {F : Nat → Prop} {ms : List Mo} {A : Option Addr} {c : Nat} (h : ModsAt w F ms (.slice A ms.length c)) : ∃ css, ModsP w F ms css ∧ w.ownsRow 0 48 4 (.slice A ms.length c) ms.length css.flatten := by
  obtain ⟨css, hr, h1, h2⟩ := h
  exact ⟨css, ⟨h1, h2⟩, hr.1⟩
theorem mods_close {w : World} {F : Nat → Prop} {ms : List Mo} {css : List (List Value)} {v : Value} {base : Nat} (h : ModsP w F ms css) (ho : w.ownsRow base 48 4 v ms.length css.flatten) : ModsAt w (fun _ => True) ms v :=
  ⟨css, ⟨own_zero ho, fun _ _ => trivial⟩, h.1, fun j m hm => by obtain ⟨cs, h1, h2⟩ := h.2 j m hm; exact ⟨cs, h1, h2.keep (fun _ _ => trivial) (fun _ _ _ ho => ho)⟩⟩

theorem pModule_mob {T : List LexM.Tk} {mo n : Nat} {fs : Fs} (h : mo ≤ 16) : mo ≤ (pModule T mo fs n).2.2 ∧ (pModule T mo fs n).2.2 ≤ 16 ∧ ∀ x, (pModule T mo fs n).1 = .ok x → mo + 1 ≤ (pModule T mo fs n).2.2 := by
  unfold pModule
  split
  · split
    · exact ⟨Nat.le_refl _, h, fun x hx => by cases hx⟩
    · rename_i hc
      rcases pHead T (n + 1) with x | ⟨q, n1⟩
      · exact ⟨by simp, by simp; omega, fun x hx => by cases hx⟩
      · simp only []
        rcases pBody T (T.length + 1) 0 [] fs n1 with ⟨x | ⟨is, n2⟩, fs'⟩
        · exact ⟨by simp, by simp; omega, fun x hx => by cases hx⟩
        · exact ⟨by simp, by simp; omega, fun x hx => by simp⟩
  · exact ⟨Nat.le_refl _, h, fun x hx => by cases hx⟩
theorem pDesign_few (T : List LexM.Tk) : ∀ (f mo : Nat) (ms : List Mo) (fs : Fs) (n : Nat), mo ≤ 16 → ms.length ≤ mo → (pDesign T f mo ms fs n).1.length ≤ 16
  | 0, mo, ms, fs, n, h, hm => by show ms.length ≤ 16; omega
  | f + 1, mo, ms, fs, n, h, hm => by
    rw [pDesign]
    split
    · obtain ⟨h1, h2, h3⟩ := pModule_mob (T := T) (n := n) (fs := fs) h
      rcases hp : pModule T mo fs n with ⟨x | ⟨q, n1⟩, fs1, mo1⟩
      · rw [hp] at h1 h2
        simp only [] at h1 h2 ⊢
        split
        · show ms.length ≤ 16; omega
        · exact pDesign_few T f _ _ _ _ h2 (by omega)
      · rw [hp] at h1 h2 h3
        simp only [] at h1 h2 h3 ⊢
        have := h3 _ rfl
        exact pDesign_few T f _ _ _ _ h2 (by simp; omega)
    · show ms.length ≤ 16; omega
theorem parse_few (l : List UInt8) : (parseOut l).1.length ≤ 16 := by
  unfold parseOut
  split
  · simp
  · exact pDesign_few _ _ _ _ _ _ (by omega) (by simp)

set_option maxRecDepth 100000 in
set_option maxHeartbeats 4000000 in
theorem joins_walk (s t : ByteArray) (w : World) (hs : s.size ≤ maxLen) (ht : t.size ≤ maxLen) (hsg : Hid (SgLaid w)) (hop : Hid (OpLaid w)) :
    Calls Tryd.prog 5 #[.string s, .string t] w fun e w' => e = .returned (.bool true) ∧ Below w.heap.size w w' := by
  have S0 : Hid (Stg w w) := Lib.hid ⟨Below.refl _ _, hsg.out, hop.out⟩
  obtain ⟨i0, hi, hz0, hz1, hz2⟩ := info_parts info48
  have HI := Lib.hid (And.intro hi (And.intro hz0 (And.intro hz1 hz2)))
  clear hi hz0 hz1 hz2
  obtain ⟨x, hx⟩ : ∃ x, x = str (s.data.toList.take 3000) := ⟨_, rfl⟩
  have hxs : x.size ≤ 3000 := by rw [hx]; exact few_size s
  have FX := few_any s
  rw [← hx] at FX
  clear hx
  have HFX := Lib.hid (fun u => FX u hs)
  clear FX
  obtain ⟨y, hy⟩ : ∃ y, y = str (t.data.toList.take 3000) := ⟨_, rfl⟩
  have hys : y.size ≤ 3000 := by rw [hy]; exact few_size t
  have FY := few_any t
  rw [← hy] at FY
  clear hy
  have HFY := Lib.hid (fun u => FY u ht)
  clear FY
  rcases hA : parseOut x.data.toList with ⟨ma, fs⟩
  rcases hB : parseOut y.data.toList with ⟨mb, gs⟩
  rcases hC : parseOut (x ++ ⟨#[10]⟩ ++ y).data.toList with ⟨mc, es⟩
  have HA := Lib.hid hA
  have HB := Lib.hid hB
  have HC := Lib.hid hC
  clear hA hB hC
  have hzs : (x ++ ⟨#[10]⟩ ++ y).size ≤ 6001 := by
    rw [ByteArray.size_append, ByteArray.size_append]
    have : (⟨#[10]⟩ : ByteArray).size = 1 := rfl
    omega
  go_enter Tryd.func5, Tryd.ntmps5
  go_wp2_with fail
  refine (head_any w hsg hop).mono ?_
  rintro e w1 ⟨rfl, hb⟩
  have S1 := Lib.hid (S0.out.step hb)
  clear hb
  go_wp2_with fail
  refine (HFX.out w1).mono ?_
  rintro e w1' ⟨rfl, rfl⟩
  go_wp2_with fail
  refine (HFY.out w1).mono ?_
  rintro e w1' ⟨rfl, rfl⟩
  go_wp2_with fail
  refine (Parse_is (by omega) S1.out.2.1 S1.out.2.2 HA.out).mono ?_
  rintro e w2 ⟨hb, mv, fv, rfl, hm, hf⟩
  obtain ⟨A2, c2, rfl⟩ := mods_form hm
  obtain ⟨B2, d2, rfl⟩ := row_form hf
  have hb' : Below w2.heap.size w2 (w2.alloc (.cells #[.slice A2 ma.length c2] 26)) := (Below.refl _ _).alloc (Nat.le_refl _) _
  have S2 := Lib.hid ((S1.out.step hb).step hb')
  have M2 := Lib.hid (hm.keep (fun _ h => h) (fun _ _ _ ho => (gr_of hb').keep ho))
  have C2 := Lib.hid (new_at w2 (.cells #[.slice A2 ma.length c2] 26))
  have hfl := row_max hf
  clear hb hm hf hb'
  go_wp2_with fail
  refine (Parse_is (by omega) S2.out.2.1 S2.out.2.2 HB.out).mono ?_
  rintro e w3 ⟨hb, mv, fv, rfl, hm, hf⟩
  obtain ⟨A3, c3, rfl⟩ := mods_form hm
  obtain ⟨B3, d3, rfl⟩ := row_form hf
  have hb' : Below w3.heap.size w3 (w3.alloc (.cells #[.slice A3 mb.length c3] 26)) := (Below.refl _ _).alloc (Nat.le_refl _) _
  have S3 := Lib.hid ((S2.out.step hb).step hb')
  have M3 := Lib.hid (hm.keep (fun _ h => h) (fun _ _ _ ho => (gr_of hb').keep ho))
  have C3 := Lib.hid (new_at w3 (.cells #[.slice A3 mb.length c3] 26))
  have G23 := Lib.hid ((gr_of hb).trans (gr_of hb'))
  have hgl := row_max hf
  clear hb hm hf hb'
  go_wp2_with fail
  refine (Parse_is (by omega) S3.out.2.1 S3.out.2.2 HC.out).mono ?_
  rintro e w4 ⟨hb, mv, fv, rfl, hm, hf⟩
  obtain ⟨A4, c4, rfl⟩ := mods_form hm
  obtain ⟨B4, d4, rfl⟩ := row_form hf
  have hb' : Below w4.heap.size w4 (w4.alloc (.cells #[.slice A4 mc.length c4] 26)) := (Below.refl _ _).alloc (Nat.le_refl _) _
  have S4 := Lib.hid ((S3.out.step hb).step hb')
  have M4 := Lib.hid (hm.keep (fun _ h => h) (fun _ _ _ ho => (gr_of hb').keep ho))
  have C4 := Lib.hid (new_at w4 (.cells #[.slice A4 mc.length c4] 26))
  have G34 := Lib.hid ((gr_of hb).trans (gr_of hb'))
  clear hb hm hf hb'
  have K3 := Lib.hid (G34.out.keep C3.out)
  have K2 := Lib.hid (G34.out.keep (G23.out.keep C2.out))
  have N3 := Lib.hid (M3.out.keep (fun _ h => h) (fun _ _ _ ho => G34.out.keep ho))
  have N2 := Lib.hid (M2.out.keep (fun _ h => h) (fun _ _ _ ho => (G23.out.trans G34.out).keep ho))
  clear C2 C3 M2 M3 G23 G34
  go_upto_region 7 with fail
  generalize (w4.alloc (.cells #[.slice A4 mc.length c4] 26)) = X at S4 M4 C4 K2 K3 N2 N3 ⊢
  unfold maxLen at hfl hgl
  have hal : ma.length ≤ 16 := by have := parse_few x.data.toList; rw [HA.out] at this; exact this
  have hbl : mb.length ≤ 16 := by have := parse_few y.data.toList; rw [HB.out] at this; exact this
  have b2 : X.cell? ⟨w2.heap.size, 0, none⟩ = some (.slice A2 ma.length c2) := by rw [cell_at K2.out]; rfl
  have b3 : X.cell? ⟨w3.heap.size, 0, none⟩ = some (.slice A3 mb.length c3) := by rw [cell_at K3.out]; rfl
  have b4 : X.cell? ⟨w4.heap.size, 0, none⟩ = some (.slice A4 mc.length c4) := by rw [cell_at C4.out]; rfl
  by_cases hf : 0 < fs.length
  · have hd : ((0 : Int) < (fs.length : Int)) := by omega
    go_wp2
    go_ret
    exact ⟨rfl, S4.out.1⟩
  obtain rfl : fs = [] := List.eq_nil_of_length_eq_zero (by omega)
  by_cases hg : 0 < gs.length
  · have hd : ((0 : Int) < (gs.length : Int)) := by omega
    go_wp2
    go_ret
    exact ⟨rfl, S4.out.1⟩
  obtain rfl : gs = [] := List.eq_nil_of_length_eq_zero (by omega)
  by_cases hab : 16 < ma.length + mb.length
  · have hd : ((16 : Int) < (ma.length : Int) + (mb.length : Int)) := by omega
    go_wp2
    go_ret
    exact ⟨rfl, S4.out.1⟩
  have hce : mc = ma ++ mb ∧ es = [] := by
    have h1 := parse_joins (x := x.data.toList) (y := y.data.toList) (by rw [← Lib.size_eq]; exact hxs) (by rw [← Lib.size_eq]; exact hys) HA.out HB.out (by omega)
    have e1 : (x ++ ⟨#[10]⟩ ++ y).data.toList = x.data.toList ++ [10] ++ y.data.toList := by simp [ByteArray.data_append]
    have h2 := HC.out
    rw [e1, h1] at h2
    simpa using h2.symm
  obtain ⟨rfl, rfl⟩ := hce
  have hd : ¬ ((16 : Int) < (ma.length : Int) + (mb.length : Int)) := by omega
  obtain ⟨css2, P2, O2⟩ := mods_open N2.out
  obtain ⟨css3, P3, O3⟩ := mods_open N3.out
  have Q2 := Lib.hid (And.intro P2 O2)
  have Q3 := Lib.hid (And.intro P3 O3)
  clear P2 O2 P3 O3 hf hg
  have hbX : Below X.heap.size X (X.alloc (.cells #[] 48)) := (Below.refl _ _).alloc (Nat.le_refl _) _
  have HBX := Lib.hid hbX
  clear hbX
  have b2' : (X.alloc (.cells #[] 48)).cell? ⟨w2.heap.size, 0, none⟩ = some (.slice A2 ma.length c2) := by rw [cell_at ((gr_of HBX.out).keep K2.out)]; rfl
  go_upto_region 10 with (at_builtin; refine append_src _ rfl _ _ 24 rfl X.heap.size 48 i0 (.agg zero48) 4 88 Tryd.underlying24 HI.out.1 HI.out.2.1 HI.out.2.2.1 HI.out.2.2.2 rfl (by decide) (.slice (some ⟨X.heap.size, 0, none⟩) 0 0) 0 [] rfl (own_empty48 X X.heap.size (Nat.le_refl _)) A2 ma.length c2 css2.flatten rfl (own_src Q2.out.2).1 Q2.out.2.1 (own_src (own_keep Q2.out.2 (gr_of HBX.out))).2 Q2.out.1.one (by unfold maxLen; omega) (by omega) (by simp) ?_; intro v5 w5 hown5 hb5; have B5 := Lib.hid (HBX.out.trans hb5); have O5 := Lib.hid hown5; clear hown5 hb5 b2 b2' b3 b4; have b3 : w5.cell? ⟨w3.heap.size, 0, none⟩ = some (.slice A3 mb.length c3) := (by rw [cell_at ((gr_of B5.out).keep K3.out)]; rfl))
  go_upto_region 11 with (at_builtin; refine append_src _ rfl _ _ 24 rfl X.heap.size 48 i0 (.agg zero48) 4 88 Tryd.underlying24 HI.out.1 HI.out.2.1 HI.out.2.2.1 HI.out.2.2.2 rfl (by decide) v5 (0 + ma.length) ([] ++ css2.flatten) rfl O5.out A3 mb.length c3 css3.flatten rfl (own_src Q3.out.2).1 Q3.out.2.1 (own_src (own_keep Q3.out.2 (gr_of B5.out))).2 Q3.out.1.one (by unfold maxLen; omega) (by omega) B5.out.size ?_; intro v6 w6 hown6 hb6; have B6 := Lib.hid (B5.out.trans hb6); have O6 := Lib.hid hown6; obtain ⟨A6, c6, rfl⟩ := own_form hown6; clear hown6 hb6 b3; have b4 : w6.cell? ⟨w4.heap.size, 0, none⟩ = some (.slice A4 (ma.length + mb.length) c4) := (by rw [cell_at ((gr_of B6.out).keep C4.out), ← List.length_append]; rfl))
  have SS := Lib.hid (show Calls Tryd.prog 14 #[.agg #[.slice A4 (ma.length + mb.length) c4], .agg #[.slice A6 (ma.length + mb.length) c6]] w6 (fun e w' => e = .returned (.bool true) ∧ Gr w6 w') from
    Same_is (ms := ma ++ mb) (by simp) (by simp) (by have := M4.out.keep (fun _ h => h) (fun _ _ _ ho => (gr_of B6.out).keep ho); rw [List.length_append] at this; exact this)
      (mods_close (base := X.heap.size) ((Q2.out.1.gr (gr_of B6.out)).app (Q3.out.1.gr (gr_of B6.out))) (by simpa using O6.out)))
  go_wp2_with (go_at_call 14; (with_reducible refine SS.out.mono ?_); rintro e w7 ⟨rfl, hw7⟩)
  go_ret
  exact ⟨rfl, (S4.out.1.trans (B6.out.mono S4.out.1.size)).trans ((bel_of hw7).mono (by have := S4.out.1.size; have := B6.out.size; omega))⟩
end Go.Proofs.YtccjbpghpoblhaaDoor

