/-
  proofmarklaw01.LexJoins, WALKED: true, of any two texts.
-/
import Derived.Test.YtnklcoaafgaokaaDoorMoved
import Derived.Laws.AppendOwnNone
namespace Go.Proofs.YtnklcoaafgaokaaDoor
open Go.RowKit

theorem toks_news {w : World} {B : Nat} {ad : Addr} {ts : List LexM.Tk} (h : Toks w B (some ad) (ts.map gOf)) : ∀ j u, (rowOf ts)[j]? = some u → w.cell? (ad.add j) = some u := by
  intro j u hu
  have hj : j < ts.length * 4 := by
    have := (List.getElem?_eq_some_iff.1 hu).1
    rw [rowOf_length] at this; exact this
  have hi : j / 4 < ts.length := by omega
  have hsome : ts[j / 4]? = some ts[j / 4] := List.getElem?_eq_getElem hi
  have hc := rowOf_cell ts (j / 4) _ hsome (j % 4) (by omega)
  rw [show j / 4 * 4 + j % 4 = j from by omega, hu] at hc
  obtain ⟨b, off, e, hb, c0, c1, c2, c3⟩ := h (j / 4) (gOf ts[j / 4]) (by rw [List.getElem?_map, hsome]; rfl)
  have e2 : ad = ⟨b, off, none⟩ := Option.some.inj e
  subst e2
  have ea : (⟨b, off, none⟩ : Addr).add j = ⟨b, off + j, none⟩ := by simp [Addr.add]
  rw [ea]
  have hm : j % 4 = 0 ∨ j % 4 = 1 ∨ j % 4 = 2 ∨ j % 4 = 3 := by omega
  rcases hm with h0 | h0 | h0 | h0
  · rw [h0] at hc
    rw [show off + j = off + j / 4 * 4 from by omega, c0]
    exact hc.symm
  · rw [h0] at hc
    rw [show off + j = off + j / 4 * 4 + 1 from by omega, c1]
    exact hc.symm
  · rw [h0] at hc
    rw [show off + j = off + j / 4 * 4 + 2 from by omega, c2]
    exact hc.symm
  · rw [h0] at hc
    rw [show off + j = off + j / 4 * 4 + 3 from by omega, c3]
    exact hc.symm
theorem rowOf_one (ts : List LexM.Tk) : ∀ u ∈ rowOf ts, u.oneCell' = true := by
  intro u hu
  unfold rowOf at hu
  obtain ⟨t, _, ht⟩ := List.mem_flatMap.1 hu
  simp only [tkCells, List.mem_cons, List.not_mem_nil, or_false] at ht
  rcases ht with rfl | rfl | rfl | rfl <;> rfl
theorem rowOf_append (a b : List LexM.Tk) : rowOf (a ++ b) = rowOf a ++ rowOf b := by unfold rowOf; rw [List.flatMap_append]

/-- append of tokens onto a row of the call's own -/
theorem wpList_append_toks {w : World} {ops : Array Oper} {rest : List Oper} {o : Oper} {a : Act} {Q : Exit → Act → World → Prop} (hgd : o.guard = none) (s x : Operand)
    (ho : o.op = .call { callee := .builtin .append, args := #[s, x], argTypes := #[22, 22] })
    (base : Nat) (v : Value) (us : List LexM.Tk) (hs : a.eval s = v) (hown : w.ownsRow base 33 4 v us.length (rowOf us))
    (A : Option Addr) (len c B : Nat) (ts : List LexM.Tk) (hx : a.eval x = .slice A len c) (hl : ts.length = len) (hT : Toks w B A (ts.map gOf)) (hnil : A = none → len = 0 ∧ c = 0)
    (hn : us.length + len ≤ 40000) (hbase : base ≤ w.heap.size)
    (h : ∀ v' w', w'.ownsRow base 33 4 v' (us ++ ts).length (rowOf (us ++ ts)) → w.grownBy w' v.ownBlock → wpList Tryd.prog ops Q rest (a.put o.dst v') w') : wpList Tryd.prog ops Q (o :: rest) a w := by
  obtain ⟨i0, hi, hz0, hz1, hz2⟩ := info_parts info33
  subst hl
  cases A with
  | none =>
    obtain ⟨h0, rfl⟩ := hnil rfl
    have hts : ts = [] := List.eq_nil_of_length_eq_zero h0
    subst hts
    refine wpList_append_own_none hgd s x 22 ho base 33 i0 4 Tryd.underlying22 hi v _ _ hs hown hx (h v w ?_ (World.grownBy.refl w _))
    simpa using hown
  | some ad =>
    refine wpList_append_own w hgd s x 22 ho base 33 i0 (.agg #[.int .i64 0, .string ByteArray.empty, .int .i64 0, .int .i64 0]) 4 40 Tryd.underlying22 hi hz0 hz1 hz2 rfl (by decide) v _ _ hs hown ad ts.length c (rowOf ts) hx (rowOf_length ts) (toks_news hT) (rowOf_one ts) (by unfold maxLen; omega) (by omega) hbase ?_
    intro v' w' h2 h3 _
    refine h v' w' ?_ h3
    rw [rowOf_append, List.length_append]
    exact h2

theorem grown_of_below {a w : World} (h : Below a.heap.size a w) (row : Option Nat) : a.grownBy w row := ⟨h.os, h.tape, h.output, h.size, fun i hi _ => h.block i hi⟩
theorem own_em (v : Value) : v.ownBlock = none ∨ v.ownBlock ≠ none := Classical.em _
theorem str_join (x y : List UInt8) : str x ++ ⟨#[10]⟩ ++ str y = str (x ++ 10 :: y) := by
  show str x ++ str [10] ++ str y = _
  rw [str_append, str_append]
  simp

theorem join_bad {x y : List UInt8} {ts : List LexM.Tk} {p : Nat} (hx : x.length ≤ 2000) (hy : y.length ≤ 2000) (h : LexM.lex x 0 = (ts, some p)) : lexOut (x ++ 10 :: y) = ([], 10, p) := by
  refine lexOut_bad (ts := ts) (by simp; omega) ?_
  rw [LexM.lex_join x.length x y 0 (Nat.le_refl _), h]
theorem join_bad2 {x y : List UInt8} {ts us : List LexM.Tk} {q : Nat} (hx : x.length ≤ 2000) (hy : y.length ≤ 2000) (h : LexM.lex x 0 = (ts, none)) (h2 : LexM.lex y 0 = (us, some q)) : lexOut (x ++ 10 :: y) = ([], 10, q + x.length + 1) := by
  have hs := LexM.lex_shift y.length y 0 (x.length + 1) (Nat.le_refl _)
  rw [h2] at hs
  refine lexOut_bad (ts := ts ++ us.map (LexM.mv (x.length + 1))) (by simp; omega) ?_
  rw [LexM.lex_join x.length x y 0 (Nat.le_refl _), h]
  simp only [Nat.add_assoc, hs]
  rfl
theorem join_ok {x y : List UInt8} {ts us : List LexM.Tk} (hx : x.length ≤ 2000) (hy : y.length ≤ 2000) (h : LexM.lex x 0 = (ts, none)) (h2 : LexM.lex y 0 = (us, none)) : lexOut (x ++ 10 :: y) = (ts ++ us.map (LexM.mv (x.length + 1)), 0, 0) := by
  have hs := LexM.lex_shift y.length y 0 (x.length + 1) (Nat.le_refl _)
  rw [h2] at hs
  refine lexOut_ok (by simp; omega) ?_
  rw [LexM.lex_join x.length x y 0 (Nat.le_refl _), h]
  simp only [Nat.add_assoc, hs]
  rfl
theorem pos_le {l : List UInt8} {ts : List LexM.Tk} {e : Option Nat} (hl : l.length ≤ 2000) (h : LexM.lex l 0 = (ts, e)) : ∀ t ∈ ts, t.pos ≤ 20000 := by
  intro u hm
  obtain ⟨j, hj⟩ := List.getElem?_of_mem hm
  obtain ⟨_, b, _, _⟩ := LexM.lex_cut l.length l 0 ts e j u (Nat.le_refl _) h hj
  omega

theorem Same_own {A : Option Addr} {c B n base : Nat} {v : Value} {ts : List LexM.Tk} {w : World} (h : ts.length = n) (hn : n ≤ maxLen) (hT : Toks w B A (ts.map gOf)) (hB : B ≤ w.heap.size) (hown : w.ownsRow base 33 4 v ts.length (rowOf ts)) :
    Calls Tryd.prog 14 #[.slice A n c, v] w fun e w' => e = .returned (.bool true) ∧ ∃ n, w' = w.drewN n := by
  obtain ⟨A', c', rfl, _, ht⟩ := toks_of_own hown
  subst h
  exact Same_of (ts := ts.map gOf) (by simp) hn (hT.more hB) ht
theorem Lex_j {x y : List UInt8} {ts : List LexM.Tk} {n i len : Nat} (en ei : Int) (w : World) (hx : x.length ≤ 2000) (hy : y.length ≤ 2000) (hsg : SgLaid w) (ho : lexOut (x ++ 10 :: y) = (ts, n, i)) (hl : ts.length = len) (h1 : (n : Int) = en) (h2 : (i : Int) = ei) :
    Calls Tryd.prog 12 #[.string (str x ++ ⟨#[10]⟩ ++ str y)] w (LexGot w ts len en ei) := by
  rw [str_join]
  exact Lex_l en ei w (by simp; omega) hsg ho hl h1 h2

set_option maxRecDepth 100000 in
set_option maxHeartbeats 1000000 in
theorem joins_walk (sa sb : ByteArray) (w : World) (hsa : sa.size ≤ maxLen) (hsb : sb.size ≤ maxLen) (hsg : Hid (SgLaid w)) :
    Calls Tryd.prog 7 #[.string sa, .string sb] w fun e w' => e = .returned (.bool true) ∧ Below w.heap.size w w' := by
  go_enter Tryd.func7, Tryd.ntmps7
  go_wp2_with fail
  refine (head_any w hsg).mono ?_
  rintro e w1 ⟨rfl, hb1⟩
  have H1 := Lib.hid hb1
  clear hb1
  go_wp2_with fail
  refine (few_any sa w1 hsa).mono ?_
  rintro e w1' ⟨rfl, rfl⟩
  have hlx : (sa.data.toList.take 2000).length ≤ 2000 := List.length_take_le _ _
  generalize sa.data.toList.take 2000 = x at hlx
  go_wp2_with fail
  refine (few_any sb w1 hsb).mono ?_
  rintro e w1' ⟨rfl, rfl⟩
  have hly : (sb.data.toList.take 2000).length ≤ 2000 := List.length_take_le _ _
  generalize sb.data.toList.take 2000 = y at hly
  have HS := Lib.hid (sg_below hsg.out H1.out)
  have hszx : (str x).size = x.length := str_size x
  have hszy : (str y).size = y.length := str_size y
  have s1 := H1.out.size
  cases hx : LexM.lex x 0 with
  | mk ts err =>
  cases hy : LexM.lex y 0 with
  | mk us erry =>
  have HY := Lib.hid hy
  have HX := Lib.hid hx
  clear hx hy
  cases err with
  | some p =>
    obtain ⟨vs, ny, iy, ho⟩ : ∃ vs n i, lexOut y = (vs, n, i) := ⟨_, _, _, rfl⟩
    have HO := Lib.hid ho
    clear ho
    go_wp2_with fail
    refine (Lex_l (len := 0) 10 p w1 (by omega) HS.out (lexOut_bad (by omega) HX.out) rfl rfl rfl).mono ?_
    rintro e w2 ⟨A2, c2, rfl, _, ht2, hb2⟩
    have H2 := Lib.hid (And.intro ht2 hb2)
    clear ht2 hb2
    have s2 := H2.out.2.size
    go_wp2_with fail
    refine (Lex_l (len := vs.length) ny iy w2 (by omega) (sg_below HS.out H2.out.2) HO.out rfl rfl rfl).mono ?_
    rintro e w3 ⟨A3, c3, rfl, _, ht3, hb3⟩
    have H3 := Lib.hid (And.intro ht3 hb3)
    clear ht3 hb3
    have s3 := H3.out.2.size
    have HC := Lib.hid (Lex_j (ts := []) (len := 0) (n := 10) (i := p) 10 p w3 hlx hly (sg_below (sg_below HS.out H2.out.2) H3.out.2) (join_bad hlx hly HX.out) rfl rfl rfl)
    go_wp2_with fail
    refine HC.out.mono ?_
    rintro e w4 ⟨A4, c4, rfl, _, ht4, hb4⟩
    have H4 := Lib.hid (And.intro ht4 hb4)
    clear ht4 hb4
    go_wp2
    go_ret
    exact ⟨rfl, ((H1.out.trans (H2.out.2.mono s1)).trans (H3.out.2.mono (by omega))).trans (H4.out.2.mono (by omega))⟩
  | none =>
    have hct := LexM.lex_count x.length x 0 (Nat.le_refl _)
    rw [HX.out] at hct
    simp only at hct
    cases erry with
    | some q =>
      go_wp2_with fail
      refine (Lex_l (len := ts.length) 0 0 w1 (by omega) HS.out (lexOut_ok (by omega) HX.out) rfl rfl rfl).mono ?_
      rintro e w2 ⟨A2, c2, rfl, _, ht2, hb2⟩
      have H2 := Lib.hid (And.intro ht2 hb2)
      clear ht2 hb2
      have s2 := H2.out.2.size
      go_wp2_with fail
      refine (Lex_l (len := 0) 10 q w2 (by omega) (sg_below HS.out H2.out.2) (lexOut_bad (by omega) HY.out) rfl rfl rfl).mono ?_
      rintro e w3 ⟨A3, c3, rfl, _, ht3, hb3⟩
      have H3 := Lib.hid (And.intro ht3 hb3)
      clear ht3 hb3
      have s3 := H3.out.2.size
      have hq : q ≤ 2000 := by
        obtain ⟨_, b, _, _⟩ := LexM.lex_error y.length y 0 q us (Nat.le_refl _) HY.out
        omega
      have HC := Lib.hid (Lex_j (ts := []) (len := 0) (n := 10) (i := q + x.length + 1) 10 ((q : Int) + (x.length : Int) + 1) w3 hlx hly (sg_below (sg_below HS.out H2.out.2) H3.out.2) (join_bad2 hlx hly HX.out HY.out) rfl rfl (by omega))
      go_wp2_with fail
      refine HC.out.mono ?_
      rintro e w4 ⟨A4, c4, rfl, _, ht4, hb4⟩
      have H4 := Lib.hid (And.intro ht4 hb4)
      clear ht4 hb4
      go_wp2
      go_ret
      exact ⟨rfl, ((H1.out.trans (H2.out.2.mono s1)).trans (H3.out.2.mono (by omega))).trans (H4.out.2.mono (by omega))⟩
    | none =>
      have hcu := LexM.lex_count y.length y 0 (Nat.le_refl _)
      rw [HY.out] at hcu
      simp only at hcu
      go_wp2_with fail
      refine (Lex_l (len := ts.length) 0 0 w1 (by omega) HS.out (lexOut_ok (by omega) HX.out) rfl rfl rfl).mono ?_
      rintro e w2 ⟨A2, c2, rfl, ⟨_, _, _, hn2⟩, ht2, hb2⟩
      have H2 := Lib.hid (And.intro ht2 (And.intro hb2 hn2))
      clear ht2 hb2 hn2
      have s2 := H2.out.2.1.size
      go_wp2_with fail
      refine (Lex_l (len := us.length) 0 0 w2 (by omega) (sg_below HS.out H2.out.2.1) (lexOut_ok (by omega) HY.out) rfl rfl rfl).mono ?_
      rintro e w3 ⟨A3, c3, rfl, _, ht3, hb3⟩
      have H3 := Lib.hid (And.intro ht3 hb3)
      clear ht3 hb3
      have s3 := H3.out.2.size
      have HC := Lib.hid (Lex_j (len := ts.length + us.length) (n := 0) (i := 0) 0 0 w3 hlx hly (sg_below (sg_below HS.out H2.out.2.1) H3.out.2) (join_ok hlx hly HX.out HY.out) (by simp) rfl rfl)
      go_wp2_with fail
      refine HC.out.mono ?_
      rintro e w4 ⟨A4, c4, rfl, _, ht4, hb4⟩
      have H4 := Lib.hid (And.intro ht4 hb4)
      clear ht4 hb4
      have s4 := H4.out.2.size
      have HT2 : Hid (Toks w4 w4.heap.size A2 (ts.map gOf)) := Lib.hid ((((H2.out.1.below H3.out.2).more s3).below H4.out.2).more s4)
      have HT3 : Hid (Toks w4 w4.heap.size A3 (us.map gOf)) := Lib.hid ((H3.out.1.below H4.out.2).more s4)
      go_wp2_with (at_builtin; refine wpList_append_toks rfl _ _ rfl w4.heap.size _ [] rfl (own_empty w4) A2 ts.length c2 w4.heap.size ts rfl rfl (HT2.out.alloc _) H2.out.2.2 (by simp; omega) (by simp) ?_)
      intro v5 w5 hown5 hg5
      have hb5 : Below w4.heap.size w4 w5 := ((Below.refl w4.heap.size w4).alloc (Nat.le_refl _) _).grown hg5 (by simp) (fun q hq => by simp [Value.ownBlock] at hq; omega)
      have H5 := Lib.hid (And.intro hown5 hb5)
      clear hown5 hb5 hg5
      have s5 := H5.out.2.size
      have HM := Lib.hid (Moved_of (A := A3) (c := c3) (n := us.length) (d := x.length + 1) (w := w5) (dd := (x.length : Int) + 1) (ts := us) rfl (by omega) rfl (by omega) (by omega) (pos_le hly HY.out) ((HT3.out.below H5.out.2).more s5))
      go_wp2_with (first
        | (go_at_call 20; refine HM.out.mono ?_; rintro e w6 ⟨A6, c6, rfl, ⟨_, _, hn6⟩, ht6, hb6⟩; have H6 := Lib.hid (And.intro ht6 (And.intro hb6 hn6)); clear ht6 hb6 hn6; have s6 := H6.out.2.1.size)
        | (at_builtin; refine wpList_append_toks rfl _ _ rfl w4.heap.size _ ts rfl (H5.out.1.kept (grown_of_below H6.out.2.1 none) (own_em _)) A6 us.length c6 w6.heap.size (us.map (LexM.mv (x.length + 1))) rfl (by simp) H6.out.1 H6.out.2.2 (by omega) (by omega) ?_; intro v7 w7 hown7 hg7; have H7 := Lib.hid (And.intro hown7 hg7); clear hown7 hg7)
        | (go_at_call 14; have hb7 : Below w4.heap.size w4 w7 := (H5.out.2.trans (H6.out.2.1.mono s5)).grown H7.out.2 (by omega) (fun q hq => (H5.out.1.lt q hq).1); have HB7 := Lib.hid hb7; clear hb7; refine (Same_own (n := ts.length + us.length) (ts := ts ++ us.map (LexM.mv (x.length + 1))) (base := w4.heap.size) (by simp) (by unfold maxLen; omega) (H4.out.1.below HB7.out) HB7.out.size H7.out.1).mono ?_; rintro e w8 ⟨rfl, n8, rfl⟩))
      go_ret
      have h14 : Below w.heap.size w w4 := ((H1.out.trans (H2.out.2.1.mono s1)).trans (H3.out.2.mono (by omega))).trans (H4.out.2.mono (by omega))
      exact ⟨rfl, below_drewN (h14.trans (HB7.out.mono (by omega))) _⟩

end Go.Proofs.YtnklcoaafgaokaaDoor
