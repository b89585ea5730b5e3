/-
  Parse, WALKED: a text's modules, and its faults.
-/
import Derived.Test.YtccjbpghpoblhaaDoorK28
import Derived.Test.YtccjbpghpoblhaaDoorK04
namespace Go.Proofs.YtccjbpghpoblhaaDoor
open Go.RowKit

set_option maxRecDepth 100000 in
set_option maxHeartbeats 2000000 in
theorem newParser_all (A : Option Addr) (k cp sz : Nat) (w : World) :
    Calls Tryd.prog 21 #[.slice A k cp, .int .i64 (sz : Nat)] w fun e w' => ∃ (es : Array MapEntry) (clock : Nat), e = .returned (.pointer (some ⟨w.heap.size, 0, none⟩)) ∧ Below w.heap.size w w' ∧ w'.heap.size = w.heap.size + 2 ∧ w'.heap[w.heap.size]? = some (.cells #[.slice A k cp, .int .i64 (sz : Nat), .int .i64 0, .int .i64 0, .int .i64 0, .map (some (w.heap.size + 1)), .slice none 0 0] 70 (0, 0)) ∧ w'.heap[w.heap.size + 1]? = some (.map es clock) ∧ es.toList.map (fun e => (e.key, e.val)) = ruleTab.map fun t => (Value.string (str t.1), ruleV w.heap.size t) := by
  go_enter Tryd.func21, Tryd.ntmps21
  go_wp2_with fail
  refine (itemRules_any w.heap.size _).mono ?_
  rintro e w2 ⟨rfl, es, clock, rfl, hes⟩
  have HES := Lib.hid hes
  clear hes
  go_wp2_with fail
  go_ret
  refine ⟨es, clock, rfl, ?_, by simp, ?_, ?_, HES.out⟩
  · exact ((Below.refl _ _).alloc (Nat.le_refl _) _).alloc (by simp) _
  · exact (Below.heap_alloc _ _ _ (by simp)).trans (new_at w _)
  · have := heap_alloc_new (w.alloc (.cells #[.slice A k cp, .int .i64 (sz : Nat), .int .i64 0, .int .i64 0, .int .i64 0, .map (some (w.heap.size + 1)), .slice none 0 0] 70)) (.map es clock)
    rw [show (w.alloc (.cells #[.slice A k cp, .int .i64 (sz : Nat), .int .i64 0, .int .i64 0, .int .i64 0, .map (some (w.heap.size + 1)), .slice none 0 0] 70)).heap.size = w.heap.size + 1 by simp] at this
    exact this

theorem flatMap_get {α β : Type} (f : α → List β) (s : Nat) (hs : ∀ a, (f a).length = s) : ∀ (l : List α) (i j : Nat) (a : α), l[i]? = some a → j < s → (l.flatMap f)[i * s + j]? = (f a)[j]?
  | [], i, j, a, h, _ => by simp at h
  | x :: r, 0, j, a, h, hj => by
    obtain rfl : x = a := by simpa using h
    rw [List.flatMap_cons, Nat.zero_mul, Nat.zero_add, List.getElem?_append_left (by rw [hs]; exact hj)]
  | x :: r, i + 1, j, a, h, hj => by
    have ih := flatMap_get f s hs r i j a (by simpa using h) hj
    rw [List.flatMap_cons, List.getElem?_append_right (by rw [hs, Nat.succ_mul]; omega), hs]
    rw [show (i + 1) * s + j - s = i * s + j by rw [Nat.succ_mul]; omega]
    exact ih

/-- a cell of a row of parts -/
theorem row_cell {α : Type} {w : World} {base : Nat} {e : TypeId} {size : Nat} {v : Value} {l : List α} {f : α → List Value} (hs : ∀ a, (f a).length = size) (h : w.ownsRow base e size v l.length (l.flatMap f)) {i j : Nat} {a : α} (ha : l[i]? = some a) (hj : j < size) :
    ∃ g cap, v = .slice (some ⟨g, 0, none⟩) l.length cap ∧ base ≤ g ∧ g < w.heap.size ∧ w.cell? ⟨g, i * size + j, none⟩ = (f a)[j]? := by
  rcases h.2 with ⟨_, h1⟩ | ⟨g, cap, cur, hv, hb, hh, _, _, _, ht⟩
  · have : l = [] := List.eq_nil_of_length_eq_zero h1
    subst this
    simp at ha
  · refine ⟨g, cap, hv, hb, heap_lt hh, ?_⟩
    rw [cell_at hh]
    have h2 := flatMap_get f size hs l i j a ha hj
    have hil : i < l.length := (List.getElem?_eq_some_iff.1 ha).1
    have hlt : i * size + j < l.length * size := by
      have : (i + 1) * size ≤ l.length * size := Nat.mul_le_mul_right _ hil
      rw [Nat.succ_mul] at this
      omega
    rw [← h2, ← ht, List.getElem?_take, if_pos hlt]
    simp

/-- the place of a token, or of the end -/
def pl (T : List LexM.Tk) (sz k : Nat) : Nat := if k < T.length then (tokAt T k).pos else sz
/-- a text's modules, and its faults with their places -/
def parseOut (l : List UInt8) : List Mo × List (Nat × Nat) :=
  if (lexOut l).2.1 ≠ 0 then ([], [((lexOut l).2.1, (lexOut l).2.2)])
  else ((pDesign (lexOut l).1 ((lexOut l).1.length + 1) 0 [] [] 0).1, (pDesign (lexOut l).1 ((lexOut l).1.length + 1) 0 [] [] 0).2.map fun x => (x.1, pl (lexOut l).1 l.length x.2))
def flCells (x : Nat × Nat) : List Value := [.int .i64 (x.1 : Nat), .int .i64 (x.2 : Nat), .int .i64 0, .int .i64 0]
def FlAt (w : World) (F : Nat → Prop) (xs : List (Nat × Nat)) (v : Value) : Prop := RowAt w F 35 4 v xs.length (xs.flatMap flCells)
/-- what Parse leaves -/
def ParseRet (w : World) (o : List Mo × List (Nat × Nat)) (e : Ending) (w' : World) : Prop :=
  Below w.heap.size w w' ∧ ∃ mv fv, e = .returned (.tuple #[.agg #[mv], fv]) ∧ ModsAt w' (New w) o.1 mv ∧ FlAt w' (New w) o.2 fv

/-- the new parser's state -/
theorem st_new {w w' : World} {base : Nat} {T : List LexM.Tk} {A : Option Addr} {cp sz : Nat} {es : Array MapEntry} {clock : Nat} (ho : w.ownsRow base 37 4 (.slice A T.length cp) T.length (rowOf T)) (hop : OpLaid w) (h1 : 1 < w.heap.size) (hb : Below w.heap.size w w') (hz : w'.heap.size = w.heap.size + 2)
    (h2 : w'.heap[w.heap.size]? = some (.cells #[.slice A T.length cp, .int .i64 (sz : Nat), .int .i64 0, .int .i64 0, .int .i64 0, .map (some (w.heap.size + 1)), .slice none 0 0] 70 (0, 0))) (h3 : w'.heap[w.heap.size + 1]? = some (.map es clock))
    (h4 : es.toList.map (fun e => (e.key, e.val)) = ruleTab.map fun t => (Value.string (str t.1), ruleV w.heap.size t)) (hbd : T.length ≤ 20000) (htl : ∀ t ∈ T, t.text.length ≤ 20000) :
    St ⟨w.heap.size, w.heap.size + 2, A, cp, T, sz, w.heap.size + 1, .map es clock⟩ ⟨0, 0, .slice none 0 0⟩ 0 w' := by
  refine ⟨h2, ?_, hop.same (hb.block 1 h1), ⟨by show 1 < w.heap.size + 2; omega, by show 1 ≠ w.heap.size; omega⟩, h3, ⟨by show w.heap.size + 1 < w.heap.size + 2; omega, by show w.heap.size + 1 ≠ w.heap.size; omega⟩, ⟨es, clock, rfl, h4⟩, by show w.heap.size < w.heap.size + 2; omega, by rw [hz]; exact Nat.le_refl _, Nat.zero_le _, hbd, htl⟩
  intro i t ht
  have hs : ∀ a, (tkCells a).length = 4 := fun a => rfl
  obtain ⟨g, cap, hv, _, hlt, c0⟩ := row_cell (f := tkCells) hs ho (j := 0) ht (by omega)
  obtain ⟨g1, _, hv1, _, _, c1⟩ := row_cell (f := tkCells) hs ho (j := 1) ht (by omega)
  obtain ⟨g2, _, hv2, _, _, c2⟩ := row_cell (f := tkCells) hs ho (j := 2) ht (by omega)
  obtain ⟨g3, _, hv3, _, _, c3⟩ := row_cell (f := tkCells) hs ho (j := 3) ht (by omega)
  have e1 : g = g1 := by rw [hv] at hv1; simp at hv1; exact hv1.1
  have e2 : g = g2 := by rw [hv] at hv2; simp at hv2; exact hv2.1
  have e3 : g = g3 := by rw [hv] at hv3; simp at hv3; exact hv3.1
  subst e1 e2 e3
  have hA : A = some ⟨g, 0, none⟩ := by injection hv
  have q : ∀ o, w'.cell? ⟨g, o, none⟩ = w.cell? ⟨g, o, none⟩ := fun o => World.cell?_of_block (a := ⟨g, o, none⟩) (hb.block g hlt)
  refine ⟨g, 0, hA, by show g ≠ w.heap.size; omega, by show g < w.heap.size + 2; omega, ?_, ?_, ?_, ?_⟩
  · rw [q, Nat.zero_add]; exact c0
  · rw [q, Nat.zero_add]; exact c1
  · rw [q, Nat.zero_add]; exact c2
  · rw [q, Nat.zero_add]; exact c3

theorem lexOut_bounds {l : List UInt8} (hl : l.length ≤ 20000) : (lexOut l).1.length ≤ 20000 ∧ (∀ t ∈ (lexOut l).1, t.text.length ≤ 20000) ∧ LexM.Chain l 0 (lexOut l).1 := by
  have hc := LexM.lex_chain _ l 0 (Nat.le_refl _)
  have hn := LexM.lex_count _ l 0 (Nat.le_refl _)
  rw [List.drop_zero] at hc
  have hchain : ∀ (ts : List LexM.Tk) (e : Nat), LexM.Chain l e ts → ∀ t ∈ ts, t.text.length ≤ l.length := by
    intro ts
    induction ts with
    | nil => intro e _ t ht; simp at ht
    | cons u r ih =>
      intro e h t ht
      rcases List.mem_cons.1 ht with rfl | ht
      · have := h.2.1; omega
      · exact ih _ h.2.2.2.2 t ht
  unfold lexOut
  rw [if_neg (by omega)]
  rcases hx : LexM.lex l 0 with ⟨ts, _ | k⟩
  · rw [hx] at hc hn
    refine ⟨?_, fun t ht => ?_, hc⟩
    · show ts.length ≤ 20000
      simp only [] at hn; omega
    · have := hchain ts 0 hc t ht; omega
  · exact ⟨by simp, fun t ht => by simp at ht, trivial⟩

theorem sg_alloc {w : World} (h : SgLaid w) (o : Obj) : SgLaid (w.alloc o) := by
  obtain ⟨t, fr, h⟩ := h; exact ⟨t, fr, (Below.heap_alloc _ _ _ (heap_lt h)).trans h⟩
theorem op_alloc {w : World} (h : OpLaid w) (o : Obj) : OpLaid (w.alloc o) := by
  obtain ⟨t, fr, h⟩ := h; exact ⟨t, fr, (Below.heap_alloc _ _ _ (heap_lt h)).trans h⟩
theorem op_below {w w' : World} {B : Nat} (h : OpLaid w) (hB : 1 < B) (hb : Below B w w') : OpLaid w' := h.same (hb.block 1 hB)
theorem op_lt {w : World} (h : OpLaid w) : 1 < w.heap.size := by obtain ⟨t, fr, h⟩ := h; exact heap_lt h
theorem faCells_fl (P : Pr) (fs : Fs) : fs.flatMap (faCells P) = (fs.map fun x => (x.1, pl P.T P.sz x.2)).flatMap flCells := by
  rw [List.flatMap_map]; rfl

theorem tyfr_alloc {T e : TypeId} (w : World) (o : Obj) : TyFr T e w (w.alloc o) := fun _ _ _ _ hj _ _ => (Below.heap_alloc _ _ _ (heap_lt hj)).trans hj

set_option maxRecDepth 100000 in
set_option maxHeartbeats 2000000 in
theorem Parse_any (s : ByteArray) (w : World) (hs : s.size ≤ 20000) (hsg : Hid (SgLaid w)) (hop : Hid (OpLaid w)) :
    Calls Tryd.prog 11 #[.string s] w (ParseRet w (parseOut s.data.toList)) := by
  have hsl : s.data.toList.length ≤ 20000 := by rw [← Lib.size_eq]; exact hs
  have hbn := lexOut_bounds hsl
  have HBN := Lib.hid hbn
  have HLEN := Lib.hid (show s.data.toList.length = s.size from (Lib.size_eq s).symm)
  clear hbn hsl
  have h1w := op_lt hop.out
  go_enter Tryd.func11, Tryd.ntmps11
  go_wp2_with fail
  refine (Lex_any s _ hs (Lib.hid (sg_alloc hsg.out _))).mono ?_
  rintro e w1 ⟨v, rfl, hown, hbw⟩
  obtain ⟨L, hL⟩ : ∃ L, L = lexOut s.data.toList := ⟨_, rfl⟩
  rw [← hL] at hown HBN ⊢
  have HL := Lib.hid hL
  clear hL
  have hz : (w.alloc (.cells #[.slice none 0 0] 26)).heap.size = w.heap.size + 1 := by simp
  have G1 := Lib.hid ((hbw.block w.heap.size (by omega)).trans (new_at w _))
  have B1 := Lib.hid (((Below.refl w.heap.size w).alloc (Nat.le_refl _) (.cells #[.slice none 0 0] 26)).trans (hbw.mono (by omega)))
  have g0 := cell_at (o := 0) G1.out
  have zr0 : w1.frozen? ⟨w.heap.size, 0, none⟩ = false := frozen_at G1.out
  have hwl := heap_lt G1.out
  have hne1 : w.heap.size ≠ w1.heap.size := by omega
  obtain ⟨A, cp, rfl⟩ := own_form hown
  have HOWN := Lib.hid hown
  clear hown
  by_cases he : L.2.1 = 0
  · have hd : ((L.2.1 : Int) != 0) = false := by simp; omega
    have HE := Lib.hid he
    have OP1 := Lib.hid (op_below (op_alloc hop.out (.cells #[.slice none 0 0] 26)) (by omega) hbw)
    clear he hbw
    go_wp2_with fail
    refine (newParser_all A L.1.length cp s.size w1).mono ?_
    rintro e w2 ⟨es, clock, rfl, hb2, hz2, h2, h3, h4⟩
    have SN := Lib.hid (st_new HOWN.out OP1.out (by omega) hb2 hz2 h2 h3 h4 HBN.out.1 HBN.out.2.1)
    have HB2 := Lib.hid hb2
    clear hb2 h2 h3 h4
    go_wp2_with fail
    refine (design_any _ _ w2 SN (Lib.hid ⟨World.ownsRow_nil _ _ _ _, fun g h => by cases h⟩) rfl).mono ?_
    rintro e w3 ⟨hq, ⟨V3, n3, hs3, ha3⟩, mv, rfl, hm3⟩
    have G3 := Lib.hid (hq.ty _ _ _ _ ((HB2.out.block w.heap.size (by omega)).trans G1.out) (by decide) (by decide))
    have g3 : w3.cell? ⟨w.heap.size, 0, none⟩ = some (.slice none 0 0) := by rw [cell_at G3.out]; rfl
    have zr3 : w3.frozen? ⟨w.heap.size, 0, none⟩ = false := frozen_at G3.out
    have c6 : w3.cell? ⟨w1.heap.size, 6, none⟩ = some V3.fa := hs3.c6
    obtain ⟨css9, hi9, _⟩ := id hm3
    obtain ⟨Ai, ci', hiv⟩ := row_form hi9
    subst hiv
    obtain ⟨Af, cf', hfv⟩ := row_form ha3
    rw [hfv] at c6 ha3
    have hw3 := heap_lt G3.out
    have hw31 : w1.heap.size < w3.heap.size := hs3.lt
    have hne3 : w.heap.size ≠ w3.heap.size := by omega
    have hne31 : w1.heap.size ≠ w3.heap.size := by omega
    have HQ := Lib.hid hq
    have HM3 := Lib.hid hm3
    have HA3 := Lib.hid ha3
    clear hq hm3 ha3 hs3 hi9 g0 zr0 hfv
    go_wp2_with fail
    go_region
    all_goals go_wp2_with fail
    all_goals
      refine bodyPost_ret (v := .tuple #[.agg #[.slice Ai (pDesign L.1 (L.1.length + 1) 0 [] [] 0).1.length ci'], .slice Af (pDesign L.1 (L.1.length + 1) 0 [] [] 0).2.length cf']) (by simp [results, Tryd.results11, go_sem, g3, hw3]) rfl ?_
      have k1 := tyfr_set 0 (.slice Ai (pDesign L.1 (L.1.length + 1) 0 [] [] 0).1.length ci') G3.out
      have K : TyFr 26 26 w3 ((w3.setCell ⟨w.heap.size, 0, none⟩ (.slice Ai (pDesign L.1 (L.1.length + 1) 0 [] [] 0).1.length ci')).alloc (.cells #[.slice Ai (pDesign L.1 (L.1.length + 1) 0 [] [] 0).1.length ci'] 26)).drew := k1.trans (tyfr_alloc _ _)
      have hq := HQ.out
      have hsz3 := hq.size
      refine ⟨?_, _, _, rfl, ?_, ?_⟩
      · refine ⟨hq.os.trans (HB2.out.os.trans B1.out.os), hq.tape.trans (HB2.out.tape.trans B1.out.tape), hq.output.trans (HB2.out.output.trans B1.out.output), ?_, fun j hj => ?_⟩
        · show w.heap.size ≤ ((w3.setCell _ _).alloc _).heap.size
          simp [World.setCell]; omega
        · refine (Below.heap_alloc (w3.setCell ⟨w.heap.size, 0, none⟩ (.slice Ai (pDesign L.1 (L.1.length + 1) 0 [] [] 0).1.length ci')) _ j (by rw [setCell_size]; omega)).trans ?_
          refine (Below.heap_setCell _ _ _ _ (by show j ≠ w.heap.size; omega)).trans ?_
          exact (hq.low j (by show j < w1.heap.size + 2; omega) (by show j ≠ w1.heap.size; omega)).trans ((HB2.out.block j (by omega)).trans (B1.out.block j hj))
      · have hO : (parseOut s.data.toList).1 = (pDesign L.1 (L.1.length + 1) 0 [] [] 0).1 := by
          unfold parseOut
          rw [← HL.out, if_neg (by simp [HE.out])]
        rw [hO]
        exact (HM3.out.keep (F' := New w) (fun g hg => by unfold New at hg ⊢; omega) (fun _ _ _ h => h)).ty K (by decide) (by decide) (by decide) (by decide) (by decide) (by decide)
      · have hO : (parseOut s.data.toList).2 = (pDesign L.1 (L.1.length + 1) 0 [] [] 0).2.map fun x => (x.1, pl L.1 s.size x.2) := by
          unfold parseOut
          rw [← HL.out, if_neg (by simp [HE.out]), HLEN.out]
        rw [hO]
        have h5 := RowAt.ty (RowAt.keep (F' := New w) HA3.out (fun g hg => by have hg : w1.heap.size + 2 ≤ g := hg; unfold New; omega) (fun _ _ _ h => h)) K (by decide) (by decide)
        rw [faCells_fl] at h5
        unfold FlAt
        rw [List.length_map]
        exact h5
  · have hd : ((L.2.1 : Int) != 0) = true := by simp; omega
    have HE := Lib.hid he
    clear he hbw
    go_wp2_with fail
    refine bodyPost_ret (v := .tuple #[.agg #[.slice none 0 0], .slice (some ⟨w1.heap.size, 0, none⟩) 1 1]) (by simp [results, Tryd.results11, go_sem, g0, hwl]) rfl ?_
    have hO : parseOut s.data.toList = ([], [(L.2.1, L.2.2)]) := by
      unfold parseOut
      rw [← HL.out, if_pos HE.out]
    rw [hO]
    refine ⟨?_, _, _, rfl, mods_nil _ _, ⟨⟨rfl, .inr ⟨w1.heap.size, 1, #[.int .i64 (L.2.1 : Nat), .int .i64 (L.2.2 : Nat), .int .i64 0, .int .i64 0], rfl, Nat.zero_le _, ?_, Nat.le_refl _, by unfold maxLen; omega, rfl, rfl⟩⟩, fun g hg => ?_⟩⟩
    · have b1 : Below w.heap.size w1 (w1.setCell ⟨w.heap.size, 0, none⟩ (.slice none 0 0)) := ⟨rfl, rfl, rfl, by rw [setCell_size]; exact Nat.le_refl _, fun j hj => Below.heap_setCell _ _ _ _ (by show j ≠ w.heap.size; omega)⟩
      exact (B1.out.trans b1).alloc (by rw [setCell_size]; omega) _
    · have := new_at (w1.setCell ⟨w.heap.size, 0, none⟩ (.slice none 0 0)) (.cells #[.int .i64 (L.2.1 : Nat), .int .i64 (L.2.2 : Nat), .int .i64 0, .int .i64 0] 35)
      rw [setCell_size] at this
      exact this
    · have : w1.heap.size = g := Option.some.inj hg
      subst this
      unfold New; omega

end Go.Proofs.YtccjbpghpoblhaaDoor

