/-
  What the checker's expr keeps between two rounds.
-/
import Derived.Test.YtjkaeabnjkhllaaScExm
import Derived.Sort.LoopGhostIn
namespace Go.Proofs.Ytjkaeabnjkhllaa
open Go.RowKit Go.Shelf
attribute [local go_sem] Oper.semAt_some

/-- what lies where, between two rounds -/
structure EI (w : World) (ck : Array Value) (wr : World) (st : List Ex) (ks : List (Addr × Nat)) (v : Value) (css : List (List Value)) : Prop where
  gr : Gr w wr
  box : wr.heap[w.heap.size + 4]? = some (.cells #[v] 45 (0, 0))
  chk : wr.heap[w.heap.size]? = some (.cells ck 70 (0, 0))
  map : MetAt wr (w.heap.size + 3) ks
  row : wr.ownsRow (w.heap.size + 2) 47 11 v st.length css.flatten
  l11 : ∀ c ∈ css, c.length = 11
  len : css.length = st.length
  trees : ∀ (j : Nat) (t : Ex) (c : List Value), st.reverse[j]? = some t → css[j]? = some c → ExAt w t c
  names : ∀ t ∈ st, ExAll SmallName t
  keys : ∀ x ∈ ks, CellAt w x.1
/-- and what is known of what is left -/
def RI (w : World) (ms : List Mo) (m : Mo) (t0 : Ex) (st : List Ex) (ks : List (Addr × Nat)) : Prop := ExAll IsCl t0 → (∀ t ∈ st, ExAll IsCl t) ∧ exErr ms m t0 = exsErr ms m st ∧ ∀ x ∈ ks, CleanAt w x.1 ∧ ∃ K, KidsAt w x K ∧ Met ms m K st
/-- what expr tells -/
def ExpRet (w : World) (ms : List Mo) (m : Mo) (t : Ex) (e : Ending) (w' : World) : Prop := ∃ r : Nat, e = .returned (.int .i64 (r : Nat)) ∧ (ExAll IsCl t → r = exErr ms m t) ∧ Gr w w'

theorem EI.gr' {w : World} {ck : Array Value} {wr V : World} {st : List Ex} {ks : List (Addr × Nat)} {v : Value} {css : List (List Value)} (h : EI w ck wr st ks v css) (hg : Gr wr V) : EI w ck V st ks v css :=
  ⟨h.gr.trans hg, hg.keep h.box, hg.keep h.chk, h.map.gr hg, h.row.kept (row := none) hg (by cases hv : v.ownBlock with | none => exact .inl rfl | some k => exact .inr (by simp)), h.l11, h.len, h.trees, h.names, h.keys⟩
theorem EI.form {w : World} {ck : Array Value} {wr : World} {st : List Ex} {ks : List (Addr × Nat)} {v : Value} {css : List (List Value)} (h : EI w ck wr st ks v css) : ∃ A c, v = .slice A st.length c := by
  rcases h.row.2 with ⟨rfl, h0⟩ | ⟨g, cap, cur, rfl, _⟩
  · exact ⟨none, 0, by rw [h0]⟩
  · exact ⟨_, _, rfl⟩
theorem flat_last {css : List (List Value)} {c : List Value} (hl : ∀ d ∈ css ++ [c], d.length = 11) : (css ++ [c]).flatten.length = css.length * 11 + 11 ∧ css.flatten.length = css.length * 11 := by
  have : ∀ l : List (List Value), (∀ d ∈ l, d.length = 11) → l.flatten.length = l.length * 11 := by
    intro l
    induction l with
    | nil => intro _; simp
    | cons a r ih => intro h; rw [List.flatten_cons, List.length_append, h a (by simp), ih (fun c hc => h c (by simp [hc])), List.length_cons, Nat.add_mul]; omega
  have h1 := this _ hl
  have h2 := this css (fun d hd => hl d (by simp [hd]))
  rw [List.length_append, List.length_singleton, Nat.add_mul] at h1
  exact ⟨by omega, h2⟩
/-- what lies on top -/
theorem EI.top {w : World} {ck : Array Value} {wr : World} {e : Ex} {r : List Ex} {ks : List (Addr × Nat)} {v : Value} {css : List (List Value)} (h : EI w ck wr (e :: r) ks v css) :
    ∃ g cap kA kC css', v = .slice (some ⟨g, 0, none⟩) (r.length + 1) cap ∧ css = css' ++ [hdCells e.hd (.slice kA e.kids.length kC)] ∧ wr.rangeAt g (r.length * 11) (hdCells e.hd (.slice kA e.kids.length kC)) ∧ ExAt w e (hdCells e.hd (.slice kA e.kids.length kC)) ∧ r.length + 1 ≤ cap ∧ cap ≤ maxLen ∧ g ≠ w.heap.size + 4 ∧ w.heap.size + 2 ≤ g ∧ g < wr.heap.size := by
  obtain ⟨c, css', rfl⟩ : ∃ c css', css = css' ++ [c] := by
    rcases List.eq_nil_or_concat css with rfl | ⟨css', c, e⟩
    · have := h.len; simp at this
    · exact ⟨c, css', by simpa using e⟩
  have hl := h.len
  simp at hl
  have hc := h.trees r.length e c (by rw [List.reverse_cons, List.getElem?_append_right (by simp)]; simp) (by rw [List.getElem?_append_right (by omega), show r.length - css'.length = 0 by omega]; rfl)
  obtain ⟨x, y, rfl, hr, hyl, _⟩ := hc.open
  obtain ⟨kA, kC, rfl⟩ := hr.form
  rw [hyl] at hc
  rcases h.row.2 with ⟨_, h0⟩ | ⟨g, cap, cur, rfl, hb, hh, hcap, hmax, hs, ht⟩
  · simp at h0
  · refine ⟨g, cap, kA, kC, css', rfl, by rw [hyl], fun j u hu => ?_, hc, hcap, hmax, ?_, hb, heap_lt hh⟩
    · have hj : j < 11 := by have := (List.getElem?_eq_some_iff.1 hu).1; simpa [hdCells] using this
      obtain ⟨f1, f2⟩ := flat_last h.l11
      rw [cell_at hh, ← Array.getElem?_toList]
      have h1 := congrArg (fun l => l[r.length * 11 + j]?) ht
      simp only [List.length_cons] at h1
      rw [List.getElem?_take, if_pos (by rw [Nat.add_mul]; omega)] at h1
      rw [h1, List.flatten_append, List.getElem?_append_right (by omega), f2]
      have : r.length * 11 + j - css'.length * 11 = j := by omega
      rw [this, hyl]
      simpa using hu
    · rintro rfl
      rw [h.box] at hh
      cases hh
theorem own_shrink {w : World} {base g n cap : Nat} {c : List Value} {css : List (List Value)} (h : w.ownsRow base 47 11 (.slice (some ⟨g, 0, none⟩) (n + 1) cap) (n + 1) (css ++ [c]).flatten) (hl : ∀ d ∈ css ++ [c], d.length = 11) : w.ownsRow base 47 11 (.slice (some ⟨g, 0, none⟩) n cap) n css.flatten := by
  obtain ⟨f1, f2⟩ := flat_last hl
  have h1 := h.1
  rw [f1, Nat.add_mul] at h1
  refine ⟨by omega, ?_⟩
  rcases h.2 with ⟨_, h0⟩ | ⟨g', cap', cur, e, hb, hh, hcap, hmax, hs, ht⟩
  · simp at h0
  · simp at e
    obtain ⟨rfl, rfl⟩ := e
    refine .inr ⟨g, cap, cur, rfl, hb, hh, by omega, hmax, hs, ?_⟩
    have h2 := congrArg (List.take (n * 11)) ht
    rw [List.take_take, Nat.min_eq_left (by rw [Nat.add_mul]; omega), List.flatten_append, List.take_append_of_le_length (by omega), List.take_of_length_le (l := css.flatten) (by omega)] at h2
    exact h2
theorem own_kept {w w' : World} {base g n cap : Nat} {xs : List Value} (h : w.ownsRow base 47 11 (.slice (some ⟨g, 0, none⟩) n cap) n xs) (hk : w'.heap[g]? = w.heap[g]?) : w'.ownsRow base 47 11 (.slice (some ⟨g, 0, none⟩) n cap) n xs := by
  refine ⟨h.1, ?_⟩
  rcases h.2 with hn | ⟨g', cap', cur, e, hb, hh, rest⟩
  · exact .inl hn
  · simp at e
    obtain ⟨rfl, rfl⟩ := e
    exact .inr ⟨g, cap, cur, rfl, hb, hk.trans hh, rest⟩
theorem set_same {w : World} {b : Nat} {x y : Value} {t : TypeId} (h : w.heap[b]? = some (.cells #[x] t (0, 0))) : (w.setCell ⟨b, 0, none⟩ y).heap[b]? = some (.cells #[y] t (0, 0)) := by
  simp [World.setCell, Array.getElem?_modify, h]
theorem EI.pop {w : World} {ck : Array Value} {wr : World} {e : Ex} {r : List Ex} {ks : List (Addr × Nat)} {css : List (List Value)} {c : List Value} {g cap : Nat} (h : EI w ck wr (e :: r) ks (.slice (some ⟨g, 0, none⟩) (r.length + 1) cap) (css ++ [c])) (hg : g ≠ w.heap.size + 4) :
    EI w ck (wr.setCell ⟨w.heap.size + 4, 0, none⟩ (.slice (some ⟨g, 0, none⟩) r.length cap)) r ks (.slice (some ⟨g, 0, none⟩) r.length cap) css := by
  have hne : ∀ k, k ≠ w.heap.size + 4 → (wr.setCell ⟨w.heap.size + 4, 0, none⟩ (.slice (some ⟨g, 0, none⟩) r.length cap)).heap[k]? = wr.heap[k]? := fun k hk => set_block (Ne.symm hk)
  refine ⟨gr_set h.gr (by omega), set_same h.box, (hne _ (by omega)).trans h.chk, ?_, own_kept (own_shrink h.row h.l11) (hne g hg), fun d hd => h.l11 d (by simp [hd]), ?_, fun j t d ht hd => ?_, fun t ht => h.names t (by simp [ht]), h.keys⟩
  · obtain ⟨es, cl, q1, q2⟩ := h.map
    exact ⟨es, cl, (hne _ (by omega)).trans q1, q2⟩
  · have := h.len
    simp at this
    omega
  · refine h.trees j t d ?_ ?_
    · rw [List.reverse_cons, List.getElem?_append_left (List.getElem?_eq_some_iff.1 ht).1]
      exact ht
    · rw [List.getElem?_append_left (List.getElem?_eq_some_iff.1 hd).1]
      exact hd
theorem MarksAt.gr {W W' : World} {B : Nat} {Ds : List Nat} (h : MarksAt W B Ds) (hg : Gr W W') : MarksAt W' B Ds := ⟨h.1, fun D hD => ⟨(h.2 D hD).1, hg.keep (h.2 D hD).2⟩⟩
theorem MarksAt.set {W : World} {B b : Nat} {x y : Value} {t : TypeId} {Ds : List Nat} (h : MarksAt W B Ds) (hb : W.heap[b]? = some (.cells #[x] t (0, 0))) : MarksAt (W.setCell ⟨b, 0, none⟩ y) B Ds :=
  ⟨h.1, fun D hD => ⟨(h.2 D hD).1, (set_block (fun e => by have := (h.2 D hD).2; rw [← e, hb] at this; cases this)).trans (h.2 D hD).2⟩⟩
theorem ri_skip {w : World} {ms : List Mo} {m : Mo} {t0 e : Ex} {r : List Ex} {ks : List (Addr × Nat)} (h : RI w ms m t0 (e :: r) ks) (h0 : itself ms m e.hd e.kids.length = 0) (hk : ExAll IsCl t0 → exsErr ms m e.kids = 0) : RI w ms m t0 r ks := fun c => by
  obtain ⟨a1, a2, a3⟩ := h c
  refine ⟨fun t ht => a1 t (by simp [ht]), ?_, fun x hx => ?_⟩
  · rw [a2, exsErr, exErr_kids h0, hk c]
    simp
  · obtain ⟨b1, K, b2, b3⟩ := a3 x hx
    exact ⟨b1, K, b2, b3.skip h0 (hk c)⟩
theorem ri_push {w : World} {ms : List Mo} {m : Mo} {t0 e : Ex} {r : List Ex} {ks ks' : List (Addr × Nat)} {x : Addr × Nat} (h : RI w ms m t0 (e :: r) ks) (h0 : itself ms m e.hd e.kids.length = 0) (hx : ExAll IsCl t0 → CleanAt w x.1 ∧ KidsAt w x e.kids) (hs : ∀ y ∈ ks', y ∈ ks ∨ y = x) : RI w ms m t0 (e.kids ++ r) ks' := fun c => by
  obtain ⟨a1, a2, a3⟩ := h c
  refine ⟨fun t ht => ?_, ?_, fun y hy => ?_⟩
  · rcases List.mem_append.1 ht with ht | ht
    · exact (a1 e (by simp)).kids t ht
    · exact a1 t (by simp [ht])
  · rw [a2, exsErr, exErr_kids h0, exsErr_app]
  · rcases hs y hy with hy | rfl
    · obtain ⟨b1, K, b2, b3⟩ := a3 y hy
      exact ⟨b1, K, b2, b3.push h0⟩
    · exact ⟨(hx c).1, e.kids, (hx c).2, Met.new _ _⟩
theorem ri_met {w : World} {ms : List Mo} {m : Mo} {t0 e : Ex} {r : List Ex} {ks : List (Addr × Nat)} {x : Addr × Nat} (h : RI w ms m t0 (e :: r) ks) (c : ExAll IsCl t0) (hx : KidsAt w x e.kids) (hm : x ∈ ks) : exsErr ms m e.kids = 0 := by
  obtain ⟨a1, a2, a3⟩ := h c
  obtain ⟨b1, K, b2, b3⟩ := a3 x hm
  obtain rfl := b2.det hx
  exact b3.done
theorem wpIn_noPanic {F : Fence} {n : Nat} {P : Program} {c : Code} {Q : Exit → Act → World → Prop} {a : Act} {w : World} (h : c.wpIn F n P (NoPanic Q) a w) : c.wpIn F n P Q a w :=
  wpIn_mono h (fun e a w h => NoPanic.imp e a w h)
theorem kc_of {w : World} {e : Ex} {A : Option Addr} {c : Nat} (h : ExAt w e (hdCells e.hd (.slice A e.kids.length c))) : ∃ xs : List Kc, xs.length = e.kids.length ∧ RowC w 11 (.slice A xs.length c) (xs.map kcCells) ∧ (∀ (j : Nat) (x : Kc), xs[j]? = some x → x.1 = j) ∧ ∀ (j : Nat) (t : Ex) (x : Kc), e.kids[j]? = some t → xs[j]? = some x → ExAt w t (kcCells x) := by
  obtain ⟨v, css, q1, q2, q3, q4⟩ := h.open
  obtain ⟨_, _, _, _, _, _, e7⟩ := hdCells_inj q1
  subst e7
  have hf : ∀ j, ∃ x : Kc, x.1 = j ∧ ∀ d, css[j]? = some d → d = kcCells x := fun j => by
    rcases hd : css[j]? with _ | d
    · exact ⟨(j, ⟨0, (default, 0), (default, 0), (default, 0), (default, 0), default, false⟩, none, 0, 0), rfl, by simp⟩
    · have hj := (List.getElem?_eq_some_iff.1 hd).1
      have hk := q4 j (e.kids[j]'(by omega)) d (List.getElem?_eq_getElem (by omega)) hd
      obtain ⟨v2, css2, r1, r2, _⟩ := hk.open
      obtain ⟨A2, c2, rfl⟩ := r2.form
      exact ⟨(j, _, A2, _, c2), rfl, fun d' hd' => by cases hd'; exact r1⟩
  obtain ⟨f, hf⟩ : ∃ f : Nat → Kc, ∀ j, (f j).1 = j ∧ ∀ d, css[j]? = some d → d = kcCells (f j) := ⟨fun j => (hf j).choose, fun j => (hf j).choose_spec⟩
  have hm : ((List.range e.kids.length).map f).map kcCells = css := by
    apply List.ext_getElem?
    intro j
    rcases Nat.lt_or_ge j e.kids.length with hj | hj
    · have hj2 : j < css.length := by omega
      rw [List.getElem?_map, List.getElem?_map, List.getElem?_range hj, List.getElem?_eq_getElem hj2]
      simp only [Option.map_some]
      rw [← (hf j).2 _ (List.getElem?_eq_getElem hj2)]
    · rw [List.getElem?_eq_none (by simpa using hj), List.getElem?_eq_none (by omega)]
  refine ⟨(List.range e.kids.length).map f, by simp, by rw [hm]; simpa using q2, fun j x hx => ?_, fun j t x ht hx => ?_⟩
  · rw [List.getElem?_map] at hx
    rcases hr : (List.range e.kids.length)[j]? with _ | k
    · rw [hr] at hx; cases hx
    · rw [hr] at hx
      have := (List.getElem?_eq_some_iff.1 hr)
      simp at this
      obtain ⟨_, rfl⟩ := this
      cases hx
      exact (hf j).1
  · have hx2 : css[j]? = some (kcCells x) := by rw [← hm, List.getElem?_map, hx]; rfl
    exact q4 j t _ ht hx2
/-- a map is written anew -/
theorem EI.put {w : World} {ck : Array Value} {X : World} {r : List Ex} {ks ks' : List (Addr × Nat)} {v : Value} {css : List (List Value)} (h : EI w ck X r ks v css) (k : Nat) (o : Obj) (hm : MetAt ((X.drewN k).putObj (w.heap.size + 3) o) (w.heap.size + 3) ks') (hk : ∀ x ∈ ks', CellAt w x.1) : EI w ck ((X.drewN k).putObj (w.heap.size + 3) o) r ks' v css := by
  have h1 := h.gr' (Gr.drewN X k)
  have hne : ∀ b, b ≠ w.heap.size + 3 → ((X.drewN k).putObj (w.heap.size + 3) o).heap[b]? = (X.drewN k).heap[b]? := fun b hb => World.putObj_heap_other hb
  refine ⟨gr_of ((bel_of h1.gr).grown (grownBy_putObj' (X.drewN k) (w.heap.size + 3) o) h1.gr.size (fun b e => by cases e; omega)), (hne _ (by omega)).trans h1.box, (hne _ (by omega)).trans h1.chk, hm, ?_, h.l11, h.len, h.trees, h.names, hk⟩
  refine ⟨h1.row.1, ?_⟩
  rcases h1.row.2 with hn | ⟨g, cap, cur, e, hb, hh, rest⟩
  · exact .inl hn
  · refine .inr ⟨g, cap, cur, e, hb, (hne g ?_).trans hh, rest⟩
    rintro rfl
    obtain ⟨es, cl, q1, _⟩ := h1.map
    rw [hh] at q1
    cases q1
theorem MarksAt.put {w X : World} {ck : Array Value} {r : List Ex} {ks : List (Addr × Nat)} {v : Value} {css : List (List Value)} {Ds : List Nat} {B : Nat} (h : MarksAt X B Ds) (he : EI w ck X r ks v css) (k : Nat) (o : Obj) : MarksAt ((X.drewN k).putObj (w.heap.size + 3) o) B Ds :=
  ⟨h.1, fun D hD => ⟨(h.2 D hD).1, (World.putObj_heap_other (fun e => by
    obtain ⟨es, cl, q1, _⟩ := he.map
    have := (h.2 D hD).2
    rw [e, q1] at this
    cases this)).trans (h.2 D hD).2⟩⟩
/-- all orders of a region end alike -/
theorem merge {F : Fence} {n : Nat} {P : Program} {c : Code} {Q : Exit → Act → World → Prop} {a : Act} {w : World} {X : World} {FR : Act} (hr : Q .normal FR X → c.wpIn F n P (NoPanic Q) a w) (hq : Q .normal FR X) : c.wpIn F n P Q a w := wpIn_noPanic (hr hq)
/-- where kids lie -/
theorem kids_at {w : World} {e : Ex} {kA : Option Addr} {kC : Nat} (h : ExAt w e (hdCells e.hd (.slice kA e.kids.length kC))) (hpos : 0 < e.kids.length) : ∃ g o, kA = some ⟨g, o, none⟩ ∧ CellAt w ⟨g, o, none⟩ ∧ (ExAll IsCl e → CleanAt w ⟨g, o, none⟩ ∧ KidsAt w (⟨g, o, none⟩, e.kids.length) e.kids) := by
  obtain ⟨v, css, q1, q2, q3, q4⟩ := h.open
  obtain ⟨_, _, _, _, _, _, e7⟩ := hdCells_inj q1
  subst e7
  obtain ⟨g, o, rfl, hg, hr⟩ := q2.at (j := 0) (List.getElem?_eq_getElem (by omega))
  have q5 := q2
  obtain ⟨_, l11, A, cap, _, _, _, hu⟩ := q2
  obtain ⟨cs, t, z, u1, u2⟩ := hu g o _ _ rfl hpos
  have hl : (css[0]'(by omega)).length = 11 := l11 _ (List.getElem_mem _)
  have h0 := hr 0 _ (List.getElem?_eq_getElem (by omega))
  rw [cell_at u1] at h0
  have hs := (Array.getElem?_eq_some_iff.1 h0).1
  refine ⟨g, o, rfl, ⟨cs, t, z, u1, u2, by omega⟩, fun c => ⟨?_, g, o, kC, css, rfl, q5, q3, q4, c.kids⟩⟩
  obtain ⟨cs', t', k1⟩ := h.cln c.hd g o _ _ rfl hpos
  exact ⟨cs', t', k1⟩
/-- the frame between two rounds -/
def FrE (w : World) (ck : Array Value) (i : Value) (ev : Array Value) (u : Nat → Value) (Ds : List Nat) : Act :=
  { tmps := #[.agg ck, i, .agg ev, .pointer (some ⟨w.heap.size, 0, none⟩), undef, .pointer (some ⟨w.heap.size + 1, 0, none⟩), .int .i64 0, .pointer (some ⟨w.heap.size + 4, 0, none⟩), .map (some (w.heap.size + 3)), u 9, u 10, u 11, u 12, u 13, u 14, u 15, u 16, u 17, u 18, u 19, u 20, u 21, u 22, u 23, u 24, u 25, u 26, u 27, u 28, u 29, u 30, u 31, u 32, u 33, u 34, u 35, u 36, u 37, u 38, u 39, u 40, u 41, u 42, u 43, u 44, u 45, u 46, u 47, u 48, u 49, u 50, u 51, u 52, u 53, u 54, u 55, u 56, u 57, u 58, u 59, u 60, u 61, u 62, u 63, u 64, u 65, u 66, u 67, u 68, u 69, u 70], defers := Ds.map mkD }

theorem fre {w : World} {ck : Array Value} {i : Value} {ev : Array Value} (tm : Array Value) (Ds : List Nat) (h : tm = (FrE w ck i ev (fun n => tm.getD n undef) Ds).tmps) : ({ tmps := tm, defers := Ds.map mkD } : Act) = FrE w ck i ev (fun n => tm.getD n undef) Ds := by
  have : ∀ a : Act, tm = a.tmps → a.defers = Ds.map mkD → ({ tmps := tm, defers := Ds.map mkD } : Act) = a := by
    rintro ⟨x, y⟩ rfl h2
    cases h2
    rfl
  exact this _ h rfl

end Go.Proofs.Ytjkaeabnjkhllaa
