/-
  The checker's expr: what it keeps between two rounds; marks that ranges over functions have left.
-/
import Derived.Test.YtjkaeabnjkhllaaScBck
import Derived.Test.YtjkaeabnjkhllaaScIts
import Derived.Test.YtjkaeabnjkhllaaScExi
namespace Go.Proofs.Ytjkaeabnjkhllaa
open Go.RowKit Go.Shelf

def mkD (D : Nat) : Deferred := { target := .collected D, args := #[] }
def MarksAt (W : World) (B : Nat) (Ds : List Nat) : Prop := Ds.Nodup ∧ ∀ D ∈ Ds, B ≤ D ∧ W.heap[D]? = some (.deferred (some []))
theorem leaves_marks {F : Fence} {n : Nat} {fn : Func} {tmps : Array Value} {R : Ending → World → Prop} {w : World} (hres : ∀ W', Gr w W' → LeavesIn F n Try.prog fn tmps R [] .returning W') :
    ∀ (Ds : List Nat) (W : World), Gr w W → MarksAt W w.heap.size Ds → LeavesInM F n Try.prog fn tmps R (Ds.map mkD) .returning W
  | [], W, hg, _ => hres W hg
  | D :: Ds, W, hg, hm => by
    have hD := hm.2 D (by simp)
    refine ⟨by simp, .inl ⟨D, _, rfl, run_takeDeferred hD.2, ?_⟩⟩
    refine leaves_marks hres Ds _ (gr_of ((bel_of hg).trans (belowK_b (w := w) (Nat.le_refl _) W D _ _ (by omega) hD.2 rfl rfl))) ⟨(List.nodup_cons.1 hm.1).2, fun E hE => ⟨(hm.2 E (by simp [hE])).1, ?_⟩⟩
    have hne : E ≠ D := fun e => (List.nodup_cons.1 hm.1).1 (e ▸ hE)
    exact (World.putObj_heap_other hne).trans (hm.2 E (by simp [hE])).2

/-- something holds of all that an expression is made of -/
inductive ExAll (p : Hd → Prop) : Ex → Prop
  | mk (h : Hd) (ks : List Ex) (hp : p h) (hk : ∀ k ∈ ks, ExAll p k) : ExAll p (.mk h ks)
theorem ExAll.hd {p : Hd → Prop} {t : Ex} (h : ExAll p t) : p t.hd := by cases h; assumption
theorem ExAll.kids {p : Hd → Prop} {t : Ex} (h : ExAll p t) : ∀ k ∈ t.kids, ExAll p k := by cases h; assumption
/-- names are no longer than can be cut -/
def SmallName (h : Hd) : Prop := h.name.size < 4294967281
def IsCl (h : Hd) : Prop := h.cl = true

theorem hdCells_inj {h h' : Hd} {v v' : Value} (e : hdCells h v = hdCells h' v') : h.op = h'.op ∧ h.val = h'.val ∧ h.wid = h'.wid ∧ h.hi = h'.hi ∧ h.lo = h'.lo ∧ h.name = h'.name ∧ v = v' := by
  simp [hdCells] at e
  obtain ⟨e1, e2, e3, e4, e5, e6, e7, e8, e9, e10, e11⟩ := e
  exact ⟨e1, Prod.ext e2 e3, Prod.ext e4 e5, Prod.ext e6 e7, Prod.ext e8 e9, e10, e11⟩
/-- what lies in one place is one expression -/
theorem ExAt.det {w : World} {t : Ex} {cs : List Value} (h : ExAt w t cs) : ∀ {t' : Ex}, ExAt w t' cs → ExAll IsCl t → ExAll IsCl t' → t = t' := by
  induction h with
  | mk h ks v css hr hl hk hc ih =>
    intro t' h' c c'
    generalize hcs : hdCells h v = cs at h'
    cases h' with
    | mk h2 ks2 v2 css2 hr2 hl2 hk2 hc2 =>
      obtain ⟨e1, e2, e3, e4, e5, e6, e7⟩ := hdCells_inj hcs
      subst e7
      have e8 : h.cl = h2.cl := by rw [show h.cl = true from c.hd, show h2.cl = true from c'.hd]
      have eh : h = h2 := by cases h; cases h2; simp at e1 e2 e3 e4 e5 e6 e8; simp [*]
      have hlen : css.length = css2.length := by
        obtain ⟨A, cap, q1⟩ := hr.form
        obtain ⟨A', cap', q2⟩ := hr2.form
        rw [q1] at q2
        injection q2
      have hcss : css = css2 := by
        apply List.ext_getElem?
        intro j
        rcases Nat.lt_or_ge j css.length with hj | hj
        · have hj2 : j < css2.length := by omega
          obtain ⟨A, cap, q1⟩ := hr.form
          have r1 : ∃ g o, A = some ⟨g, o, none⟩ ∧ g < w.heap.size ∧ w.rangeAt g (o + j * 11) css[j] := RowC.at (q1 ▸ hr) (List.getElem?_eq_getElem hj)
          have r2 : ∃ g o, A = some ⟨g, o, none⟩ ∧ g < w.heap.size ∧ w.rangeAt g (o + j * 11) css2[j] := RowC.at (q1 ▸ hr2) (List.getElem?_eq_getElem hj2)
          obtain ⟨g, o, a1, _, a2⟩ := r1
          obtain ⟨g', o', b1, _, b2⟩ := r2
          rw [a1] at b1
          cases b1
          rw [List.getElem?_eq_getElem hj, List.getElem?_eq_getElem hj2]
          congr 1
          apply List.ext_getElem?
          intro i
          have l1 : css[j].length = 11 := hr.2.1 _ (List.getElem_mem hj)
          have l2 : (css2[j]).length = 11 := hr2.2.1 _ (List.getElem_mem _)
          rcases Nat.lt_or_ge i 11 with hi | hi
          · have x1 := a2 i _ (List.getElem?_eq_getElem (l1 ▸ hi))
            have x2 := b2 i _ (List.getElem?_eq_getElem (l2 ▸ hi))
            rw [x1] at x2
            rw [List.getElem?_eq_getElem (l1 ▸ hi), List.getElem?_eq_getElem (l2 ▸ hi)]
            exact x2
          · rw [List.getElem?_eq_none (by omega), List.getElem?_eq_none (by omega)]
        · rw [List.getElem?_eq_none hj, List.getElem?_eq_none (by omega)]
      subst hcss
      have hks : ks = ks2 := by
        apply List.ext_getElem?
        intro j
        rcases Nat.lt_or_ge j ks.length with hj | hj
        · have hj2 : j < ks2.length := by omega
          have hj3 : j < css.length := by omega
          rw [List.getElem?_eq_getElem hj, List.getElem?_eq_getElem hj2]
          congr 1
          exact ih j _ _ (List.getElem?_eq_getElem hj) (List.getElem?_eq_getElem hj3) (hk2 j _ _ (List.getElem?_eq_getElem hj2) (List.getElem?_eq_getElem hj3)) (c.kids _ (List.getElem_mem hj)) (c'.kids _ (List.getElem_mem hj2))
        · rw [List.getElem?_eq_none hj, List.getElem?_eq_none (by omega)]
      rw [eh, hks]

/-- a row of expressions, begun at a place -/
def KidsAt (w : World) (x : Addr × Nat) (K : List Ex) : Prop := ∃ g o c css, x.1 = ⟨g, o, none⟩ ∧ RowC w 11 (.slice (some ⟨g, o, none⟩) x.2 c) css ∧ css.length = K.length ∧ (∀ (j : Nat) (t : Ex) (d : List Value), K[j]? = some t → css[j]? = some d → ExAt w t d) ∧ ∀ k ∈ K, ExAll IsCl k
theorem KidsAt.det {w : World} {x : Addr × Nat} {K K' : List Ex} (h : KidsAt w x K) (h' : KidsAt w x K') : K = K' := by
  obtain ⟨g, o, c, css, e, hr, hl, hk, hc⟩ := h
  obtain ⟨g', o', c', css', e', hr', hl', hk', hc'⟩ := h'
  rw [e] at e'
  cases e'
  have q1 : css.length = x.2 := by obtain ⟨A, cap, q⟩ := hr.form; injection q with _ q _; exact q.symm
  have q2 : css'.length = x.2 := by obtain ⟨A, cap, q⟩ := hr'.form; injection q with _ q _; exact q.symm
  have a := ExAt.mk ⟨0, (default, 0), (default, 0), (default, 0), (default, 0), default, false⟩ K _ css hr hl hk (by simp)
  apply List.ext_getElem?
  intro j
  rcases Nat.lt_or_ge j K.length with hj | hj
  · have hj2 : j < K'.length := by omega
    have hj3 : j < css.length := by omega
    have hj4 : j < css'.length := by omega
    obtain ⟨g1, o1, a1, _, a2⟩ := hr.at (List.getElem?_eq_getElem hj3)
    obtain ⟨g2, o2, b1, _, b2⟩ := hr'.at (List.getElem?_eq_getElem hj4)
    cases a1
    cases b1
    have hcd : css[j] = css'[j] := by
      apply List.ext_getElem?
      intro i
      have l1 : css[j].length = 11 := hr.2.1 _ (List.getElem_mem hj3)
      have l2 : css'[j].length = 11 := hr'.2.1 _ (List.getElem_mem hj4)
      rcases Nat.lt_or_ge i 11 with hi | hi
      · have x1 := a2 i _ (List.getElem?_eq_getElem (l1 ▸ hi))
        have x2 := b2 i _ (List.getElem?_eq_getElem (l2 ▸ hi))
        rw [x1] at x2
        rw [List.getElem?_eq_getElem (l1 ▸ hi), List.getElem?_eq_getElem (l2 ▸ hi)]
        exact x2
      · rw [List.getElem?_eq_none (by omega), List.getElem?_eq_none (by omega)]
    rw [List.getElem?_eq_getElem hj, List.getElem?_eq_getElem hj2]
    congr 1
    have y1 := hk j _ _ (List.getElem?_eq_getElem hj) (List.getElem?_eq_getElem hj3)
    have y2 := hk' j _ _ (List.getElem?_eq_getElem hj2) (List.getElem?_eq_getElem hj4)
    rw [← hcd] at y2
    exact y1.det y2 (hc _ (List.getElem_mem hj)) (hc' _ (List.getElem_mem hj2))
  · rw [List.getElem?_eq_none hj, List.getElem?_eq_none (by omega)]
end Go.Proofs.Ytjkaeabnjkhllaa
