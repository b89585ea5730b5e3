/-
  THE SAME EXPRESSIONS ARE TOLD ALIKE: SameExpr, walked where both are one.
-/
import Derived.Test.YtccjbpghpoblhaaDoorK29
namespace Go.Proofs.YtccjbpghpoblhaaDoor
open Go.RowKit

def Ex.hd : Ex → Hd
  | .n0 h => h
  | .n1 h _ => h
  | .n2 h _ _ => h
  | .n3 h _ _ _ => h
def Ex.kids : Ex → List Ex
  | .n0 _ => []
  | .n1 _ a => [a]
  | .n2 _ a b => [a, b]
  | .n3 _ a b c => [a, b, c]
theorem kids_le (t : Ex) : t.kids.length ≤ 3 := by cases t <;> simp [Ex.kids]

theorem ExAt.parts {w : World} {F : Nat → Prop} {t : Ex} {cs : List Value} (h : ExAt w F t cs) : ∃ (A : Option Addr) (cp : Nat) (css : List (List Value)), cs = hdCells t.hd (.slice A t.kids.length cp) ∧ RowAt w F 57 11 (.slice A t.kids.length cp) t.kids.length css.flatten ∧ css.length = t.kids.length ∧ ∀ (j : Nat) (k : Ex), t.kids[j]? = some k → ∃ c, css[j]? = some c ∧ ExAt w F k c := by
  cases t with
  | n0 hd => exact ⟨none, 0, [], h, ⟨World.ownsRow_nil _ _ _ _, fun g h => by cases h⟩, rfl, fun j k hj => by simp [Ex.kids] at hj⟩
  | n1 hd a =>
    obtain ⟨v, ca, e, h1, h2⟩ := h
    obtain ⟨A, c, rfl⟩ := own_form h1.1
    refine ⟨A, c, [ca], e, by simpa [Ex.kids] using (show RowAt w F 57 11 _ 1 ca from h1), rfl, fun j k hj => ?_⟩
    match j, hj with
    | 0, hj => simp [Ex.kids] at hj; subst hj; exact ⟨ca, rfl, h2⟩
    | j + 1, hj => simp [Ex.kids] at hj
  | n2 hd a b =>
    obtain ⟨v, ca, cb, e, h1, h2, h3⟩ := h
    obtain ⟨A, c, rfl⟩ := own_form h1.1
    refine ⟨A, c, [ca, cb], e, by simpa [Ex.kids] using (show RowAt w F 57 11 _ 2 (ca ++ cb) from h1), rfl, fun j k hj => ?_⟩
    match j, hj with
    | 0, hj => simp [Ex.kids] at hj; subst hj; exact ⟨ca, rfl, h2⟩
    | 1, hj => simp [Ex.kids] at hj; subst hj; exact ⟨cb, rfl, h3⟩
    | j + 2, hj => simp [Ex.kids] at hj
  | n3 hd a b c =>
    obtain ⟨v, ca, cb, cc, e, h1, h2, h3, h4⟩ := h
    obtain ⟨A, c', rfl⟩ := own_form h1.1
    refine ⟨A, c', [ca, cb, cc], e, by simpa [Ex.kids] using (show RowAt w F 57 11 _ 3 (ca ++ cb ++ cc) from h1), rfl, fun j k hj => ?_⟩
    match j, hj with
    | 0, hj => simp [Ex.kids] at hj; subst hj; exact ⟨ca, rfl, h2⟩
    | 1, hj => simp [Ex.kids] at hj; subst hj; exact ⟨cb, rfl, h3⟩
    | 2, hj => simp [Ex.kids] at hj; subst hj; exact ⟨cc, rfl, h4⟩
    | j + 3, hj => simp [Ex.kids] at hj

theorem flatten_get {β : Type} (s : Nat) : ∀ (l : List (List β)) (i j : Nat) (a : List β), (∀ a ∈ l, a.length = s) → l[i]? = some a → j < s → l.flatten[i * s + j]? = a[j]?
  | [], i, j, a, _, h, _ => by simp at h
  | x :: r, 0, j, a, hs, h, hj => by
    obtain rfl : x = a := by simpa using h
    rw [List.flatten_cons, Nat.zero_mul, Nat.zero_add, List.getElem?_append_left (by rw [hs x (by simp)]; exact hj)]
  | x :: r, i + 1, j, a, hs, h, hj => by
    have ih := flatten_get s r i j a (fun b hb => hs b (by simp [hb])) (by simpa using h) hj
    have hx := hs x (by simp)
    rw [List.flatten_cons, List.getElem?_append_right (by rw [hx, Nat.succ_mul]; omega), hx]
    rw [show (i + 1) * s + j - s = i * s + j by rw [Nat.succ_mul]; omega]
    exact ih

/-- the cells of one part of a row -/
theorem row_range {w : World} {F : Nat → Prop} {e : TypeId} {size n : Nat} {v : Value} {css : List (List Value)} (h : RowAt w F e size v n css.flatten) (hn : css.length = n) (hl : ∀ c ∈ css, c.length = size) {j : Nat} {c : List Value} (hj : css[j]? = some c) :
    ∃ g cap, v = .slice (some ⟨g, 0, none⟩) n cap ∧ F g ∧ g < w.heap.size ∧ w.rangeAt g (j * size) c := by
  have hjl : j < css.length := (List.getElem?_eq_some_iff.1 hj).1
  rcases h.1.2 with ⟨_, h1⟩ | ⟨g, cap, cur, hv, hb, hh, _, _, _, ht⟩
  · omega
  · refine ⟨g, cap, hv, h.2 g (by rw [hv]; rfl), heap_lt hh, fun i u hu => ?_⟩
    have hil : i < size := by rw [← hl c (List.mem_of_getElem? hj)]; exact (List.getElem?_eq_some_iff.1 hu).1
    rw [cell_at hh]
    have h2 := flatten_get size css j i c hl hj hil
    have hlt : j * size + i < n * size := by
      have : (j + 1) * size ≤ n * size := Nat.mul_le_mul_right _ (by omega)
      rw [Nat.succ_mul] at this
      omega
    rw [← hu, ← h2, ← ht, List.getElem?_take, if_pos hlt]
    simp

theorem css_len {α : Type} {Q : α → List Value → Prop} {l : List α} {css : List (List Value)} {s : Nat} (hl : css.length = l.length) (hQ : ∀ (j : Nat) (k : α), l[j]? = some k → ∃ c, css[j]? = some c ∧ Q k c) (hs : ∀ k c, Q k c → c.length = s) : ∀ c ∈ css, c.length = s := fun c hm => by
  obtain ⟨j, hj⟩ := List.getElem?_of_mem hm
  have hjl : j < l.length := by rw [← hl]; exact (List.getElem?_eq_some_iff.1 hj).1
  obtain ⟨c2, e2, x2⟩ := hQ j (l[j]'hjl) (List.getElem?_eq_getElem hjl)
  rw [hj] at e2
  obtain rfl := Option.some.inj e2
  exact hs _ _ x2

theorem Gr.refl (w : World) : Gr w w := ⟨rfl, rfl, rfl, Nat.le_refl _, fun _ _ _ => rfl⟩
theorem Gr.trans {w w1 w2 : World} (h : Gr w w1) (k : Gr w1 w2) : Gr w w2 :=
  ⟨k.os.trans h.os, k.tape.trans h.tape, k.output.trans h.output, Nat.le_trans h.size k.size, fun i hi hb => (k.block i (Nat.lt_of_lt_of_le hi h.size) hb).trans (h.block i hi hb)⟩
theorem Gr.alloc (w : World) (o : Obj) : Gr w (w.alloc o) := ⟨rfl, rfl, rfl, by simp, fun k hk _ => Below.heap_alloc _ _ _ hk⟩
theorem Gr.drewN (w : World) (n : Nat) : Gr w (w.drewN n) := ⟨rfl, rfl, rfl, Nat.le_refl _, fun _ _ _ => rfl⟩
theorem Gr.drew (w : World) : Gr w w.drew := ⟨rfl, rfl, rfl, Nat.le_refl _, fun _ _ _ => rfl⟩
theorem ExAt.gr {w w' : World} {F : Nat → Prop} {t : Ex} {cs : List Value} (h : ExAt w F t cs) (hg : Gr w w') : ExAt w' F t cs := ExAt.keep (fun _ h => h) (fun _ _ _ ho => (hg.block _ (heap_lt ho) (by simp)).trans ho) t cs h
theorem range_gr {w w' : World} {b o : Nat} {c : List Value} (h : w.rangeAt b o c) (hb : b < w.heap.size) (hg : Gr w w') : w'.rangeAt b o c := fun i u hu => (World.cell?_of_block (a := ⟨b, o + i, none⟩) (hg.block b hb (by simp))).trans (h i u hu)

def SameOk (t : Ex) : Prop := ∀ (cs cs' : List Value) (F F' : Nat → Prop) (w : World), Hid (ExAt w F t cs) → Hid (ExAt w F' t cs') → Calls Tryd.prog 34 #[.agg cs.toArray, .agg cs'.toArray] w fun e w' => e = .returned (.bool true) ∧ Gr w w'

/-- the eleven cells of an expression -/
abbrev Ex11 (w : World) (g o : Nat) (hd : Hd) (v : Value) : Prop :=
  w.cell? ⟨g, o, none⟩ = some (.int .i64 (hd.op : Nat)) ∧ w.cell? ⟨g, o + 1, none⟩ = some (.string (str hd.val.1)) ∧ w.cell? ⟨g, o + 2, none⟩ = some (.int .i64 (hd.val.2 : Nat)) ∧ w.cell? ⟨g, o + 3, none⟩ = some (.string (str hd.wid.1)) ∧ w.cell? ⟨g, o + 4, none⟩ = some (.int .i64 (hd.wid.2 : Nat)) ∧ w.cell? ⟨g, o + 5, none⟩ = some (.string (str hd.hi.1)) ∧ w.cell? ⟨g, o + 6, none⟩ = some (.int .i64 (hd.hi.2 : Nat)) ∧ w.cell? ⟨g, o + 7, none⟩ = some (.string (str hd.lo.1)) ∧ w.cell? ⟨g, o + 8, none⟩ = some (.int .i64 (hd.lo.2 : Nat)) ∧ w.cell? ⟨g, o + 9, none⟩ = some (.string (str hd.name)) ∧ w.cell? ⟨g, o + 10, none⟩ = some v
theorem ex11 {w : World} {g o : Nat} {hd : Hd} {v : Value} (h : w.rangeAt g o (hdCells hd v)) : Ex11 w g o hd v :=
  ⟨h 0 _ rfl, h 1 _ rfl, h 2 _ rfl, h 3 _ rfl, h 4 _ rfl, h 5 _ rfl, h 6 _ rfl, h 7 _ rfl, h 8 _ rfl, h 9 _ rfl, h 10 _ rfl⟩

set_option maxRecDepth 100000 in
set_option maxHeartbeats 4000000 in
theorem same_step (t : Ex) (IH : ∀ k ∈ t.kids, SameOk k) : SameOk t := by
  intro cs cs' F F' w h h'
  obtain ⟨A, cp, css, rfl, hrow, hcl, hk⟩ := h.out.parts
  obtain ⟨A', cp', css', rfl, hrow', hcl', hk'⟩ := h'.out.parts
  have HA := Lib.hid (And.intro hrow (And.intro hcl hk))
  have HB := Lib.hid (And.intro hrow' (And.intro hcl' hk'))
  have HIH := Lib.hid IH
  clear hrow hcl hk hrow' hcl' hk' IH h h'
  have hn3 := kids_le t
  obtain ⟨n, hn⟩ : ∃ n, n = t.kids.length := ⟨_, rfl⟩
  rw [← hn] at hn3 HA HB ⊢
  have HN := Lib.hid hn
  clear hn
  obtain ⟨hd, hhd⟩ : ∃ hd, hd = t.hd := ⟨_, rfl⟩
  rw [← hhd]
  clear hhd
  go_enter Tryd.func34, Tryd.ntmps34
  unfold hdCells
  go_wp2_with fail
  obtain ⟨W, eW, GW, CA, CB⟩ : ∃ W, (w.alloc (.cells (hdCells hd (.slice A n cp)).toArray 57)).alloc (.cells (hdCells hd (.slice A' n cp')).toArray 57) = W ∧ Hid (Gr w W) ∧ Hid (W.heap[w.heap.size]? = some (.cells (hdCells hd (.slice A n cp)).toArray 57 (0, 0))) ∧ Hid (W.heap[w.heap.size + 1]? = some (.cells (hdCells hd (.slice A' n cp')).toArray 57 (0, 0))) := by
    refine ⟨_, rfl, Lib.hid ((Gr.alloc _ _).trans (Gr.alloc _ _)), Lib.hid ((Below.heap_alloc _ _ _ (by simp)).trans (new_at w _)), Lib.hid ?_⟩
    have := new_at (w.alloc (.cells (hdCells hd (.slice A n cp)).toArray 57)) (.cells (hdCells hd (.slice A' n cp')).toArray 57)
    simpa using this
  go_loopg [5] n (fun g x wr => ∃ i : Nat, i + g = n ∧ x = .int .i64 (i : Nat) ∧ Hid (Gr W wr))
  case atStart => exact ⟨0, by omega, rfl, Lib.hid (by rw [← eW]; exact Gr.refl _)⟩
  case round =>
    obtain ⟨i, hi, rfl, GR⟩ := hrel
    have HI := Lib.hid hi
    clear hi eW
    have KA := Lib.hid ((GR.out.block _ (heap_lt CA.out) (by simp)).trans CA.out)
    have KB := Lib.hid ((GR.out.block _ (heap_lt CB.out) (by simp)).trans CB.out)
    have a10 : wr.cell? ⟨w.heap.size, 10, none⟩ = some (.slice A n cp) := by rw [cell_at KA.out]; rfl
    have b10 : wr.cell? ⟨w.heap.size + 1, 10, none⟩ = some (.slice A' n cp') := by rw [cell_at KB.out]; rfl
    by_cases hlt : i < n
    · have hd1 : ((i : Int) < (n : Int)) := by omega
      have hd0 : (0 : Int) ≤ (i : Int) := by omega
      obtain ⟨k, hk⟩ : ∃ k, t.kids[i]? = some k := ⟨_, List.getElem?_eq_getElem (by rw [← HN.out]; exact hlt)⟩
      obtain ⟨c, hc, hx⟩ := HA.out.2.2 i k hk
      obtain ⟨c', hc', hx'⟩ := HB.out.2.2 i k hk
      have len11 : ∀ c ∈ css, c.length = 11 := css_len (HA.out.2.1.trans HN.out) HA.out.2.2 (fun _ _ h => h.len)
      have len11' : ∀ c ∈ css', c.length = 11 := css_len (HB.out.2.1.trans HN.out) HB.out.2.2 (fun _ _ h => h.len)
      obtain ⟨g, cap, hv, _, hgl, hr⟩ := row_range HA.out.1 HA.out.2.1 len11 hc
      obtain ⟨g', cap', hv', _, hgl', hr'⟩ := row_range HB.out.1 HB.out.2.1 len11' hc'
      obtain ⟨hk1, A1, m1, p1, rfl⟩ := hx.cells
      obtain ⟨hk2, A2, m2, p2, rfl⟩ := hx'.cells
      injection hv with hv1 _ hv3
      injection hv' with hv1' _ hv3'
      subst hv1 hv3 hv1' hv3'
      have GG := GW.out.trans GR.out
      have SAME := Lib.hid (fun (u : World) (hu : Gr wr u) => HIH.out k (List.mem_of_getElem? hk) _ _ F F' u (Lib.hid (hx.gr (GG.trans hu))) (Lib.hid (hx'.gr (GG.trans hu))))
      have KEEP := Lib.hid (show ∀ u, Gr wr u → (u.cell? ⟨w.heap.size, 10, none⟩ = some (.slice (some ⟨g, 0, none⟩) n cp) ∧ u.cell? ⟨w.heap.size + 1, 10, none⟩ = some (.slice (some ⟨g', 0, none⟩) n cp') ∧ Ex11 u g (i * 11) hk1 (.slice A1 m1 p1) ∧ Ex11 u g' (i * 11) hk2 (.slice A2 m2 p2)) from fun u hu =>
        ⟨(World.cell?_of_block (a := ⟨w.heap.size, 10, none⟩) (hu.block _ (heap_lt KA.out) (by simp))).trans a10, (World.cell?_of_block (a := ⟨w.heap.size + 1, 10, none⟩) (hu.block _ (heap_lt KB.out) (by simp))).trans b10, ex11 (range_gr hr hgl (GG.trans hu)), ex11 (range_gr hr' hgl' (GG.trans hu))⟩)
      clear hx hx' hr hr' hc hc' GG hk len11 len11'
      go_wp2_with fail
      go_region_held3 (fun u => u.cell? ⟨w.heap.size, 10, none⟩ = some (.slice (some ⟨g, 0, none⟩) n cp) ∧ u.cell? ⟨w.heap.size + 1, 10, none⟩ = some (.slice (some ⟨g', 0, none⟩) n cp') ∧ Ex11 u g (i * 11) hk1 (.slice A1 m1 p1) ∧ Ex11 u g' (i * 11) hk2 (.slice A2 m2 p2))
        (first | exact KEEP.out _ (Gr.drew _) | exact KEEP.out _ (by assumption))
        (first | (go_at_call 34; refine (SAME.out _ (Gr.drew _)).mono ?_; rintro e u ⟨rfl, hu0⟩; have hu : Gr wr u := (Gr.drew _).trans hu0; have HU := Lib.hid hu))
      go_wp2_with fail
      go_roundg (gk - 1)
      case measure => have := HI.out; omega
      case rel => exact ⟨i + 1, by have := HI.out; omega, by go_num, Lib.hid (GR.out.trans HU.out)⟩
    · have hd1 : ¬ ((i : Int) < (n : Int)) := by omega
      go_wp2_with fail
      go_ret
      exact ⟨rfl, GW.out.trans GR.out⟩

theorem SameExpr_yes (t : Ex) : SameOk t := by
  induction t with
  | n0 h => exact same_step _ (fun k hk => by simp [Ex.kids] at hk)
  | n1 h a ih => exact same_step _ (fun k hk => by simp [Ex.kids] at hk; subst hk; exact ih)
  | n2 h a b iha ihb => exact same_step _ (fun k hk => by simp [Ex.kids] at hk; rcases hk with rfl | rfl <;> assumption)
  | n3 h a b c iha ihb ihc => exact same_step _ (fun k hk => by simp [Ex.kids] at hk; rcases hk with rfl | rfl | rfl <;> assumption)

end Go.Proofs.YtccjbpghpoblhaaDoor

