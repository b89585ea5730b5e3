/-
  ROWS OF ROWS that a loop's body makes longer.
-/
import Derived.Test.YtmnblcnhbafcpaaJ50
import Derived.Test.YtmnblcnhbafcpaaJ51
namespace Go.Proofs.Ytmnblcnhbafcpaa
open Go.RowKit Go.Shelf
open NetM
open VecM

theorem boolr_kc {W U : World} {v : Value} {l : List Bool} (h : BoolR W v l) (hk : Kc W U) : BoolR U v l := by
  obtain ⟨A, c, e, hc, hi⟩ := h
  refine ⟨A, c, e, hc, fun i s hs => ?_⟩
  obtain ⟨b, off, e2, hb, hv⟩ := hi i s hs
  exact ⟨b, off, e2, Nat.lt_of_lt_of_le hb hk.1, hk.2 _ _ _ hv⟩
theorem kc_own {W U : World} {row : Option Nat} (hg : W.grownBy U row) (hr : ∀ r, row = some r → ∃ o : Obj, W.heap[r]? = some o ∧ o.isCells = false) : Kc W U :=
  ⟨hg.size, fun _ _ _ hv => cell_kept hv hg hr⟩
/-- what is told of an element -/
structure Elt {α : Type} (El : World → Value → List α → Prop) : Prop where
  far : ∀ {u U : World} {y : Value} {m : List α} {row : Option Nat}, El u y m → u.grownBy U row → (m ≠ [] → ∀ b, y.ownBlock = some b → some b ≠ row) → El U y m
  lt : ∀ {u : World} {y : Value} {m : List α}, El u y m → m ≠ [] → ∀ b, y.ownBlock = some b → b < u.heap.size
  kc : ∀ {u U : World} {y : Value} {m : List α}, El u y m → Kc u U → El U y m
theorem intr_grown {u w6 : World} {row : Option Nat} {y : Value} {m : List Int} (h : IntR u y m) (hgrow : u.grownBy w6 row) (hne : m ≠ [] → ∀ b, y.ownBlock = some b → some b ≠ row) : IntR w6 y m := by
  obtain ⟨A, c, rfl, hc, hi⟩ := h
  refine ⟨A, c, rfl, hc, fun i s hs => ?_⟩
  obtain ⟨b, off, rfl, hb, hcell⟩ := hi i s hs
  have hm : m ≠ [] := fun e => by rw [e] at hs; simp at hs
  refine ⟨b, off, rfl, Nat.lt_of_lt_of_le hb hgrow.size, ?_⟩
  rw [World.cell?_of_block (a := ⟨b, off + i, none⟩) (hgrow.block b hb (hne hm b rfl))]
  exact hcell
theorem boolr_grown {u w6 : World} {row : Option Nat} {y : Value} {m : List Bool} (h : BoolR u y m) (hgrow : u.grownBy w6 row) (hne : m ≠ [] → ∀ b, y.ownBlock = some b → some b ≠ row) : BoolR w6 y m := by
  obtain ⟨A, c, rfl, hc, hi⟩ := h
  refine ⟨A, c, rfl, hc, fun i s hs => ?_⟩
  obtain ⟨b, off, rfl, hb, hcell⟩ := hi i s hs
  have hm : m ≠ [] := fun e => by rw [e] at hs; simp at hs
  refine ⟨b, off, rfl, Nat.lt_of_lt_of_le hb hgrow.size, ?_⟩
  rw [World.cell?_of_block (a := ⟨b, off + i, none⟩) (hgrow.block b hb (hne hm b rfl))]
  exact hcell
theorem elt_int : Elt IntR := ⟨intr_grown, intr_lt, intr_kc⟩
theorem elt_bool : Elt BoolR := ⟨boolr_grown, boolr_lt, boolr_kc⟩

/-- a row of rows of one's own; neither it nor its rows lie where boxes do -/
def RoV {α : Type} (El : World → Value → List α → Prop) (base : Nat) (e : TypeId) (Bad : Nat → Prop) (o : Value) (us : List Value) (ll : List (List α)) (u : World) : Prop :=
  u.ownsRow base e 1 o ll.length us ∧ us.length = ll.length ∧ (∀ g, o.ownBlock = some g → ¬ Bad g) ∧ ∀ (i : Nat) (x : Value) (l : List α), us[i]? = some x → ll[i]? = some l → El u x l ∧ x.oneCell' = true ∧ (l ≠ [] → ∀ b, x.ownBlock = some b → ¬ Bad b ∧ some b ≠ o.ownBlock)
section
variable {α : Type} {El : World → Value → List α → Prop} {base : Nat} {e : TypeId} {Bad : Nat → Prop}
theorem RoV.own {o : Value} {us : List Value} {ll : List (List α)} {u U : World} {row : Option Nat} (hE : Elt El) (h : RoV El base e Bad o us ll u) (hg : u.grownBy U row) (hr : ∀ r, row = some r → ∃ o : Obj, u.heap[r]? = some o ∧ o.isCells = false) : RoV El base e Bad o us ll U := by
  obtain ⟨h1, h2, h3, h4⟩ := h
  refine ⟨h1.kept hg ?_, h2, h3, fun i x l hx hl => ?_⟩
  · rcases h1.2 with ⟨rfl, _⟩ | ⟨g, cap, cur, rfl, _, hgb, _⟩
    · exact .inl rfl
    · refine .inr fun e' => ?_
      obtain ⟨o2, ho2, hc2⟩ := hr g (by simpa [Value.ownBlock] using e'.symm)
      rw [hgb] at ho2
      cases ho2
      cases hc2
  · obtain ⟨k1, k2, k3⟩ := h4 i x l hx hl
    exact ⟨hE.kc k1 (kc_own hg hr), k2, k3⟩
theorem RoV.gr {o : Value} {us : List Value} {ll : List (List α)} {u U : World} (hE : Elt El) (h : RoV El base e Bad o us ll u) (hg : Gr u U) : RoV El base e Bad o us ll U :=
  h.own hE (grew hg) (fun r e => by cases e)
/-- a box is written -/
theorem RoV.put {o : Value} {us : List Value} {ll : List (List α)} {u : World} {bx : Nat} (hE : Elt El) (h : RoV El base e Bad o us ll u) (hb : Bad bx) (v : Value) : RoV El base e Bad o us ll (u.setCell ⟨bx, 0, none⟩ v) := by
  obtain ⟨h1, h2, h3, h4⟩ := h
  refine ⟨h1.kept (grownBy_setCell' u bx v) (.inr fun e2 => h3 bx e2 hb), h2, h3, fun i x l hx hl => ?_⟩
  obtain ⟨k1, k2, k3⟩ := h4 i x l hx hl
  exact ⟨hE.far k1 (grownBy_setCell' u bx v) (fun hl b hb2 e2 => (k3 hl b hb2).1 (by cases e2; exact hb)), k2, k3⟩
/-- one row more -/
theorem RoV.step {o x : Value} {us : List Value} {ll : List (List α)} {l : List α} {u U : World} {g cap : Nat} (hE : Elt El) (h : RoV El base e Bad o us ll u) (hx : El u x l) (h1 : x.oneCell' = true)
    (hsep : l ≠ [] → ∀ b, x.ownBlock = some b → ¬ Bad b ∧ some b ≠ o.ownBlock) (hbad : ∀ b, Bad b → b < u.heap.size) (hgrow : u.grownBy U o.ownBlock) (hor : o.ownBlock = some g ∨ g = u.heap.size)
    (hown : U.ownsRow base e 1 (.slice (some ⟨g, 0, none⟩) (ll.length + 1) cap) (ll.length + 1) (us ++ [x])) :
    RoV El base e Bad (.slice (some ⟨g, 0, none⟩) (ll.length + 1) cap) (us ++ [x]) (ll ++ [l]) U := by
  obtain ⟨ho, hl, hb, hr⟩ := h
  have hnew : ∀ (y : Value) (m : List α), El u y m → (m ≠ [] → ∀ b, y.ownBlock = some b → ¬ Bad b ∧ some b ≠ o.ownBlock) → m ≠ [] → ∀ b, y.ownBlock = some b → ¬ Bad b ∧ some b ≠ (Value.slice (some ⟨g, 0, none⟩) (ll.length + 1) cap).ownBlock := fun y m hy hs hm b hb2 => by
    refine ⟨(hs hm b hb2).1, fun e2 => ?_⟩
    have e3 : b = g := by simpa [Value.ownBlock] using e2
    subst e3
    rcases hor with h | h
    · exact (hs hm b hb2).2 h.symm
    · have := hE.lt hy hm b hb2
      omega
  refine ⟨by rw [List.length_append]; exact hown, by simp [hl], fun g2 e2 => ?_, fun i y m hy hm => ?_⟩
  · have e3 : g2 = g := by have : g = g2 := by simpa [Value.ownBlock] using e2
                           exact this.symm
    subst e3
    rcases hor with h | h
    · exact hb _ h
    · intro hbd
      have := hbad _ hbd
      omega
  · by_cases e : i < ll.length
    · rw [List.getElem?_append_left (by omega)] at hy hm
      obtain ⟨k1, k2, k3⟩ := hr i y m hy hm
      exact ⟨hE.far k1 hgrow (fun hm b hb2 => (k3 hm b hb2).2), k2, hnew y m k1 k3⟩
    · have hi := (List.getElem?_eq_some_iff.1 hm).1
      rw [List.length_append, List.length_singleton] at hi
      obtain rfl : i = ll.length := by omega
      rw [List.getElem?_append_right (by omega), hl, Nat.sub_self] at hy
      rw [List.getElem?_append_right (by omega), Nat.sub_self] at hm
      obtain rfl : x = y := by simpa using hy
      obtain rfl : l = m := by simpa using hm
      exact ⟨hE.far hx hgrow (fun hm b hb2 => (hsep hm b hb2).2), h1, hnew x l hx hsep⟩
theorem rov_nil (El : World → Value → List α → Prop) (base : Nat) (e : TypeId) (Bad : Nat → Prop) (W : World) : RoV El base e Bad (.slice none 0 0) [] [] W := ⟨World.ownsRow_nil _ _ _ _, rfl, fun g h => by simp [Value.ownBlock] at h, fun i x l hx _ => by simp at hx⟩
end
section
variable {base : Nat} {Bad : Nat → Prop}
theorem rov_rws {o : Value} {us : List Value} {ll : List (List Int)} {u : World} (h : RoV IntR base 42 Bad o us ll u) : RwsR u o ll := by
  obtain ⟨ho, hl, -, hr⟩ := h
  have ho' := ho
  rcases ho.2 with ⟨rfl, h0⟩ | ⟨g, cap, cur, rfl, hb, hh, hn, hc, hsz, ht⟩
  · have e : ll = [] := List.eq_nil_of_length_eq_zero h0
    subst e
    exact ⟨none, 0, rfl, Nat.le_refl _, fun i l hi => by simp at hi⟩
  · refine ⟨some ⟨g, 0, none⟩, cap, rfl, hn, fun i l hi => ?_⟩
    have hil := (List.getElem?_eq_some_iff.1 hi).1
    have hui : us[i]? = some us[i] := List.getElem?_eq_getElem (by omega)
    refine ⟨g, 0, us[i], rfl, (Array.getElem?_eq_some_iff.1 hh).1, ?_, (hr i _ l hui hi).1⟩
    have := ho'.cellAt i (by omega)
    rw [Nat.zero_add, this]
    exact hui
theorem rov_bws {o : Value} {us : List Value} {ll : List (List Bool)} {u : World} (h : RoV BoolR base 44 Bad o us ll u) : BwsR u o ll := by
  obtain ⟨ho, hl, -, hr⟩ := h
  have ho' := ho
  rcases ho.2 with ⟨rfl, h0⟩ | ⟨g, cap, cur, rfl, hb, hh, hn, hc, hsz, ht⟩
  · have e : ll = [] := List.eq_nil_of_length_eq_zero h0
    subst e
    exact ⟨none, 0, rfl, Nat.le_refl _, fun i l hi => by simp at hi⟩
  · refine ⟨some ⟨g, 0, none⟩, cap, rfl, hn, fun i l hi => ?_⟩
    have hil := (List.getElem?_eq_some_iff.1 hi).1
    have hui : us[i]? = some us[i] := List.getElem?_eq_getElem (by omega)
    refine ⟨g, 0, us[i], rfl, (Array.getElem?_eq_some_iff.1 hh).1, ?_, (hr i _ l hui hi).1⟩
    have := ho'.cellAt i (by omega)
    rw [Nat.zero_add, this]
    exact hui
end
/-- what lies in boxes keeps: a net, a trace -/
theorem CycAt.own {w0 : World} {B1 B2 : Nat} {n : Nt} {A1 A2 A3 A4 A5 At : Option Addr} {c1 c2 c3 c4 c5 tl ct : Nat} {W U : World} {row : Option Nat} (h : CycAt w0 B1 B2 n A1 A2 A3 A4 A5 At c1 c2 c3 c4 c5 tl ct W) (hg : W.grownBy U row)
    (hr : ∀ r, row = some r → w0.heap.size ≤ r ∧ r ≠ B1 ∧ r ≠ B2) (hB1 : B1 < W.heap.size) (hB2 : B2 < W.heap.size) : CycAt w0 B1 B2 n A1 A2 A3 A4 A5 At c1 c2 c3 c4 c5 tl ct U := by
  obtain ⟨h0, ⟨e0, e1, e2, e3, e4⟩, f0⟩ := h
  have k1 : ∀ o, U.cell? ⟨B1, o, none⟩ = W.cell? ⟨B1, o, none⟩ := fun o => World.cell?_of_block (a := ⟨B1, o, none⟩) (hg.block B1 hB1 (fun e2 => (hr B1 e2.symm).2.1 rfl))
  have k2 : ∀ o, U.cell? ⟨B2, o, none⟩ = W.cell? ⟨B2, o, none⟩ := fun o => World.cell?_of_block (a := ⟨B2, o, none⟩) (hg.block B2 hB2 (fun e2 => (hr B2 e2.symm).2.2 rfl))
  exact ⟨h0.grown hg h0.size (fun k e2 => (hr k e2).1), ⟨by rw [k1]; exact e0, by rw [k1]; exact e1, by rw [k1]; exact e2, by rw [k1]; exact e3, by rw [k1]; exact e4⟩, by rw [k2]; exact f0⟩
theorem stepIn_append_lies {F : Fence} {rm : Nat} {P : Program} {ops : Array Oper} {o : Oper} {a : Act} {w : World} {K : Act → World → Prop} {Q : Exit → Act → World → Prop} {E : Prop} (hgd : o.guard = none) (s x : Operand) (t : TypeId)
    (ho : o.op = .call { callee := .builtin .append, args := #[s, x], argTypes := #[t, t] })
    (base : Nat) (e : TypeId) (i : TypeInfo) (z : Value) (size bytes : Nat) (ht : P.underlying t = some (.slice e)) (hi : P.info? e = some i) (hz : i.zero = some z)
    (hsize : i.size = size) (hby : i.bytes = bytes) (hzs : z.cells.size = size) (hsz : 0 < size)
    (v : Value) (n : Nat) (xs : List Value) (hs : a.eval s = v) (hown : w.ownsRow base e size v n xs)
    (ad : Addr) (m c : Nat) (news : List Value) (hx : a.eval x = .slice (some ad) m c) (hl : news.length = m * size) (hnews : ∀ j u, news[j]? = some u → w.cell? (ad.add j) = some u) (h1 : ∀ u ∈ news, u.oneCell' = true)
    (hm : 0 < m) (h63 : n + m ≤ maxLen) (hbytes : (n + m) * bytes ≤ 140737488355328) (hbase : base ≤ w.heap.size) (H : Nat) (hH : w.heap.size = H)
    (h : ∀ g cap w', w'.ownsRow base e size (.slice (some ⟨g, 0, none⟩) (n + m) cap) (n + m) (xs ++ news) → w.grownBy w' v.ownBlock → (v.ownBlock = some g ∨ g = H) → g < w'.heap.size → K (a.put o.dst (.slice (some ⟨g, 0, none⟩) (n + m) cap)) w') :
    if Region.wanted o (yielded ops a.tmps) = true then Oper.wpIn F rm P o a w K Q else E := by
  have hw : Region.wanted o (yielded ops a.tmps) = true := by simp [Region.wanted, hgd]
  rw [if_pos hw]
  obtain ⟨g, cap, w', hr, h2, h3, h4, h5⟩ := run_append_lies (P := P) w t o.type base e i z size bytes ht hi hz hsize hby hzs hsz v n xs hown ad m c news hl hnews h1 hm h63 hbytes hbase H hH
  unfold Oper.wpIn
  refine ⟨by simp [Oper.about, ho, resolve, Target.leads], ?_⟩
  rw [Oper.semAt_plain F _ _ (by rw [ho]; intro c hc'; cases hc')]
  unfold execOp
  simp only [ho, resolve, invoke, builtin, Sem.run_bind, Sem.run_pure, Result.andThen_ok, List.map_toArray, List.map_cons, List.map_nil, hs, hx, hr]
  exact h g cap w' h2 h3 h4 h5
/-- a round that appends a row to what a box holds -/
theorem row_round {α : Type} {El : World → Value → List α → Prop} {base : Nat} {e T : TypeId} {Bad : Nat → Prop} {o x : Value} {us : List Value} {ll : List (List α)} {l : List α} {W u1 w7 : World} {bx g cap : Nat} (hE : Elt El)
    (h : RoV El base e Bad o us ll W) (hbx : Boxed W bx T o) (hbb : Bad bx) (hbad : ∀ b, Bad b → b < W.heap.size) (hg1 : Gr W u1) (hx : El u1 x l) (h1 : x.oneCell' = true) (hfr : ∀ b, x.ownBlock = some b → W.heap.size ≤ b)
    (hown : w7.ownsRow base e 1 (.slice (some ⟨g, 0, none⟩) (ll.length + 1) cap) (ll.length + 1) (us ++ [x])) (hgrow : (u1.alloc (.cells #[x] e)).grownBy w7 o.ownBlock) (hor : o.ownBlock = some g ∨ g = (u1.alloc (.cells #[x] e)).heap.size) :
    Boxed w7 bx T o ∧ RoV El base e Bad (.slice (some ⟨g, 0, none⟩) (ll.length + 1) cap) (us ++ [x]) (ll ++ [l]) (w7.setCell ⟨bx, 0, none⟩ (.slice (some ⟨g, 0, none⟩) (ll.length + 1) cap)) ∧
    Boxed (w7.setCell ⟨bx, 0, none⟩ (.slice (some ⟨g, 0, none⟩) (ll.length + 1) cap)) bx T (.slice (some ⟨g, 0, none⟩) (ll.length + 1) cap) ∧
    KeepsOthers W (w7.setCell ⟨bx, 0, none⟩ (.slice (some ⟨g, 0, none⟩) (ll.length + 1) cap)) ∧
    (∀ b, b < W.heap.size → b ≠ bx → some b ≠ o.ownBlock → (w7.setCell ⟨bx, 0, none⟩ (.slice (some ⟨g, 0, none⟩) (ll.length + 1) cap)).heap[b]? = W.heap[b]?) ∧
    (∀ n₀, n₀ ≤ bx → n₀ ≤ base → Below n₀ W (w7.setCell ⟨bx, 0, none⟩ (.slice (some ⟨g, 0, none⟩) (ll.length + 1) cap))) := by
  have hne : some bx ≠ o.ownBlock := fun e2 => h.2.2.1 bx e2.symm hbb
  have hb1 : Boxed u1 bx T o := (hg1.block _ hbx.lt).trans hbx
  have hb7 : Boxed w7 bx T o := (hb1.alloc _).kept hgrow hne
  have hR1 : RoV El base e Bad o us ll (u1.alloc (.cells #[x] e)) := h.gr hE (Gr.trans hg1 (bel_alloc _ _))
  have hsz := hg1.size
  have hlt0 := h.1.lt
  have hR7 := hR1.step (l := l) (x := x) hE (hE.far hx (World.grownBy_alloc u1 _ none) (fun _ b _ e2 => by cases e2)) h1
    (fun hl b hb => ⟨fun hbd => by have := hbad b hbd; have := hfr b hb; omega, fun e2 => by have := (hlt0 b e2.symm).2; have := hfr b hb; omega⟩)
    (fun b hbd => by have := hbad b hbd; simp; omega) hgrow hor hown
  have hk7 : ∀ b, b < W.heap.size → some b ≠ o.ownBlock → w7.heap[b]? = W.heap[b]? := fun b hb hne2 => by
    rw [hgrow.block b (by simp; omega) hne2, (bel_alloc u1 (.cells #[x] e)).block b (by omega), hg1.block b hb]
  refine ⟨hb7, hR7.put hE hbb _, hb7.set _, ?_, fun b hb hb1 hb2 => ?_, fun n₀ q1 q2 => ?_⟩
  · refine ((KeepsOthers.of_grownBy (grew (Gr.trans hg1 (bel_alloc u1 (.cells #[x] e)))) (fun j o2 ej => by cases ej)).trans (KeepsOthers.of_grownBy hgrow fun j o2 ej hj => ?_)).trans (KeepsOthers.setCell _ _ _)
    rcases hR1.1.2 with ⟨rfl, _⟩ | ⟨g2, cap2, cur, rfl, _, hgb, _⟩
    · simp [Value.ownBlock] at ej
    · obtain rfl : g2 = j := by simpa [Value.ownBlock] using ej
      rw [hgb] at hj
      cases hj
      rfl
  · rw [(grownBy_setCell' w7 bx _).block b (by have := hgrow.size; simp at this; omega) (fun e2 => hb1 (by cases e2; rfl))]
    exact hk7 b hb hb2
  · refine Below.setCell (Below.grown (((hg1.mono (by have := hbx.lt; omega)).alloc (by have := hbx.lt; omega) _)) hgrow (by have := hbx.lt; simp; omega) (fun k e2 => by have := (hlt0 k e2).1; omega)) (p := ⟨bx, 0, none⟩) q1 _
end Go.Proofs.Ytmnblcnhbafcpaa
