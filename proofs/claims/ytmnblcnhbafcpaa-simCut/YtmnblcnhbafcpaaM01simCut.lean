/-
  BEGINNINGS OF ROWS, AND WHERE A PROPERTY OF THE NET IS HIT.
-/
import Derived.Test.YtmnblcnhbafcpaaJ57
import Derived.Test.YtmnblcnhbafcpaaJ47
import Derived.Test.YtmnblcnhbafcpaaJ36
import Derived.Test.YtmnblcnhbafcpaaJ33
import Derived.Test.YtmnblcnhbafcpaaJ37
namespace Go.Proofs.Ytmnblcnhbafcpaa
open Go.RowKit
open NetM
open VecM

theorem cell_lt {w : World} {b o : Nat} {v : Value} (h : w.cell? ⟨b, o, none⟩ = some v) : b < w.heap.size := by
  apply Classical.byContradiction
  intro hb
  have e : w.heap[b]? = none := Array.getElem?_eq_none (by omega)
  simp [World.cell?, e] at h
theorem rws_take {w : World} {A : Option Addr} {L c k : Nat} {ll : List (List Int)} (h : RwsR w (.slice A L c) ll) (hk : k ≤ ll.length) : RwsR w (.slice A k c) (ll.take k) := by
  obtain ⟨A', c', e, hc, hi⟩ := h
  simp only [Value.slice.injEq] at e
  obtain ⟨rfl, -, rfl⟩ := e
  have hl : (ll.take k).length = k := by rw [List.length_take]; omega
  refine ⟨A, c, by rw [hl], by rw [hl]; omega, fun i l h1 => hi i l ?_⟩
  have hik : i < k := by
    have := (List.getElem?_eq_some_iff.1 h1).1
    omega
  rwa [List.getElem?_take_of_lt hik] at h1
theorem bws_take {w : World} {A : Option Addr} {L c k : Nat} {ll : List (List Bool)} (h : BwsR w (.slice A L c) ll) (hk : k ≤ ll.length) : BwsR w (.slice A k c) (ll.take k) := by
  obtain ⟨A', c', e, hc, hi⟩ := h
  simp only [Value.slice.injEq] at e
  obtain ⟨rfl, -, rfl⟩ := e
  have hl : (ll.take k).length = k := by rw [List.length_take]; omega
  refine ⟨A, c, by rw [hl], by rw [hl]; omega, fun i l h1 => hi i l ?_⟩
  have hik : i < k := by
    have := (List.getElem?_eq_some_iff.1 h1).1
    omega
  rwa [List.getElem?_take_of_lt hik] at h1
theorem trOk_take {n : Nt} {t : List (List Nat)} (h : TrOk n t) (k : Nat) : TrOk n (t.take k) := fun r hr => h r (List.mem_of_mem_take hr)
theorem hitOf_at {n : Nt} {t : List (List Nat)} {q : Nat} {p : Pr} (hp : n.props[q]? = some p) : hitOf n t (q : Nat) = hitF n t p q 0 t.length := by
  unfold hitOf
  rw [if_neg (by omega)]
  simp [hp]
end Go.Proofs.Ytmnblcnhbafcpaa

/-
  ROWS OF ROWS, COPIED, WALKED.
-/
namespace Go.Proofs.Ytmnblcnhbafcpaa
open Go.RowKit
open NetM

theorem add_at (b off j : Nat) : (⟨b, off, none⟩ : Addr).add j = ⟨b, off + j, none⟩ := by
  by_cases hq : j = 0
  · subst hq; rfl
  · simp [Addr.add, hq]
/-- the values of rows -/
theorem rws_vals {w : World} {A : Option Addr} {ll : List (List Int)} (h : RwsP w A ll) : ∃ us : List Value, us.length = ll.length ∧ (∀ ad, A = some ad → ∀ j u, us[j]? = some u → w.cell? (ad.add j) = some u) ∧ ∀ (i : Nat) (x : Value) (l : List Int), us[i]? = some x → ll[i]? = some l → IntR w x l := by
  refine ⟨(List.range ll.length).map fun i => (A.bind fun a => w.cell? (a.add i)).getD (.bool false), by simp, fun ad hA j u hu => ?_, fun i x l hx hl => ?_⟩
  · have hj := (List.getElem?_eq_some_iff.1 hu).1
    simp only [List.length_map, List.length_range] at hj
    obtain ⟨b, off, x, e, -, hc, -⟩ := h j _ (List.getElem?_eq_getElem hj)
    rw [List.getElem?_map, List.getElem?_range hj] at hu
    subst e
    obtain rfl := Option.some.inj hA
    rw [add_at]
    simp only [Option.map_some, Option.bind_some, add_at, hc, Option.getD_some, Option.some.injEq] at hu
    rw [hc, hu]
  · have hj := (List.getElem?_eq_some_iff.1 hl).1
    obtain ⟨b, off, y, e, -, hc, hr⟩ := h i l hl
    rw [List.getElem?_map, List.getElem?_range hj] at hx
    subst e
    simp only [Option.map_some, Option.bind_some, add_at, hc, Option.getD_some, Option.some.injEq] at hx
    rw [← hx]
    exact hr
theorem intr_cell {u : World} {x : Value} {l : List Int} (h : IntR u x l) : x.oneCell' = true := by
  obtain ⟨A, c, rfl, -⟩ := h
  rfl
/-- rows more -/
theorem rws_more {W u w6 : World} {v v' : Value} {ll mm : List (List Int)} {us xs : List Value} (h : RwsU W v us ll u) (hxl : xs.length = mm.length)
    (hx : ∀ (i : Nat) (y : Value) (l : List Int), xs[i]? = some y → mm[i]? = some l → IntR u y l ∧ (l ≠ [] → ∀ b, y.ownBlock = some b → some b ≠ v.ownBlock)) (hgrow : u.grownBy w6 v.ownBlock) (hor : v'.ownBlock = v.ownBlock ∨ v'.ownBlock = some u.heap.size)
    (hown : w6.ownsRow W.heap.size 42 1 v' (ll.length + mm.length) (us ++ xs)) : RwsU W v' (us ++ xs) (ll ++ mm) w6 := by
  obtain ⟨h0, ho, hl, hr⟩ := h
  have hnew : ∀ (y : Value) (m : List Int), IntR u y m → (m ≠ [] → ∀ b, y.ownBlock = some b → some b ≠ v.ownBlock) → m ≠ [] → ∀ b, y.ownBlock = some b → some b ≠ v'.ownBlock := fun y m hy hs hm b hb e => by
    rcases hor with h | h
    · exact hs hm b hb (e.trans h)
    · rw [h] at e
      have := intr_lt hy hm b hb
      have := Option.some.inj e
      omega
  refine ⟨Below.grown h0 hgrow h0.size (fun k hk => (ho.lt k hk).1), by rw [List.length_append]; exact hown, by simp [hl, hxl], fun i y m hy hm => ?_⟩
  by_cases e : i < ll.length
  · rw [List.getElem?_append_left (by omega)] at hy hm
    obtain ⟨k1, k2, k3⟩ := hr i y m hy hm
    exact ⟨intr_far k1 hgrow k3, k2, hnew y m k1 k3⟩
  · rw [List.getElem?_append_right (by omega), hl] at hy
    rw [List.getElem?_append_right (by omega)] at hm
    obtain ⟨k1, k3⟩ := hx _ y m hy hm
    exact ⟨intr_far k1 hgrow k3, intr_cell k1, hnew y m k1 k3⟩
/-- rows in cells; they lie in blocks from B on and ahead of T -/
def Rc (u : World) (B T : Nat) (A : Option Addr) (us : List Value) (ll : List (List Int)) : Prop :=
  us.length = ll.length ∧ (ll ≠ [] → ∃ b off, A = some ⟨b, off, none⟩ ∧ B ≤ b ∧ b < T ∧ b < u.heap.size ∧ ∀ (j : Nat) (y : Value), us[j]? = some y → u.cell? ⟨b, off + j, none⟩ = some y) ∧
  ∀ (i : Nat) (y : Value) (l : List Int), us[i]? = some y → ll[i]? = some l → IntR u y l ∧ (l ≠ [] → ∀ b, y.ownBlock = some b → B ≤ b ∧ b < T)
theorem Rc.gr {u u' : World} {B T : Nat} {A : Option Addr} {us : List Value} {ll : List (List Int)} (h : Rc u B T A us ll) (hu : Gr u u') : Rc u' B T A us ll := by
  refine ⟨h.1, fun h0 => ?_, fun i y l h1 h2 => ⟨(h.2.2 i y l h1 h2).1.gr hu, (h.2.2 i y l h1 h2).2⟩⟩
  obtain ⟨b, off, e, k1, k2, k3, k4⟩ := h.2.1 h0
  exact ⟨b, off, e, k1, k2, Nat.lt_of_lt_of_le k3 hu.size, fun j y hj => cell_up hu k3 (k4 j y hj)⟩
theorem Rc.far {u u' : World} {B T : Nat} {A : Option Addr} {us : List Value} {ll : List (List Int)} {row : Option Nat} (h : Rc u B T A us ll) (hu : u.grownBy u' row) (hr : ∀ g, row = some g → g < B ∨ T ≤ g) : Rc u' B T A us ll := by
  refine ⟨h.1, fun h0 => ?_, fun i y l h1 h2 => ?_⟩
  · obtain ⟨b, off, e, k1, k2, k3, k4⟩ := h.2.1 h0
    refine ⟨b, off, e, k1, k2, Nat.lt_of_lt_of_le k3 hu.size, fun j y hj => ?_⟩
    rw [World.cell?_of_block (a := ⟨b, off + j, none⟩) (hu.block b k3 (fun e2 => by have := hr b e2.symm; omega))]
    exact k4 j y hj
  · obtain ⟨k1, k2⟩ := h.2.2 i y l h1 h2
    obtain ⟨A', c, rfl, hc, hi⟩ := k1
    refine ⟨⟨A', c, rfl, hc, fun j s hs => ?_⟩, k2⟩
    obtain ⟨b, off, rfl, hb, hcell⟩ := hi j s hs
    have hm : l ≠ [] := fun e => by rw [e] at hs; simp at hs
    have k3 := k2 hm b rfl
    refine ⟨b, off, rfl, Nat.lt_of_lt_of_le hb hu.size, ?_⟩
    rw [World.cell?_of_block (a := ⟨b, off + j, none⟩) (hu.block b hb (fun e2 => by have := hr b e2.symm; omega))]
    exact hcell
theorem rc_rws {w : World} {A : Option Addr} {ll : List (List Int)} (h : RwsP w A ll) : ∃ us : List Value, Rc w 0 w.heap.size A us ll := by
  obtain ⟨us, h1, h2, h3⟩ := rws_vals h
  refine ⟨us, h1, fun h0 => ?_, fun i y l hi hl => ⟨h3 i y l hi hl, fun hn b hb => ⟨Nat.zero_le _, intr_lt (h3 i y l hi hl) hn b hb⟩⟩⟩
  obtain ⟨b, off, x, e, hb, -⟩ := h 0 (ll.head h0) (by cases ll with | nil => exact absurd rfl h0 | cons x r => rfl)
  refine ⟨b, off, e, Nat.zero_le _, hb, hb, fun j y hj => ?_⟩
  have := h2 _ e j y hj
  rwa [add_at] at this
theorem rc_own {W1 z : World} {B : Nat} {v : Value} {us : List Value} {ll : List (List Int)} (h : RwsU W1 v us ll z) (hB : B ≤ W1.heap.size) (hf : ∀ x ∈ us, ∀ b, x.ownBlock = some b → B ≤ b) : ∃ A c, v = .slice A ll.length c ∧ Rc z B z.heap.size A us ll := by
  have hr := h.2.2.2
  rcases h.2.1.2 with ⟨rfl, h0⟩ | ⟨g, cap, cur, rfl, hb, hh, hn, hc, hsz, ht⟩
  · have e : ll = [] := List.eq_nil_of_length_eq_zero h0
    subst e
    exact ⟨none, 0, rfl, h.2.2.1, fun h => absurd rfl h, fun i y l _ hl => by simp at hl⟩
  · refine ⟨some ⟨g, 0, none⟩, cap, rfl, h.2.2.1, fun _ => ⟨g, 0, rfl, by omega, (Array.getElem?_eq_some_iff.1 hh).1, (Array.getElem?_eq_some_iff.1 hh).1, fun j y hj => ?_⟩, fun i y l hi hl => ⟨(hr i y l hi hl).1, fun hn b hb => ⟨hf y (List.mem_of_getElem? hi) b hb, intr_lt (hr i y l hi hl).1 hn b hb⟩⟩⟩
    have hjl := (List.getElem?_eq_some_iff.1 hj).1
    have := h.2.1.cellAt j (by have := h.2.2.1; omega)
    rw [Nat.zero_add, this]
    exact hj
theorem rws_empty (W : World) : RwsU W (.slice (some ⟨W.heap.size, 0, none⟩) 0 0) [] [] (W.alloc (.cells #[] 42)) := ⟨bel_alloc _ _, own_empty W 42 1 W.heap.size (Nat.le_refl _), rfl, fun i x l hx _ => by simp at hx⟩
/-- a row that is nil adds nothing -/
theorem run_nil_rows {w : World} {base n : Nat} {v : Value} {xs : List Value} {i0 : TypeInfo} (ty : TypeId) (hi : Try.prog.info? 42 = some i0) (hown : w.ownsRow base 42 1 v n xs) (c : Nat) :
    (Builtin.append_ #[28, 28] ty #[v, .slice none 0 c]).run Try.prog w = .ok v w := by
  rcases hown.2 with ⟨rfl, rfl⟩ | ⟨g, cap, cur, rfl, _, _, hnc, _⟩
  · simp [Builtin.append_, run_underlying Try.underlying28, sizeOf, typeInfo, hi, Builtin.lenOf, Builtin.firstCells]
  · simp [Builtin.append_, run_underlying Try.underlying28, sizeOf, typeInfo, hi, Builtin.lenOf, Builtin.firstCells, hnc, storeCells]
theorem wp_app_rws {o : Oper} {a : Act} {K : Act → World → Prop} {Q : Exit → Act → World → Prop} (s x : Operand) (ho : o.op = .call { callee := .builtin .append, args := #[s, x], argTypes := #[28, 28] }) {i4 : TypeInfo}
    (hi : Try.prog.info? 42 = some i4) (hz : i4.zero = some (.slice none 0 0)) (hsz : i4.size = 1) (hby : i4.bytes = 24) (W u : World) (v : Value) (us : List Value) (ll : List (List Int)) (hs : a.eval s = v) (hU : RwsU W v us ll u)
    (A : Option Addr) (m c : Nat) (hx : a.eval x = .slice A m c) (xs : List Value) (mm : List (List Int)) (hml : mm.length = m) (B T : Nat) (hC : Rc u B T A xs mm) (hsep : ∀ g, v.ownBlock = some g → g < B ∨ T ≤ g) (h63 : ll.length + m ≤ 4000)
    (h : ∀ v' w', RwsU W v' (us ++ xs) (ll ++ mm) w' → u.grownBy w' v.ownBlock → (v'.ownBlock = v.ownBlock ∨ v'.ownBlock = some u.heap.size) → K (a.put o.dst v') w') : o.wp Try.prog a u K Q := by
  have hown := hU.2.1
  have hxl : xs.length = m := by rw [hC.1, hml]
  have hrow : ∀ (i : Nat) (y : Value) (l : List Int), xs[i]? = some y → mm[i]? = some l → IntR u y l ∧ (l ≠ [] → ∀ b, y.ownBlock = some b → some b ≠ v.ownBlock) := fun i y l h1 h2 => by
    obtain ⟨k1, k2⟩ := hC.2.2 i y l h1 h2
    refine ⟨k1, fun hl b hb e => ?_⟩
    have k3 := k2 hl b hb
    have := hsep b e.symm
    omega
  have hcell : ∀ ad, A = some ad → ∀ (j : Nat) (y : Value), xs[j]? = some y → u.cell? (ad.add j) = some y := fun ad hA j y hj => by
    have hjl := (List.getElem?_eq_some_iff.1 hj).1
    obtain ⟨b, off, e, -, -, -, h1⟩ := hC.2.1 (fun h0 => by rw [h0] at hml; simp at hml; omega)
    rw [hA] at e
    obtain rfl := Option.some.inj e
    rw [add_at]
    exact h1 j y hj
  have hAn : A = none → m = 0 := fun hA => by
    rcases Nat.eq_zero_or_pos m with h0 | h0
    · exact h0
    · obtain ⟨b, off, e, -⟩ := hC.2.1 (fun h1 => by rw [h1] at hml; simp at hml; omega)
      rw [hA] at e
      simp at e
  clear hC hsep
  rcases A with _ | ad
  · obtain rfl := hAn rfl
    have e1 := List.eq_nil_of_length_eq_zero hml
    have e2 := List.eq_nil_of_length_eq_zero hxl
    subst e1 e2
    have hrun := run_nil_rows o.type hi hown c
    unfold Oper.wp
    simp [execOp, ho, resolve, invoke, builtin, hs, hx, hrun, Result.andThen]
    exact h v u (by simpa using hU) ⟨rfl, rfl, rfl, Nat.le_refl _, fun _ _ _ => rfl⟩ (.inl rfl)
  · obtain ⟨v', w', hr, h2, h3, _, h5⟩ := run_append_own_at (P := Try.prog) u W.heap.size 28 o.type 42 i4 (.slice none 0 0) 1 24 Try.underlying28 hi hz hsz hby rfl (by decide) v ll.length us hown ad m c xs (by omega) (hcell ad rfl)
      (fun y hy => by obtain ⟨j, hj⟩ := List.mem_iff_getElem?.1 hy; have hjl := (List.getElem?_eq_some_iff.1 hj).1; exact intr_cell (hrow j y _ hj (List.getElem?_eq_getElem (by omega))).1) (by unfold maxLen; omega) (by omega) hU.1.size
    unfold Oper.wp execOp
    simp only [ho, resolve, invoke, builtin, Sem.run_bind, Sem.run_pure, Result.andThen_ok, List.map_toArray, List.map_cons, List.map_nil, hs, hx, hr]
    exact h v' w' (rws_more hU (by omega) hrow h3 h5 (by rw [hml]; exact h2)) h3 h5
theorem wpList_app_rws {ops : Array Oper} {rest : List Oper} {o : Oper} {a : Act} {Q : Exit → Act → World → Prop} (hgd : o.guard = none) (s x : Operand) (ho : o.op = .call { callee := .builtin .append, args := #[s, x], argTypes := #[28, 28] }) {i4 : TypeInfo}
    (hi : Try.prog.info? 42 = some i4) (hz : i4.zero = some (.slice none 0 0)) (hsz : i4.size = 1) (hby : i4.bytes = 24) (W u : World) (v : Value) (us : List Value) (ll : List (List Int)) (hs : a.eval s = v) (hU : RwsU W v us ll u)
    (A : Option Addr) (m c : Nat) (hx : a.eval x = .slice A m c) (xs : List Value) (mm : List (List Int)) (hml : mm.length = m) (B T : Nat) (hC : Rc u B T A xs mm) (hsep : ∀ g, v.ownBlock = some g → g < B ∨ T ≤ g) (h63 : ll.length + m ≤ 4000)
    (h : ∀ v' w', RwsU W v' (us ++ xs) (ll ++ mm) w' → u.grownBy w' v.ownBlock → (v'.ownBlock = v.ownBlock ∨ v'.ownBlock = some u.heap.size) → wpList Try.prog ops Q rest (a.put o.dst v') w') : wpList Try.prog ops Q (o :: rest) a u :=
  wpList_plain hgd fun _ hK => wp_app_rws s x ho hi hz hsz hby W u v us ll hs hU A m c hx xs mm hml B T hC hsep h63 fun v' w' h1 h2 h3 => hK _ _ (h v' w' h1 h2 h3)
theorem step_app_rws {ops : Array Oper} {o : Oper} {a : Act} {K : Act → World → Prop} {Q : Exit → Act → World → Prop} {E : Prop} (hgd : o.guard = none) (s x : Operand) (ho : o.op = .call { callee := .builtin .append, args := #[s, x], argTypes := #[28, 28] }) {i4 : TypeInfo}
    (hi : Try.prog.info? 42 = some i4) (hz : i4.zero = some (.slice none 0 0)) (hsz : i4.size = 1) (hby : i4.bytes = 24) (W u : World) (v : Value) (us : List Value) (ll : List (List Int)) (hs : a.eval s = v) (hU : RwsU W v us ll u)
    (A : Option Addr) (m c : Nat) (hx : a.eval x = .slice A m c) (xs : List Value) (mm : List (List Int)) (hml : mm.length = m) (B T : Nat) (hC : Rc u B T A xs mm) (hsep : ∀ g, v.ownBlock = some g → g < B ∨ T ≤ g) (h63 : ll.length + m ≤ 4000)
    (h : ∀ v' w', RwsU W v' (us ++ xs) (ll ++ mm) w' → u.grownBy w' v.ownBlock → (v'.ownBlock = v.ownBlock ∨ v'.ownBlock = some u.heap.size) → K (a.put o.dst v') w') :
    if Region.wanted o (yielded ops a.tmps) = true then Oper.wp Try.prog o a u K Q else E := by
  have hw : Region.wanted o (yielded ops a.tmps) = true := by simp [Region.wanted, hgd]
  rw [if_pos hw]
  exact wp_app_rws s x ho hi hz hsz hby W u v us ll hs hU A m c hx xs mm hml B T hC hsep h63 h
end Go.Proofs.Ytmnblcnhbafcpaa

/-
  Trace OF THE LAWS: ITS ROWS LIE IN NEW BLOCKS.
-/
namespace Go.Proofs.Ytmnblcnhbafcpaa
open Go.RowKit
open NetM
open VecM

/-- none of these lies in an old block -/
def Frs (B : Nat) (us : List Value) : Prop := ∀ x ∈ us, ∀ b, x.ownBlock = some b → B ≤ b
set_option maxRecDepth 100000 in
set_option maxHeartbeats 16000000 in
theorem Trace_own (n : Nt) (v : Value) (A : Option Addr) (cA : Nat) (l : List (List Nat)) (w : World) (hs : Sz n) (hn : Hid (NtAt w n v)) (hw : WOk n.nodes) (him : n.ins.map Pn.node = places n.nodes 21) (hl : l.length ≤ maxLen) (hL : Hid (RawP w A l)) :
    Calls Try.prog 15 #[v, .slice A l.length cA] w fun e w' => ∃ v', e = .returned v' ∧ ∃ us W1, Gr w W1 ∧ RwsU W1 v' us ((trOf n l).map ofN) w' ∧ Frs w.heap.size us := by
  unfold maxLen at hl
  obtain ⟨z1, z2, z3, z4, z5⟩ := hs
  obtain ⟨A1, A2, A3, A4, A5, c1, c2, c3, c4, c5, rfl, hc1, h1, h2, h3, h4, h5⟩ := hn.out
  have H1 := Lib.hid h1
  have H2 := Lib.hid h2
  clear h1 h2 h3 h4 h5
  obtain ⟨W0, eW, BW, KEEP⟩ : ∃ W0, w.alloc (.cells (bxC n A1 A2 A3 A4 A5 c1 c2 c3 c4 c5) 27) = W0 ∧ Hid (Gr w W0) ∧ Hid (∀ u, Gr W0 u → BxAt u w.heap.size n A1 A2 A3 A4 A5 c1 c2 c3 c4 c5) :=
    ⟨_, rfl, Lib.hid (bel_alloc _ _), Lib.hid fun u hu => bx_gr (bx_new w n A1 A2 A3 A4 A5 c1 c2 c3 c4 c5) (by simp) hu⟩
  obtain ⟨e0, e1, e2, e3, e4⟩ := KEEP.out W0 (Gr.refl _)
  obtain ⟨i0, hi, hz0, hz1, hz2⟩ := info_parts info3
  have HI := Lib.hid (And.intro hi (And.intro hz0 (And.intro hz1 hz2)))
  clear hi hz0 hz1 hz2
  obtain ⟨i4, hi, hz0, hz1, hz2⟩ := info_parts info42
  have HI4 := Lib.hid (And.intro hi (And.intro hz0 (And.intro hz1 hz2)))
  clear hi hz0 hz1 hz2
  have HIM := Lib.hid him
  clear him
  go_enter Try.func15, Try.ntmps15
  go_wp2_with fail
  try rw [eW]
  clear eW e0 e1 e2 e3 e4
  go_loopg [5, 6] l.length (fun g o y wr => ∃ (i : Nat) (us : List Value), i + g = l.length ∧ i ≤ 64 ∧ y = .int .i64 i ∧ Hid (RwsU W0 o us (((l.take i).map (inOf n)).map ofN) wr) ∧ Hid (Frs w.heap.size us))
  case atStart => exact ⟨0, [], by omega, by omega, rfl, Lib.hid (rws_nil W0), Lib.hid (fun x hx => by cases hx)⟩
  case round =>
    obtain ⟨i, us, hig, hi64, rfl, HR, HFS⟩ := hrel
    obtain ⟨W2, rfl⟩ : ∃ x, x = wr := ⟨_, rfl⟩
    have HJI := Lib.hid hig
    have hil : i ≤ l.length := by omega
    clear hig
    have G2 := Lib.hid HR.out.1
    obtain ⟨e0, e1, e2, e3, e4⟩ := KEEP.out _ G2.out
    by_cases hgo : i < l.length ∧ i < 64
    · obtain ⟨hgo1, hgo2⟩ := hgo
      have hri : l[i]? = some l[i] := List.getElem?_eq_getElem hgo1
      generalize l[i] = rb at hri
      obtain ⟨bl, ol, P, cP, rfl, hbl, f1, hp, hrl, hrb2⟩ := (hL.out.gr (Gr.trans BW.out G2.out)) i rb hri
      unfold maxLen at hrl
      have HP := Lib.hid hp
      have HRI := Lib.hid hri
      have j1 : (i : Int) < (l.length : Int) := by omega
      have j2 : (0 : Int) ≤ (i : Int) := by omega
      have j3 : (i : Int) < 64 := by omega
      clear hri hp
      have HF1 := Lib.hid (And.intro hbl f1)
      have HST := Lib.hid (show ((l.take (i + 1)).map (inOf n)).map ofN = ((l.take i).map (inOf n)).map ofN ++ [ofN (inOf n rb)] from by rw [List.take_add_one, HRI.out]; simp)
      have HRN := Lib.hid (show (((l.take i).map (inOf n)).map ofN).length = i from by rw [List.length_map, List.length_map, List.length_take]; omega)
      go_wp2_with fail
      clear e0 e1 e2 e3 e4 f1 hbl
      go_loopg [7, 8] n.ins.length (fun g2 s7 y wr => ∃ (rv : Value) (j : Nat), rv = s7 ∧ j + g2 = n.ins.length ∧ y = .int .i64 j ∧ Hid (wr.ownsRow W2.heap.size 3 1 rv j (icells (ofN ((List.range j).map (rowG n.nodes (n.ins.map Pn.node) rb))))) ∧ Hid (Gr W2 wr))
      case atStart => exact ⟨_, 0, rfl, by omega, rfl, Lib.hid (World.ownsRow_nil _ _ _ _), Lib.hid (Gr.refl _)⟩
      case round =>
        obtain ⟨rv, j, rfl, hjg, rfl, HO, HW⟩ := hrel
        have HJ := Lib.hid hjg
        have hjl : j ≤ n.ins.length := by omega
        clear hjg
        have HWW := Lib.hid (Gr.trans G2.out HW.out)
        obtain ⟨e0, e1, e2, e3, e4⟩ := KEEP.out _ HWW.out
        have f1 := cell_up HW.out HF1.out.1 HF1.out.2
        have hws := HW.out.size
        by_cases hlt : j < n.ins.length
        case pos =>
          have hs : n.ins[j]? = some n.ins[j] := List.getElem?_eq_getElem hlt
          generalize n.ins[j] = x at hs
          have HS := Lib.hid hs
          have hi1 : (j : Int) < (n.ins.length : Int) := by omega
          have hi0 : (0 : Int) ≤ (j : Int) := by omega
          have RS := Lib.hid (row_step (rowG n.nodes (n.ins.map Pn.node) rb) j)
          obtain ⟨r, hr⟩ : ∃ r, rowG n.nodes (n.ins.map Pn.node) rb j = r := ⟨_, rfl⟩
          rw [hr] at RS
          have hr2 : (rb[j]?.getD 0) % 2 ^ (widA n.nodes x.node).toNat = r := by rw [← hr]; unfold rowG; rw [List.getElem?_map, hs]; rfl
          clear hr
          by_cases hja : j < rb.length
          case neg =>
            have hja2 : ¬ (j : Int) < (rb.length : Int) := by omega
            rw [List.getElem?_eq_none (by omega)] at hr2
            simp only [Option.getD_none, Nat.zero_mod] at hr2
            subst hr2
            go_wp2_with (at_builtin; refine wpList_append_own _ rfl _ _ 42 rfl W2.heap.size 3 i0 (.int .i64 0) 1 8 Try.underlying42 HI.out.1 HI.out.2.1 HI.out.2.2.1 HI.out.2.2.2 rfl (by decide) _ _ _ rfl (HO.out.alloc _) ⟨wr.heap.size, 0, none⟩ 1 1 [.int .i64 0] rfl rfl (fun j' u hj => by have := int_new wr (.int .i64 0) 3 j' u hj; simpa using this) (fun x hx => by simp at hx; subst hx; rfl) (by unfold maxLen; omega) (by omega) (by simp; omega) ?_; intro v' w3 hown' hgrow3 hnil3; have HO3 := Lib.hid hown'; have HB3 := Lib.hid (app_row HO.out HW.out hgrow3); clear hown' hgrow3 hnil3)
            go_roundg (gk - 1)
            case measure => have := HJ.out; omega
            case rel => exact ⟨_, j + 1, rfl, by have := HJ.out; omega, by go_num, Lib.hid (by rw [RS.out, ofN_snoc, icells_snoc]; exact HO3.out), HB3⟩
          case pos =>
            have hja2 : (j : Int) < (rb.length : Int) := by omega
            have hsa : rb[j]? = some rb[j] := List.getElem?_eq_getElem hja
            generalize rb[j] = y at hsa
            rw [hsa] at hr2
            simp only [Option.getD_some] at hr2
            have hy2 := hrb2 y (List.mem_of_getElem? hsa)
            obtain ⟨ba, offa, rfl, -, f0⟩ := (HP.out.gr HW.out) j y hsa
            obtain ⟨bb, off, rfl, -, d0, d1⟩ := (H2.out.gr (Gr.trans BW.out HWW.out)) j x hs
            obtain ⟨k, yn, hk, hyn, -⟩ := places_mem (op := 21) (l := n.nodes) (p := x.node) (by rw [← HIM.out]; exact List.mem_map.2 ⟨x, List.mem_of_getElem? hs, rfl⟩)
            obtain ⟨by1, offy, rfl, -, y0, y1, y2, y3, y4, y5, y6⟩ := (H1.out.gr (Gr.trans BW.out HWW.out)) k yn hyn
            have hkl : k < n.nodes.length := (List.getElem?_eq_some_iff.1 hyn).1
            obtain ⟨hyw1, hyw2⟩ := hw yn (List.mem_of_getElem? hyn)
            have hww : widA n.nodes x.node = yn.w := by rw [hk]; exact widA_some hyn
            obtain ⟨mm, hm⟩ : ∃ m : Nat, yn.w = m := ⟨yn.w.toNat, by omega⟩
            rw [hww, hm, Int.toNat_natCast] at hr2
            obtain ⟨q, hq⟩ : ∃ q, 2 ^ mm - 1 = q := ⟨_, rfl⟩
            have MK := Lib.hid (show ∀ u, Calls Try.prog 27 #[.int .i64 yn.w] u fun e w' => e = .returned (.int .i64 (q : Nat)) ∧ w' = u from fun u => by rw [hm]; exact (rmask_is (k := mm) (by omega) hq u).mono fun e w' ⟨h1, h2⟩ => ⟨h1, h2.symm⟩)
            have hx := and_mask_nat (a := y) (k := mm) (by omega)
            rw [hq, hr2] at hx
            have hwy := wrap_nat (a := y) (by omega)
            rw [hk] at d1
            have hk1 : (k : Int) < (n.nodes.length : Int) := by omega
            have hk0 : (0 : Int) ≤ (k : Int) := by omega
            have HX := Lib.hid hx
            clear hs hsa hyn hk hww hm hq hr2
            go_wp2_with fail
            go_quiet ((go_at_call 27; exact Calls.quiet_of_same (MK.out _)))
            try rw [HX.out]
            have HOQ := Lib.hid (own_gr HO.out (Below.drewN (Gr.refl _) nq))
            have HWQ := Lib.hid (show Gr W2 (wr.drewN nq) from Below.drewN HW.out nq)
            go_wp2_with (at_builtin; refine wpList_append_own _ rfl _ _ 42 rfl W2.heap.size 3 i0 (.int .i64 0) 1 8 Try.underlying42 HI.out.1 HI.out.2.1 HI.out.2.2.1 HI.out.2.2.2 rfl (by decide) _ _ _ rfl (HOQ.out.alloc _) ⟨wr.heap.size, 0, none⟩ 1 1 [.int .i64 (r : Nat)] rfl rfl (fun j' u hj => by have := int_new (wr.drewN nq) (.int .i64 (r : Nat)) 3 j' u hj; simpa using this) (fun x hx => by simp at hx; subst hx; rfl) (by unfold maxLen; omega) (by omega) (by simp; omega) ?_; intro v' w3 hown' hgrow3 hnil3; have HO3 := Lib.hid hown'; have HB3 := Lib.hid (app_row HOQ.out HWQ.out hgrow3); clear hown' hgrow3 hnil3)
            go_roundg (gk - 1)
            case measure => have := HJ.out; omega
            case rel => exact ⟨_, j + 1, rfl, by have := HJ.out; omega, by go_num, Lib.hid (by rw [RS.out, ofN_snoc, icells_snoc]; exact HO3.out), HB3⟩
        have hjn : j = n.ins.length := by omega
        subst hjn
        have hi1 : ¬ (n.ins.length : Int) < (n.ins.length : Int) := by omega
        have hrow := ints_of_own HO.out (by rw [ofN_len]; simp)
        have HR2 := Lib.hid (show IntR wr rv (ofN (inOf n rb)) by unfold inOf rowOf; rw [List.length_map]; exact hrow)
        have HFR := Lib.hid HO.out.lt
        have hone : rv.oneCell' = true := by obtain ⟨A, c, rfl, -⟩ := hrow; rfl
        have HOO := Lib.hid hone
        clear hrow hone f1
        obtain ⟨Ar, cr, hrv, -⟩ := HR2.out
        rw [ofN_len, inOf_len] at hrv
        subst hrv
        have HA := Lib.hid ((HR.out.gr HW.out).gr (bel_alloc wr (.cells #[.slice Ar n.ins.length cr] 42)))
        go_wp2_with (at_builtin; refine wpList_append_lies _ rfl _ _ 28 rfl W0.heap.size 42 i4 (.slice none 0 0) 1 24 Try.underlying28 HI4.out.1 HI4.out.2.1 HI4.out.2.2.1 HI4.out.2.2.2 rfl (by decide) _ _ us rfl HA.out.2.1 ⟨wr.heap.size, 0, none⟩ 1 1 [.slice Ar n.ins.length cr] rfl rfl (World.news_of_block (heap_new' wr _)) (fun u hu => by obtain rfl := List.mem_singleton.1 hu; exact HOO.out) (by decide) (by rw [HRN.out]; unfold maxLen; omega) (by rw [HRN.out]; omega) HA.out.1.size _ rfl ?_; intro gz cz w7 hown hgrow hor hlt3; have HN := Lib.hid (rws_step HA.out (HR2.out.gr (bel_alloc wr _)) HOO.out (fun _ b hb e => by have h1 := (HFR.out b hb).1; have h2 := (HR.out.2.1.lt b e.symm).2; omega) hgrow hor hown); clear hown hgrow hor hlt3)
        go_roundg (l.length - i - 1)
        case measure => have := HJI.out; omega
        case rel =>
          refine ⟨i + 1, us ++ [.slice Ar n.ins.length cr], by have := HJI.out; omega, by omega, by go_num, Lib.hid ?_, Lib.hid (fun x hx => by rcases List.mem_append.1 hx with h | h; (exact HFS.out x h); obtain rfl := List.mem_singleton.1 h; exact fun b hb => Nat.le_trans (Nat.le_trans BW.out.size HR.out.1.size) (HFR.out b hb).1)⟩
          have h9 := HN.out
          rw [HRN.out] at h9
          rw [HST.out]
          exact h9
    · have hend : l.take i = l.take 64 := by
        by_cases h64 : i = 64
        · rw [h64]
        · have : i = l.length := by omega
          rw [List.take_of_length_le (by omega), List.take_of_length_le (by omega)]
      have HE := Lib.hid (show RwsU W0 _ us ((trOf n l).map ofN) W2 from by
        have h := HR.out
        rw [hend] at h
        exact h)
      clear hend
      by_cases h1 : i < l.length
      · have j1 : (i : Int) < (l.length : Int) := by omega
        have j3 : ¬ (i : Int) < 64 := by omega
        go_wp2_with fail
        go_ret
        exact ⟨_, rfl, us, W0, BW.out, HE.out, HFS.out⟩
      · have j1 : ¬ (i : Int) < (l.length : Int) := by omega
        go_wp2_with fail
        go_ret
        exact ⟨_, rfl, us, W0, BW.out, HE.out, HFS.out⟩
end Go.Proofs.Ytmnblcnhbafcpaa
