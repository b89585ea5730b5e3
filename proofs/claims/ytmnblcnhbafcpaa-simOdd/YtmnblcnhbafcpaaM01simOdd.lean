/-
  BEGINNINGS OF ROWS, AND WHERE A PROPERTY OF THE NET IS HIT.
-/
import Derived.Test.YtmnblcnhbafcpaaJ57
import Derived.Test.YtmnblcnhbafcpaaJ47
import Derived.Test.YtmnblcnhbafcpaaJ36
import Derived.Test.YtmnblcnhbafcpaaJ33
namespace Go.Proofs.Ytmnblcnhbafcpaa
open Go.RowKit
open NetM
open VecM

theorem cell_lt {w : World} {b o : Nat} {v : Value} (h : w.cell? ⟨b, o, none⟩ = some v) : b < w.heap.size := by
  apply Classical.byContradiction
  intro hb
  have e : w.heap[b]? = none := Array.getElem?_eq_none (by omega)
  simp [World.cell?, e] at h
theorem rws_take {w : World} {A : Option Addr} {L c k : Nat} {ll : List (List Int)} (h : RwsR w (.slice A L c) ll) (hk : k ≤ ll.length) : RwsR w (.slice A k c) (ll.take k) := by
  obtain ⟨A', c', e, hc, hi⟩ := h
  simp only [Value.slice.injEq] at e
  obtain ⟨rfl, -, rfl⟩ := e
  have hl : (ll.take k).length = k := by rw [List.length_take]; omega
  refine ⟨A, c, by rw [hl], by rw [hl]; omega, fun i l h1 => hi i l ?_⟩
  have hik : i < k := by
    have := (List.getElem?_eq_some_iff.1 h1).1
    omega
  rwa [List.getElem?_take_of_lt hik] at h1
theorem bws_take {w : World} {A : Option Addr} {L c k : Nat} {ll : List (List Bool)} (h : BwsR w (.slice A L c) ll) (hk : k ≤ ll.length) : BwsR w (.slice A k c) (ll.take k) := by
  obtain ⟨A', c', e, hc, hi⟩ := h
  simp only [Value.slice.injEq] at e
  obtain ⟨rfl, -, rfl⟩ := e
  have hl : (ll.take k).length = k := by rw [List.length_take]; omega
  refine ⟨A, c, by rw [hl], by rw [hl]; omega, fun i l h1 => hi i l ?_⟩
  have hik : i < k := by
    have := (List.getElem?_eq_some_iff.1 h1).1
    omega
  rwa [List.getElem?_take_of_lt hik] at h1
theorem trOk_take {n : Nt} {t : List (List Nat)} (h : TrOk n t) (k : Nat) : TrOk n (t.take k) := fun r hr => h r (List.mem_of_mem_take hr)
theorem hitOf_at {n : Nt} {t : List (List Nat)} {q : Nat} {p : Pr} (hp : n.props[q]? = some p) : hitOf n t (q : Nat) = hitF n t p q 0 t.length := by
  unfold hitOf
  rw [if_neg (by omega)]
  simp [hp]
end Go.Proofs.Ytmnblcnhbafcpaa

/-
  ROWS OF ROWS, COPIED, WALKED.
-/
namespace Go.Proofs.Ytmnblcnhbafcpaa
open Go.RowKit
open NetM

theorem add_at (b off j : Nat) : (⟨b, off, none⟩ : Addr).add j = ⟨b, off + j, none⟩ := by
  by_cases hq : j = 0
  · subst hq; rfl
  · simp [Addr.add, hq]
/-- the values of rows -/
theorem rws_vals {w : World} {A : Option Addr} {ll : List (List Int)} (h : RwsP w A ll) : ∃ us : List Value, us.length = ll.length ∧ (∀ ad, A = some ad → ∀ j u, us[j]? = some u → w.cell? (ad.add j) = some u) ∧ ∀ (i : Nat) (x : Value) (l : List Int), us[i]? = some x → ll[i]? = some l → IntR w x l := by
  refine ⟨(List.range ll.length).map fun i => (A.bind fun a => w.cell? (a.add i)).getD (.bool false), by simp, fun ad hA j u hu => ?_, fun i x l hx hl => ?_⟩
  · have hj := (List.getElem?_eq_some_iff.1 hu).1
    simp only [List.length_map, List.length_range] at hj
    obtain ⟨b, off, x, e, -, hc, -⟩ := h j _ (List.getElem?_eq_getElem hj)
    rw [List.getElem?_map, List.getElem?_range hj] at hu
    subst e
    obtain rfl := Option.some.inj hA
    rw [add_at]
    simp only [Option.map_some, Option.bind_some, add_at, hc, Option.getD_some, Option.some.injEq] at hu
    rw [hc, hu]
  · have hj := (List.getElem?_eq_some_iff.1 hl).1
    obtain ⟨b, off, y, e, -, hc, hr⟩ := h i l hl
    rw [List.getElem?_map, List.getElem?_range hj] at hx
    subst e
    simp only [Option.map_some, Option.bind_some, add_at, hc, Option.getD_some, Option.some.injEq] at hx
    rw [← hx]
    exact hr
theorem intr_cell {u : World} {x : Value} {l : List Int} (h : IntR u x l) : x.oneCell' = true := by
  obtain ⟨A, c, rfl, -⟩ := h
  rfl
/-- rows more -/
theorem rws_more {W u w6 : World} {v v' : Value} {ll mm : List (List Int)} {us xs : List Value} (h : RwsU W v us ll u) (hxl : xs.length = mm.length)
    (hx : ∀ (i : Nat) (y : Value) (l : List Int), xs[i]? = some y → mm[i]? = some l → IntR u y l ∧ (l ≠ [] → ∀ b, y.ownBlock = some b → some b ≠ v.ownBlock)) (hgrow : u.grownBy w6 v.ownBlock) (hor : v'.ownBlock = v.ownBlock ∨ v'.ownBlock = some u.heap.size)
    (hown : w6.ownsRow W.heap.size 42 1 v' (ll.length + mm.length) (us ++ xs)) : RwsU W v' (us ++ xs) (ll ++ mm) w6 := by
  obtain ⟨h0, ho, hl, hr⟩ := h
  have hnew : ∀ (y : Value) (m : List Int), IntR u y m → (m ≠ [] → ∀ b, y.ownBlock = some b → some b ≠ v.ownBlock) → m ≠ [] → ∀ b, y.ownBlock = some b → some b ≠ v'.ownBlock := fun y m hy hs hm b hb e => by
    rcases hor with h | h
    · exact hs hm b hb (e.trans h)
    · rw [h] at e
      have := intr_lt hy hm b hb
      have := Option.some.inj e
      omega
  refine ⟨Below.grown h0 hgrow h0.size (fun k hk => (ho.lt k hk).1), by rw [List.length_append]; exact hown, by simp [hl, hxl], fun i y m hy hm => ?_⟩
  by_cases e : i < ll.length
  · rw [List.getElem?_append_left (by omega)] at hy hm
    obtain ⟨k1, k2, k3⟩ := hr i y m hy hm
    exact ⟨intr_far k1 hgrow k3, k2, hnew y m k1 k3⟩
  · rw [List.getElem?_append_right (by omega), hl] at hy
    rw [List.getElem?_append_right (by omega)] at hm
    obtain ⟨k1, k3⟩ := hx _ y m hy hm
    exact ⟨intr_far k1 hgrow k3, intr_cell k1, hnew y m k1 k3⟩
/-- rows in cells; they lie in blocks from B on and ahead of T -/
def Rc (u : World) (B T : Nat) (A : Option Addr) (us : List Value) (ll : List (List Int)) : Prop :=
  us.length = ll.length ∧ (ll ≠ [] → ∃ b off, A = some ⟨b, off, none⟩ ∧ B ≤ b ∧ b < T ∧ b < u.heap.size ∧ ∀ (j : Nat) (y : Value), us[j]? = some y → u.cell? ⟨b, off + j, none⟩ = some y) ∧
  ∀ (i : Nat) (y : Value) (l : List Int), us[i]? = some y → ll[i]? = some l → IntR u y l ∧ (l ≠ [] → ∀ b, y.ownBlock = some b → B ≤ b ∧ b < T)
theorem Rc.gr {u u' : World} {B T : Nat} {A : Option Addr} {us : List Value} {ll : List (List Int)} (h : Rc u B T A us ll) (hu : Gr u u') : Rc u' B T A us ll := by
  refine ⟨h.1, fun h0 => ?_, fun i y l h1 h2 => ⟨(h.2.2 i y l h1 h2).1.gr hu, (h.2.2 i y l h1 h2).2⟩⟩
  obtain ⟨b, off, e, k1, k2, k3, k4⟩ := h.2.1 h0
  exact ⟨b, off, e, k1, k2, Nat.lt_of_lt_of_le k3 hu.size, fun j y hj => cell_up hu k3 (k4 j y hj)⟩
theorem Rc.far {u u' : World} {B T : Nat} {A : Option Addr} {us : List Value} {ll : List (List Int)} {row : Option Nat} (h : Rc u B T A us ll) (hu : u.grownBy u' row) (hr : ∀ g, row = some g → g < B ∨ T ≤ g) : Rc u' B T A us ll := by
  refine ⟨h.1, fun h0 => ?_, fun i y l h1 h2 => ?_⟩
  · obtain ⟨b, off, e, k1, k2, k3, k4⟩ := h.2.1 h0
    refine ⟨b, off, e, k1, k2, Nat.lt_of_lt_of_le k3 hu.size, fun j y hj => ?_⟩
    rw [World.cell?_of_block (a := ⟨b, off + j, none⟩) (hu.block b k3 (fun e2 => by have := hr b e2.symm; omega))]
    exact k4 j y hj
  · obtain ⟨k1, k2⟩ := h.2.2 i y l h1 h2
    obtain ⟨A', c, rfl, hc, hi⟩ := k1
    refine ⟨⟨A', c, rfl, hc, fun j s hs => ?_⟩, k2⟩
    obtain ⟨b, off, rfl, hb, hcell⟩ := hi j s hs
    have hm : l ≠ [] := fun e => by rw [e] at hs; simp at hs
    have k3 := k2 hm b rfl
    refine ⟨b, off, rfl, Nat.lt_of_lt_of_le hb hu.size, ?_⟩
    rw [World.cell?_of_block (a := ⟨b, off + j, none⟩) (hu.block b hb (fun e2 => by have := hr b e2.symm; omega))]
    exact hcell
theorem rc_rws {w : World} {A : Option Addr} {ll : List (List Int)} (h : RwsP w A ll) : ∃ us : List Value, Rc w 0 w.heap.size A us ll := by
  obtain ⟨us, h1, h2, h3⟩ := rws_vals h
  refine ⟨us, h1, fun h0 => ?_, fun i y l hi hl => ⟨h3 i y l hi hl, fun hn b hb => ⟨Nat.zero_le _, intr_lt (h3 i y l hi hl) hn b hb⟩⟩⟩
  obtain ⟨b, off, x, e, hb, -⟩ := h 0 (ll.head h0) (by cases ll with | nil => exact absurd rfl h0 | cons x r => rfl)
  refine ⟨b, off, e, Nat.zero_le _, hb, hb, fun j y hj => ?_⟩
  have := h2 _ e j y hj
  rwa [add_at] at this
theorem rc_own {W1 z : World} {B : Nat} {v : Value} {us : List Value} {ll : List (List Int)} (h : RwsU W1 v us ll z) (hB : B ≤ W1.heap.size) (hf : ∀ x ∈ us, ∀ b, x.ownBlock = some b → B ≤ b) : ∃ A c, v = .slice A ll.length c ∧ Rc z B z.heap.size A us ll := by
  have hr := h.2.2.2
  rcases h.2.1.2 with ⟨rfl, h0⟩ | ⟨g, cap, cur, rfl, hb, hh, hn, hc, hsz, ht⟩
  · have e : ll = [] := List.eq_nil_of_length_eq_zero h0
    subst e
    exact ⟨none, 0, rfl, h.2.2.1, fun h => absurd rfl h, fun i y l _ hl => by simp at hl⟩
  · refine ⟨some ⟨g, 0, none⟩, cap, rfl, h.2.2.1, fun _ => ⟨g, 0, rfl, by omega, (Array.getElem?_eq_some_iff.1 hh).1, (Array.getElem?_eq_some_iff.1 hh).1, fun j y hj => ?_⟩, fun i y l hi hl => ⟨(hr i y l hi hl).1, fun hn b hb => ⟨hf y (List.mem_of_getElem? hi) b hb, intr_lt (hr i y l hi hl).1 hn b hb⟩⟩⟩
    have hjl := (List.getElem?_eq_some_iff.1 hj).1
    have := h.2.1.cellAt j (by have := h.2.2.1; omega)
    rw [Nat.zero_add, this]
    exact hj
theorem rws_empty (W : World) : RwsU W (.slice (some ⟨W.heap.size, 0, none⟩) 0 0) [] [] (W.alloc (.cells #[] 42)) := ⟨bel_alloc _ _, own_empty W 42 1 W.heap.size (Nat.le_refl _), rfl, fun i x l hx _ => by simp at hx⟩
/-- a row that is nil adds nothing -/
theorem run_nil_rows {w : World} {base n : Nat} {v : Value} {xs : List Value} {i0 : TypeInfo} (ty : TypeId) (hi : Try.prog.info? 42 = some i0) (hown : w.ownsRow base 42 1 v n xs) (c : Nat) :
    (Builtin.append_ #[28, 28] ty #[v, .slice none 0 c]).run Try.prog w = .ok v w := by
  rcases hown.2 with ⟨rfl, rfl⟩ | ⟨g, cap, cur, rfl, _, _, hnc, _⟩
  · simp [Builtin.append_, run_underlying Try.underlying28, sizeOf, typeInfo, hi, Builtin.lenOf, Builtin.firstCells]
  · simp [Builtin.append_, run_underlying Try.underlying28, sizeOf, typeInfo, hi, Builtin.lenOf, Builtin.firstCells, hnc, storeCells]
theorem wp_app_rws {o : Oper} {a : Act} {K : Act → World → Prop} {Q : Exit → Act → World → Prop} (s x : Operand) (ho : o.op = .call { callee := .builtin .append, args := #[s, x], argTypes := #[28, 28] }) {i4 : TypeInfo}
    (hi : Try.prog.info? 42 = some i4) (hz : i4.zero = some (.slice none 0 0)) (hsz : i4.size = 1) (hby : i4.bytes = 24) (W u : World) (v : Value) (us : List Value) (ll : List (List Int)) (hs : a.eval s = v) (hU : RwsU W v us ll u)
    (A : Option Addr) (m c : Nat) (hx : a.eval x = .slice A m c) (xs : List Value) (mm : List (List Int)) (hml : mm.length = m) (B T : Nat) (hC : Rc u B T A xs mm) (hsep : ∀ g, v.ownBlock = some g → g < B ∨ T ≤ g) (h63 : ll.length + m ≤ 4000)
    (h : ∀ v' w', RwsU W v' (us ++ xs) (ll ++ mm) w' → u.grownBy w' v.ownBlock → (v'.ownBlock = v.ownBlock ∨ v'.ownBlock = some u.heap.size) → K (a.put o.dst v') w') : o.wp Try.prog a u K Q := by
  have hown := hU.2.1
  have hxl : xs.length = m := by rw [hC.1, hml]
  have hrow : ∀ (i : Nat) (y : Value) (l : List Int), xs[i]? = some y → mm[i]? = some l → IntR u y l ∧ (l ≠ [] → ∀ b, y.ownBlock = some b → some b ≠ v.ownBlock) := fun i y l h1 h2 => by
    obtain ⟨k1, k2⟩ := hC.2.2 i y l h1 h2
    refine ⟨k1, fun hl b hb e => ?_⟩
    have k3 := k2 hl b hb
    have := hsep b e.symm
    omega
  have hcell : ∀ ad, A = some ad → ∀ (j : Nat) (y : Value), xs[j]? = some y → u.cell? (ad.add j) = some y := fun ad hA j y hj => by
    have hjl := (List.getElem?_eq_some_iff.1 hj).1
    obtain ⟨b, off, e, -, -, -, h1⟩ := hC.2.1 (fun h0 => by rw [h0] at hml; simp at hml; omega)
    rw [hA] at e
    obtain rfl := Option.some.inj e
    rw [add_at]
    exact h1 j y hj
  have hAn : A = none → m = 0 := fun hA => by
    rcases Nat.eq_zero_or_pos m with h0 | h0
    · exact h0
    · obtain ⟨b, off, e, -⟩ := hC.2.1 (fun h1 => by rw [h1] at hml; simp at hml; omega)
      rw [hA] at e
      simp at e
  clear hC hsep
  rcases A with _ | ad
  · obtain rfl := hAn rfl
    have e1 := List.eq_nil_of_length_eq_zero hml
    have e2 := List.eq_nil_of_length_eq_zero hxl
    subst e1 e2
    have hrun := run_nil_rows o.type hi hown c
    unfold Oper.wp
    simp [execOp, ho, resolve, invoke, builtin, hs, hx, hrun, Result.andThen]
    exact h v u (by simpa using hU) ⟨rfl, rfl, rfl, Nat.le_refl _, fun _ _ _ => rfl⟩ (.inl rfl)
  · obtain ⟨v', w', hr, h2, h3, _, h5⟩ := run_append_own_at (P := Try.prog) u W.heap.size 28 o.type 42 i4 (.slice none 0 0) 1 24 Try.underlying28 hi hz hsz hby rfl (by decide) v ll.length us hown ad m c xs (by omega) (hcell ad rfl)
      (fun y hy => by obtain ⟨j, hj⟩ := List.mem_iff_getElem?.1 hy; have hjl := (List.getElem?_eq_some_iff.1 hj).1; exact intr_cell (hrow j y _ hj (List.getElem?_eq_getElem (by omega))).1) (by unfold maxLen; omega) (by omega) hU.1.size
    unfold Oper.wp execOp
    simp only [ho, resolve, invoke, builtin, Sem.run_bind, Sem.run_pure, Result.andThen_ok, List.map_toArray, List.map_cons, List.map_nil, hs, hx, hr]
    exact h v' w' (rws_more hU (by omega) hrow h3 h5 (by rw [hml]; exact h2)) h3 h5
theorem wpList_app_rws {ops : Array Oper} {rest : List Oper} {o : Oper} {a : Act} {Q : Exit → Act → World → Prop} (hgd : o.guard = none) (s x : Operand) (ho : o.op = .call { callee := .builtin .append, args := #[s, x], argTypes := #[28, 28] }) {i4 : TypeInfo}
    (hi : Try.prog.info? 42 = some i4) (hz : i4.zero = some (.slice none 0 0)) (hsz : i4.size = 1) (hby : i4.bytes = 24) (W u : World) (v : Value) (us : List Value) (ll : List (List Int)) (hs : a.eval s = v) (hU : RwsU W v us ll u)
    (A : Option Addr) (m c : Nat) (hx : a.eval x = .slice A m c) (xs : List Value) (mm : List (List Int)) (hml : mm.length = m) (B T : Nat) (hC : Rc u B T A xs mm) (hsep : ∀ g, v.ownBlock = some g → g < B ∨ T ≤ g) (h63 : ll.length + m ≤ 4000)
    (h : ∀ v' w', RwsU W v' (us ++ xs) (ll ++ mm) w' → u.grownBy w' v.ownBlock → (v'.ownBlock = v.ownBlock ∨ v'.ownBlock = some u.heap.size) → wpList Try.prog ops Q rest (a.put o.dst v') w') : wpList Try.prog ops Q (o :: rest) a u :=
  wpList_plain hgd fun _ hK => wp_app_rws s x ho hi hz hsz hby W u v us ll hs hU A m c hx xs mm hml B T hC hsep h63 fun v' w' h1 h2 h3 => hK _ _ (h v' w' h1 h2 h3)
theorem step_app_rws {ops : Array Oper} {o : Oper} {a : Act} {K : Act → World → Prop} {Q : Exit → Act → World → Prop} {E : Prop} (hgd : o.guard = none) (s x : Operand) (ho : o.op = .call { callee := .builtin .append, args := #[s, x], argTypes := #[28, 28] }) {i4 : TypeInfo}
    (hi : Try.prog.info? 42 = some i4) (hz : i4.zero = some (.slice none 0 0)) (hsz : i4.size = 1) (hby : i4.bytes = 24) (W u : World) (v : Value) (us : List Value) (ll : List (List Int)) (hs : a.eval s = v) (hU : RwsU W v us ll u)
    (A : Option Addr) (m c : Nat) (hx : a.eval x = .slice A m c) (xs : List Value) (mm : List (List Int)) (hml : mm.length = m) (B T : Nat) (hC : Rc u B T A xs mm) (hsep : ∀ g, v.ownBlock = some g → g < B ∨ T ≤ g) (h63 : ll.length + m ≤ 4000)
    (h : ∀ v' w', RwsU W v' (us ++ xs) (ll ++ mm) w' → u.grownBy w' v.ownBlock → (v'.ownBlock = v.ownBlock ∨ v'.ownBlock = some u.heap.size) → K (a.put o.dst v') w') :
    if Region.wanted o (yielded ops a.tmps) = true then Oper.wp Try.prog o a u K Q else E := by
  have hw : Region.wanted o (yielded ops a.tmps) = true := by simp [Region.wanted, hgd]
  rw [if_pos hw]
  exact wp_app_rws s x ho hi hz hsz hby W u v us ll hs hU A m c hx xs mm hml B T hC hsep h63 h
end Go.Proofs.Ytmnblcnhbafcpaa

/-
  ROWS OF ROWS, ONE OF THEM STORED; TRACES THAT ARE NONE, PLAIN.
-/
namespace Go.Proofs.Ytmnblcnhbafcpaa
open Go.RowKit
open NetM

theorem rws_set {W u : World} {g L cap k : Nat} {us : List Value} {ll : List (List Int)} {y : Value} {l : List Int} (h : RwsU W (.slice (some ⟨g, 0, none⟩) L cap) us ll u) (hL : L = ll.length) (hk : k < ll.length) (hy : IntR u y l) (hs : l ≠ [] → ∀ b, y.ownBlock = some b → b ≠ g) :
    RwsU W (.slice (some ⟨g, 0, none⟩) L cap) (us.set k y) (ll.set k l) (u.setCell ⟨g, k, none⟩ y) := by
  subst hL
  obtain ⟨h0, ho, hl, hr⟩ := h
  obtain ⟨h1, h2⟩ := ho.stored k y
  have hg : (some g : Option Nat) = (Value.slice (some ⟨g, 0, none⟩) ll.length cap).ownBlock := by simp [Value.ownBlock]
  refine ⟨Below.grown h0 h2 h0.size (fun b hb => (ho.lt b (by rw [← hg]; exact hb)).1), by rw [List.length_set]; exact h1, by rw [List.length_set, List.length_set, hl], fun i x m hx hm => ?_⟩
  by_cases e : k = i
  · subst e
    rw [List.getElem?_set_self (by omega)] at hx
    rw [List.getElem?_set_self hk] at hm
    obtain rfl := Option.some.inj hx
    obtain rfl := Option.some.inj hm
    have h3 : l ≠ [] → ∀ b, y.ownBlock = some b → some b ≠ (some g : Option Nat) := fun h b hb e => hs h b hb (Option.some.inj e)
    exact ⟨intr_far (v := .slice (some ⟨g, 0, none⟩) ll.length cap) hy (by rw [← hg]; exact h2) (by rw [← hg]; exact h3), intr_cell hy, by rw [← hg]; exact h3⟩
  · rw [List.getElem?_set_ne e] at hx hm
    obtain ⟨k1, k2, k3⟩ := hr i x m hx hm
    exact ⟨intr_far k1 (by rw [← hg]; exact h2) k3, k2, k3⟩
theorem odd_long {n : Nt} {ll : List (List Int)} {k : Nat} {r : List Nat} (hk : k < ll.length) (hr : r.length = n.ins.length) (y : Int) : ¬ TrRight n (ll.set k (ofN r ++ [y])) := fun h => by
  have h1 := (h.2 k (ofN r ++ [y]) (List.getElem?_set_self hk)).1
  rw [List.length_append, ofN_len, List.length_singleton] at h1
  omega
theorem odd_many {n : Nt} (l : List Int) : ¬ TrRight n (List.replicate 65 l) := fun h => by
  have h1 := h.1
  rw [List.length_replicate] at h1
  omega
theorem odd_big {n : Nt} {ll : List (List Int)} {k j : Nat} {l : List Int} {y : Int} {p : Pn} (hk : k < ll.length) (hp : n.ins[j]? = some p) (hl : j < l.length) (hy : ((2 ^ (widA n.nodes p.node).toNat : Nat) : Int) ≤ y) : ¬ TrRight n (ll.set k (l.set j y)) := fun h => by
  have h1 := ((h.2 k (l.set j y) (List.getElem?_set_self hk)).2 j y p (List.getElem?_set_self hl) hp).2
  omega
theorem set_len {ll : List (List Int)} {k : Nat} {l : List Int} (h : ∀ r ∈ ll, r.length ≤ maxLen) (hl : l.length ≤ maxLen) : ∀ r ∈ ll.set k l, r.length ≤ maxLen := fun r hr => by
  rcases List.mem_or_eq_of_mem_set hr with h1 | h1
  · exact h r h1
  · rw [h1]
    exact hl
end Go.Proofs.Ytmnblcnhbafcpaa
