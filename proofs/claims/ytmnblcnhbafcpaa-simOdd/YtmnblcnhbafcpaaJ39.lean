/-
  ROWS OF BITS, AND ROWS OF THESE, IN MEMORY.
-/
import Derived.Test.YtmnblcnhbafcpaaJ38
namespace Go.Proofs.Ytmnblcnhbafcpaa
open Go.RowKit
open NetM

theorem info4 : (Try.prog.info? 4).map (fun i => (i.zero, i.size, i.bytes)) = some (some (.bool false), 1, 1) := by kernel_rfl
theorem info44 : (Try.prog.info? 44).map (fun i => (i.zero, i.size, i.bytes)) = some (some (.slice none 0 0), 1, 24) := by kernel_rfl
def bcells (l : List Bool) : List Value := l.map fun b => .bool b
theorem bcells_snoc (l : List Bool) (b : Bool) : bcells (l ++ [b]) = bcells l ++ [.bool b] := by simp [bcells]
def Bls (w : World) (B : Nat) (A : Option Addr) (l : List Bool) : Prop := ∀ (i : Nat) (s : Bool), l[i]? = some s → ∃ b off, A = some ⟨b, off, none⟩ ∧ b < B ∧ w.cell? ⟨b, off + i, none⟩ = some (.bool s)
def BoolR (w : World) (v : Value) (l : List Bool) : Prop := ∃ A c, v = .slice A l.length c ∧ l.length ≤ c ∧ Bls w w.heap.size A l
theorem BoolR.gr {w w' : World} {v : Value} {l : List Bool} (h : BoolR w v l) (hb : Gr w w') : BoolR w' v l := by
  obtain ⟨A, c, e, hc, hi⟩ := h
  refine ⟨A, c, e, hc, fun i s hs => ?_⟩
  obtain ⟨b, off, e2, hlt, h3⟩ := hi i s hs
  exact ⟨b, off, e2, Nat.lt_of_lt_of_le hlt hb.size, cell_up hb hlt h3⟩
theorem bools_of_own {w : World} {base n : Nat} {v : Value} {xs : List Bool} (h : w.ownsRow base 4 1 v n (bcells xs)) (hn : xs.length = n) : BoolR w v xs := by
  have h' := h
  rcases h.2 with ⟨rfl, h0⟩ | ⟨g, cap, cur, rfl, hb, hh, hn', hc, hsz, ht⟩
  · have e : xs = [] := List.eq_nil_of_length_eq_zero (hn.trans h0)
    subst e
    exact ⟨none, 0, rfl, Nat.le_refl _, fun i s hi => by simp at hi⟩
  · refine ⟨some ⟨g, 0, none⟩, cap, by rw [hn], by omega, fun i s hi => ?_⟩
    have hil := (List.getElem?_eq_some_iff.1 hi).1
    refine ⟨g, 0, rfl, (Array.getElem?_eq_some_iff.1 hh).1, ?_⟩
    have := h'.cellAt i (by omega)
    rw [Nat.zero_add, this]
    unfold bcells
    rw [List.getElem?_map, hi]
    rfl
/-- what a row of bits' contract tells -/
def BitRet (w : World) (xs : List Bool) (e : Ending) (w' : World) : Prop := ∃ v, e = .returned v ∧ BoolR w' v xs ∧ Gr w w' ∧ ∀ b, v.ownBlock = some b → w.heap.size ≤ b
/-- rows of bits, one behind the other -/
def BwsP (w : World) (A : Option Addr) (ll : List (List Bool)) : Prop := ∀ (i : Nat) (l : List Bool), ll[i]? = some l → ∃ b off u, A = some ⟨b, off, none⟩ ∧ b < w.heap.size ∧ w.cell? ⟨b, off + i, none⟩ = some u ∧ BoolR w u l
def BwsR (w : World) (v : Value) (ll : List (List Bool)) : Prop := ∃ A c, v = .slice A ll.length c ∧ ll.length ≤ c ∧ BwsP w A ll
theorem BwsP.gr {w u : World} {A : Option Addr} {ll : List (List Bool)} (h : BwsP w A ll) (hu : Gr w u) : BwsP u A ll := fun i l hi => by
  obtain ⟨b, off, x, e, hb, hc, hr⟩ := h i l hi
  exact ⟨b, off, x, e, Nat.lt_of_lt_of_le hb hu.size, cell_up hu hb hc, hr.gr hu⟩
theorem BwsR.gr {w u : World} {v : Value} {ll : List (List Bool)} (h : BwsR w v ll) (hu : Gr w u) : BwsR u v ll := by
  obtain ⟨A, c, e, hc, hr⟩ := h
  exact ⟨A, c, e, hc, hr.gr hu⟩
/-- a row keeps where another row of one's own has grown -/
theorem boolr_far {u w6 : World} {v y : Value} {m : List Bool} (h : BoolR u y m) (hgrow : u.grownBy w6 v.ownBlock) (hne : m ≠ [] → ∀ b, y.ownBlock = some b → some b ≠ v.ownBlock) : BoolR w6 y m := by
  obtain ⟨A, c, rfl, hc, hi⟩ := h
  refine ⟨A, c, rfl, hc, fun i s hs => ?_⟩
  obtain ⟨b, off, rfl, hb, hcell⟩ := hi i s hs
  have hm : m ≠ [] := fun e => by rw [e] at hs; simp at hs
  refine ⟨b, off, rfl, Nat.lt_of_lt_of_le hb hgrow.size, ?_⟩
  rw [World.cell?_of_block (a := ⟨b, off + i, none⟩) (hgrow.block b hb (hne hm b rfl))]
  exact hcell
/-- a row of one's own whose cells are rows; none of these lies in its block -/
def BwsU (W : World) (v : Value) (us : List Value) (ll : List (List Bool)) (u : World) : Prop := Gr W u ∧ u.ownsRow W.heap.size 44 1 v ll.length us ∧ us.length = ll.length ∧ ∀ (i : Nat) (x : Value) (l : List Bool), us[i]? = some x → ll[i]? = some l → BoolR u x l ∧ x.oneCell' = true ∧ (l ≠ [] → ∀ b, x.ownBlock = some b → some b ≠ v.ownBlock)
theorem bws_own {W u : World} {v : Value} {us : List Value} {ll : List (List Bool)} (h : BwsU W v us ll u) : BwsR u v ll := by
  obtain ⟨hg, ho, hl, hr⟩ := h
  have ho' := ho
  rcases ho.2 with ⟨rfl, h0⟩ | ⟨g, cap, cur, rfl, hb, hh, hn, hc, hsz, ht⟩
  · have e : ll = [] := List.eq_nil_of_length_eq_zero h0
    subst e
    exact ⟨none, 0, rfl, Nat.le_refl _, fun i l hi => by simp at hi⟩
  · refine ⟨some ⟨g, 0, none⟩, cap, rfl, hn, fun i l hi => ?_⟩
    have hil := (List.getElem?_eq_some_iff.1 hi).1
    have hui : us[i]? = some us[i] := List.getElem?_eq_getElem (by omega)
    refine ⟨g, 0, us[i], rfl, (Array.getElem?_eq_some_iff.1 hh).1, ?_, (hr i _ l hui hi).1⟩
    have := ho'.cellAt i (by omega)
    rw [Nat.zero_add, this]
    exact hui
theorem BwsU.gr {W u u' : World} {v : Value} {us : List Value} {ll : List (List Bool)} (h : BwsU W v us ll u) (hg : Gr u u') : BwsU W v us ll u' := by
  obtain ⟨h1, ho, hl, hr⟩ := h
  refine ⟨Gr.trans h1 hg, ?_, hl, fun i x l hx hl => ⟨(hr i x l hx hl).1.gr hg, (hr i x l hx hl).2⟩⟩
  exact ho.kept (row := none) ⟨hg.os, hg.tape, hg.output, hg.size, fun i hi _ => hg.block i hi⟩ (Classical.em _)
theorem bws_nil (W : World) : BwsU W (.slice none 0 0) [] [] W := ⟨Gr.refl _, World.ownsRow_nil _ _ _ _, rfl, fun i x l hx _ => by simp at hx⟩
theorem boolr_lt {u : World} {x : Value} {l : List Bool} (h : BoolR u x l) (hl : l ≠ []) : ∀ b, x.ownBlock = some b → b < u.heap.size := fun b hb => by
  obtain ⟨A, c, rfl, hc, hi⟩ := h
  obtain ⟨s, hs0⟩ : ∃ s, l[0]? = some s := by
    cases l with
    | nil => exact absurd rfl hl
    | cons s r => exact ⟨s, rfl⟩
  obtain ⟨b', off, rfl, hb', -⟩ := hi 0 s hs0
  have e3 : b' = b := by simpa [Value.ownBlock] using hb
  omega
/-- the first row, in a block of its own -/
theorem bws_one {W : World} {x : Value} {l : List Bool} (hx : BoolR W x l) (h1 : x.oneCell' = true) : BwsU W (.slice (some ⟨W.heap.size, 0, none⟩) 1 1) [x] [l] (W.alloc (.cells #[x] 44)) := by
  refine ⟨bel_alloc _ _, ⟨by simp, .inr ⟨W.heap.size, 1, #[x], rfl, Nat.le_refl _, by show (W.heap.push _)[W.heap.size]? = _; simp, Nat.le_refl _, by decide, by simp, by simp⟩⟩, rfl, fun i y m hy hm => ?_⟩
  have hi : i = 0 := by
    have := (List.getElem?_eq_some_iff.1 hy).1
    simp at this
    exact this
  subst hi
  obtain rfl : x = y := by simpa using hy
  obtain rfl : l = m := by simpa using hm
  refine ⟨hx.gr (bel_alloc _ _), h1, fun hl b hb e => ?_⟩
  have := boolr_lt hx hl b hb
  have e2 : b = W.heap.size := by simpa [Value.ownBlock] using e
  omega
/-- one row more -/
theorem bws_step {W u w6 : World} {v x : Value} {ll : List (List Bool)} {l : List Bool} {us : List Value} {g cap : Nat} (h : BwsU W v us ll u)
    (hx : BoolR u x l) (h1 : x.oneCell' = true) (hsep : l ≠ [] → ∀ b, x.ownBlock = some b → some b ≠ v.ownBlock) (hgrow : u.grownBy w6 v.ownBlock) (hor : v.ownBlock = some g ∨ g = u.heap.size) (hown : w6.ownsRow W.heap.size 44 1 (.slice (some ⟨g, 0, none⟩) (ll.length + 1) cap) (ll.length + 1) (us ++ [x])) :
    BwsU W (.slice (some ⟨g, 0, none⟩) (ll.length + 1) cap) (us ++ [x]) (ll ++ [l]) w6 := by
  obtain ⟨h0, ho, hl, hr⟩ := h
  have hnew : ∀ (y : Value) (m : List Bool), BoolR u y m → (m ≠ [] → ∀ b, y.ownBlock = some b → some b ≠ v.ownBlock) → m ≠ [] → ∀ b, y.ownBlock = some b → some b ≠ (Value.slice (some ⟨g, 0, none⟩) (ll.length + 1) cap).ownBlock := fun y m hy hs hm b hb e => by
    have e2 : b = g := by simpa [Value.ownBlock] using e
    subst e2
    rcases hor with h | h
    · exact hs hm b hb h.symm
    · have := boolr_lt hy hm b hb
      omega
  refine ⟨Below.grown h0 hgrow h0.size (fun k hk => (ho.lt k hk).1), by rw [List.length_append]; exact hown, by simp [hl], fun i y m hy hm => ?_⟩
  by_cases e : i < ll.length
  · rw [List.getElem?_append_left (by omega)] at hy hm
    obtain ⟨k1, k2, k3⟩ := hr i y m hy hm
    exact ⟨boolr_far k1 hgrow k3, k2, hnew y m k1 k3⟩
  · have hi := (List.getElem?_eq_some_iff.1 hm).1
    rw [List.length_append, List.length_singleton] at hi
    obtain rfl : i = ll.length := by omega
    rw [List.getElem?_append_right (by omega), hl, Nat.sub_self] at hy
    rw [List.getElem?_append_right (by omega), Nat.sub_self] at hm
    obtain rfl : x = y := by simpa using hy
    obtain rfl : l = m := by simpa using hm
    exact ⟨boolr_far hx hgrow hsep, h1, hnew x l hx hsep⟩
end Go.Proofs.Ytmnblcnhbafcpaa
