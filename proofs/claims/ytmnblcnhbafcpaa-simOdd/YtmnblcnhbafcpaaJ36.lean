/-
  ROWS OF ROWS IN MEMORY.
-/
import Derived.Test.YtmnblcnhbafcpaaJ35
import Derived.Test.YtmnblcnhbafcpaaJ16
import Derived.Test.YtmnblcnhbafcpaaJ30
import Derived.Deep.AppendLies
namespace Go.Proofs.Ytmnblcnhbafcpaa
open Go.RowKit
open NetM

theorem info42 : (Try.prog.info? 42).map (fun i => (i.zero, i.size, i.bytes)) = some (some (.slice none 0 0), 1, 24) := by kernel_rfl
/-- rows of numbers, one behind the other -/
def RwsP (w : World) (A : Option Addr) (ll : List (List Int)) : Prop := ∀ (i : Nat) (l : List Int), ll[i]? = some l → ∃ b off u, A = some ⟨b, off, none⟩ ∧ b < w.heap.size ∧ w.cell? ⟨b, off + i, none⟩ = some u ∧ IntR w u l
def RwsR (w : World) (v : Value) (ll : List (List Int)) : Prop := ∃ A c, v = .slice A ll.length c ∧ ll.length ≤ c ∧ RwsP w A ll
theorem cell_up {w u : World} {b o : Nat} {v : Value} (hu : Gr w u) (hb : b < w.heap.size) (hv : w.cell? ⟨b, o, none⟩ = some v) : u.cell? ⟨b, o, none⟩ = some v := by
  rw [hu.cell (p := ⟨b, o, none⟩) hb]
  exact hv
theorem RwsP.gr {w u : World} {A : Option Addr} {ll : List (List Int)} (h : RwsP w A ll) (hu : Gr w u) : RwsP u A ll := fun i l hi => by
  obtain ⟨b, off, x, e, hb, hc, hr⟩ := h i l hi
  exact ⟨b, off, x, e, Nat.lt_of_lt_of_le hb hu.size, cell_up hu hb hc, hr.gr hu⟩
theorem RwsR.gr {w u : World} {v : Value} {ll : List (List Int)} (h : RwsR w v ll) (hu : Gr w u) : RwsR u v ll := by
  obtain ⟨A, c, e, hc, hr⟩ := h
  exact ⟨A, c, e, hc, hr.gr hu⟩
/-- a row keeps where another row of one's own has grown -/
theorem intr_far {u w6 : World} {v y : Value} {m : List Int} (h : IntR u y m) (hgrow : u.grownBy w6 v.ownBlock) (hne : m ≠ [] → ∀ b, y.ownBlock = some b → some b ≠ v.ownBlock) : IntR w6 y m := by
  obtain ⟨A, c, rfl, hc, hi⟩ := h
  refine ⟨A, c, rfl, hc, fun i s hs => ?_⟩
  obtain ⟨b, off, rfl, hb, hcell⟩ := hi i s hs
  have hm : m ≠ [] := fun e => by rw [e] at hs; simp at hs
  refine ⟨b, off, rfl, Nat.lt_of_lt_of_le hb hgrow.size, ?_⟩
  rw [World.cell?_of_block (a := ⟨b, off + i, none⟩) (hgrow.block b hb (hne hm b rfl))]
  exact hcell
/-- a row of one's own whose cells are rows; none of these lies in its block -/
def RwsU (W : World) (v : Value) (us : List Value) (ll : List (List Int)) (u : World) : Prop := Gr W u ∧ u.ownsRow W.heap.size 42 1 v ll.length us ∧ us.length = ll.length ∧ ∀ (i : Nat) (x : Value) (l : List Int), us[i]? = some x → ll[i]? = some l → IntR u x l ∧ x.oneCell' = true ∧ (l ≠ [] → ∀ b, x.ownBlock = some b → some b ≠ v.ownBlock)
theorem rws_own {W u : World} {v : Value} {us : List Value} {ll : List (List Int)} (h : RwsU W v us ll u) : RwsR u v ll := by
  obtain ⟨hg, ho, hl, hr⟩ := h
  have ho' := ho
  rcases ho.2 with ⟨rfl, h0⟩ | ⟨g, cap, cur, rfl, hb, hh, hn, hc, hsz, ht⟩
  · have e : ll = [] := List.eq_nil_of_length_eq_zero h0
    subst e
    exact ⟨none, 0, rfl, Nat.le_refl _, fun i l hi => by simp at hi⟩
  · refine ⟨some ⟨g, 0, none⟩, cap, rfl, hn, fun i l hi => ?_⟩
    have hil := (List.getElem?_eq_some_iff.1 hi).1
    have hui : us[i]? = some us[i] := List.getElem?_eq_getElem (by omega)
    refine ⟨g, 0, us[i], rfl, (Array.getElem?_eq_some_iff.1 hh).1, ?_, (hr i _ l hui hi).1⟩
    have := ho'.cellAt i (by omega)
    rw [Nat.zero_add, this]
    exact hui
theorem RwsU.gr {W u u' : World} {v : Value} {us : List Value} {ll : List (List Int)} (h : RwsU W v us ll u) (hg : Gr u u') : RwsU W v us ll u' := by
  obtain ⟨h1, ho, hl, hr⟩ := h
  refine ⟨Gr.trans h1 hg, ?_, hl, fun i x l hx hl => ⟨(hr i x l hx hl).1.gr hg, (hr i x l hx hl).2⟩⟩
  exact ho.kept (row := none) ⟨hg.os, hg.tape, hg.output, hg.size, fun i hi _ => hg.block i hi⟩ (Classical.em _)
theorem rws_nil (W : World) : RwsU W (.slice none 0 0) [] [] W := ⟨Gr.refl _, World.ownsRow_nil _ _ _ _, rfl, fun i x l hx _ => by simp at hx⟩
theorem intr_lt {u : World} {x : Value} {l : List Int} (h : IntR u x l) (hl : l ≠ []) : ∀ b, x.ownBlock = some b → b < u.heap.size := fun b hb => by
  obtain ⟨A, c, rfl, hc, hi⟩ := h
  obtain ⟨s, hs0⟩ : ∃ s, l[0]? = some s := by
    cases l with
    | nil => exact absurd rfl hl
    | cons s r => exact ⟨s, rfl⟩
  obtain ⟨b', off, rfl, hb', -⟩ := hi 0 s hs0
  have e3 : b' = b := by simpa [Value.ownBlock] using hb
  omega
/-- the first row, in a block of its own -/
theorem rws_one {W : World} {x : Value} {l : List Int} (hx : IntR W x l) (h1 : x.oneCell' = true) : RwsU W (.slice (some ⟨W.heap.size, 0, none⟩) 1 1) [x] [l] (W.alloc (.cells #[x] 42)) := by
  refine ⟨bel_alloc _ _, ⟨by simp, .inr ⟨W.heap.size, 1, #[x], rfl, Nat.le_refl _, by show (W.heap.push _)[W.heap.size]? = _; simp, Nat.le_refl _, by decide, by simp, by simp⟩⟩, rfl, fun i y m hy hm => ?_⟩
  have hi : i = 0 := by
    have := (List.getElem?_eq_some_iff.1 hy).1
    simp at this
    exact this
  subst hi
  obtain rfl : x = y := by simpa using hy
  obtain rfl : l = m := by simpa using hm
  refine ⟨hx.gr (bel_alloc _ _), h1, fun hl b hb e => ?_⟩
  have := intr_lt hx hl b hb
  have e2 : b = W.heap.size := by simpa [Value.ownBlock] using e
  omega
/-- one row more -/
theorem rws_step {W u w6 : World} {v x : Value} {ll : List (List Int)} {l : List Int} {us : List Value} {g cap : Nat} (h : RwsU W v us ll u)
    (hx : IntR u x l) (h1 : x.oneCell' = true) (hsep : l ≠ [] → ∀ b, x.ownBlock = some b → some b ≠ v.ownBlock) (hgrow : u.grownBy w6 v.ownBlock) (hor : v.ownBlock = some g ∨ g = u.heap.size) (hown : w6.ownsRow W.heap.size 42 1 (.slice (some ⟨g, 0, none⟩) (ll.length + 1) cap) (ll.length + 1) (us ++ [x])) :
    RwsU W (.slice (some ⟨g, 0, none⟩) (ll.length + 1) cap) (us ++ [x]) (ll ++ [l]) w6 := by
  obtain ⟨h0, ho, hl, hr⟩ := h
  have hnew : ∀ (y : Value) (m : List Int), IntR u y m → (m ≠ [] → ∀ b, y.ownBlock = some b → some b ≠ v.ownBlock) → m ≠ [] → ∀ b, y.ownBlock = some b → some b ≠ (Value.slice (some ⟨g, 0, none⟩) (ll.length + 1) cap).ownBlock := fun y m hy hs hm b hb e => by
    have e2 : b = g := by simpa [Value.ownBlock] using e
    subst e2
    rcases hor with h | h
    · exact hs hm b hb h.symm
    · have := intr_lt hy hm b hb
      omega
  refine ⟨Below.grown h0 hgrow h0.size (fun k hk => (ho.lt k hk).1), by rw [List.length_append]; exact hown, by simp [hl], fun i y m hy hm => ?_⟩
  by_cases e : i < ll.length
  · rw [List.getElem?_append_left (by omega)] at hy hm
    obtain ⟨k1, k2, k3⟩ := hr i y m hy hm
    exact ⟨intr_far k1 hgrow k3, k2, hnew y m k1 k3⟩
  · have hi := (List.getElem?_eq_some_iff.1 hm).1
    rw [List.length_append, List.length_singleton] at hi
    obtain rfl : i = ll.length := by omega
    rw [List.getElem?_append_right (by omega), hl, Nat.sub_self] at hy
    rw [List.getElem?_append_right (by omega), Nat.sub_self] at hm
    obtain rfl : x = y := by simpa using hy
    obtain rfl : l = m := by simpa using hm
    exact ⟨intr_far hx hgrow hsep, h1, hnew x l hx hsep⟩
end Go.Proofs.Ytmnblcnhbafcpaa
