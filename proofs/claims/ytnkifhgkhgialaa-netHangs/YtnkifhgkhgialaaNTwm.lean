/-
  A NET WITH A COPY OF ONE OF ITS NODES, PLAIN.
-/
import Derived.Test.YtnkifhgkhgialaaNMap
namespace Go.Proofs.Ytnkifhgkhgialaa
open Go.RowKit
open NetM

theorem ndOk_mono {l r : List Nd} {x : Nd} (h : NdOk l x) : NdOk (l ++ r) x := by
  obtain ⟨k, n, lo, f, hr, h1, h2, h3, h4, h5⟩ := h
  obtain ⟨hk, -, f59, f60, f61⟩ := rule_cases hr
  have ho : ∀ j, j < k → opd (l ++ r) x j = opd l x j := fun j hj => by
    have h6 := (h3 j (by omega)).2 hj
    obtain ⟨p, y, e, hy, hp⟩ := opd_pos (l := l) (i := plc x j) h6
    unfold opd
    rw [e]
    exact widA_app (by omega) (by omega)
  refine ⟨k, n, lo, f, hr, h1, h2, fun j hj => ⟨(h3 j hj).1, fun hjk => by rw [ho j hjk]; exact (h3 j hj).2 hjk⟩, h4, ?_⟩
  obtain ⟨g1, g2, g3, g4, g5, g6⟩ := h5
  refine ⟨g1, fun e j hj => by rw [ho j hj]; exact g2 e j hj, fun e => ⟨(g3 e).1, fun j hj => by rw [ho j hj]; exact (g3 e).2 j hj⟩, fun e => ?_, fun e => ?_, fun e => ?_⟩
  · have := f59 e
    rw [ho 0 (by omega), ho 1 (by omega), ho 2 (by omega)]
    exact g4 e
  · have := f60 e
    rw [ho 0 (by omega), ho 1 (by omega)]
    exact g5 e
  · have := f61 e
    rw [ho 0 (by omega)]
    exact g6 e
theorem copy_ok {l : List Nd} {y : Nd} {k : Nat} (hR : NdsOk l) (hy : l[k]? = some y) : NdOk l y := by
  have h := ndOk_mono (r := l.drop k) (hR k y hy)
  rwa [List.take_append_drop] at h
theorem evL_pre (nodes : List Nd) (st ins : List Nat) {k : Nat} : ∀ m, k ≤ m → m ≤ nodes.length → ∃ t, evL nodes st ins m = evL nodes st ins k ++ t
  | 0, h, _ => ⟨[], by obtain rfl : k = 0 := by omega
                       simp⟩
  | m + 1, h, hl => by
    by_cases e : k = m + 1
    · subst e
      exact ⟨[], by simp⟩
    · obtain ⟨t, ht⟩ := evL_pre nodes st ins (k := k) m (by omega) (by omega)
      have hx : nodes[m]? = some nodes[m] := List.getElem?_eq_getElem (by omega)
      rw [evL_step hx]
      exact ⟨t ++ [ev1 nodes st ins m (evL nodes st ins m) nodes[m]], by rw [← List.append_assoc, ← ht]⟩
theorem getN_app {a b : List Nat} {i : Int} (h0 : 0 ≤ i) (h : i < (a.length : Int)) : getN (a ++ b) i = getN a i := by
  unfold getN
  rw [if_neg (by omega), if_neg (by omega), List.getElem?_append_left (by omega)]
theorem ev_copy {n : Nt} {y : Nd} {k : Nat} (hR : NdsOk n.nodes) (st ins : List Nat) (hy : n.nodes[k]? = some y) (h21 : y.op ≠ 21) (h22 : y.op ≠ 22) :
    (evAll n st ins)[k]? = some (ev1 (n.nodes ++ [y]) st ins n.nodes.length (evAll n st ins) y) := by
  have hk := (List.getElem?_eq_some_iff.1 hy).1
  have hl : (evL n.nodes st ins k).length = k := evL_len _ _ _ _ (by omega)
  obtain ⟨t, ht⟩ := evL_pre n.nodes st ins (k := k + 1) n.nodes.length (by omega) (Nat.le_refl _)
  unfold evAll
  rw [ht, evL_step hy, List.append_assoc, List.getElem?_append_right (by omega), hl, Nat.sub_self]
  simp only [List.singleton_append, List.getElem?_cons_zero, Option.some.injEq]
  unfold ev1
  rw [if_neg h21, if_neg h22, if_neg h21, if_neg h22]
  have hh := hR k y hy
  by_cases hk0 : k = 0
  · subst hk0
    have hop : y.op = 1 := by
      obtain ⟨q, bn, bl, f, hr, g1, g2, g3, -⟩ := hh
      have hq : q = 0 := by
        refine Classical.byContradiction fun hq => ?_
        have h4 := (g3 0 (by decide)).2 (by omega)
        unfold opd at h4
        obtain ⟨p, z, _, _, hp⟩ := opd_pos h4
        simp at hp
      subst hq
      unfold ruleOf at hr
      repeat' split at hr
      all_goals
        simp only [Option.some.injEq, Prod.mk.injEq, reduceCtorEq] at hr
      all_goals first
        | assumption
        | omega
        | exact hr.1.elim
    rw [hop]
    rfl
  · have hp := node_plc hh (by omega) (by omega)
    have pa := hp 0 (by decide)
    have pb := hp 1 (by decide)
    have pc := hp 2 (by decide)
    have ea : plc y 0 = y.a := rfl
    have eb : plc y 1 = y.b := rfl
    have ec : plc y 2 = y.c := rfl
    rw [ea] at pa
    rw [eb] at pb
    rw [ec] at pc
    rw [widA_app (l := n.nodes) pb.1 (by omega), getN_app (a := evL n.nodes st ins k) pa.1 (by omega), getN_app (a := evL n.nodes st ins k) pb.1 (by omega), getN_app (a := evL n.nodes st ins k) pc.1 (by omega)]
/-- a cell whose Next is a place, sent on to another -/
def nxC (k z : Nat) (c : Ce) : Ce := if c.next = (k : Int) then ⟨c.s, c.node, (z : Int), c.reset⟩ else c
theorem nxC_node (k z : Nat) (c : Ce) : (nxC k z c).node = c.node := by unfold nxC; split <;> rfl
theorem nxC_reset (k z : Nat) (c : Ce) : (nxC k z c).reset = c.reset := by unfold nxC; split <;> rfl
theorem nxC_nodes (k z : Nat) (cs : List Ce) : (cs.map (nxC k z)).map Ce.node = cs.map Ce.node := by
  rw [List.map_map]
  exact List.map_congr_left fun c _ => nxC_node k z c
theorem nxC_resets (k z : Nat) (cs : List Ce) : (cs.map (nxC k z)).map Ce.reset = cs.map Ce.reset := by
  rw [List.map_map]
  exact List.map_congr_left fun c _ => nxC_reset k z c
theorem nxC_ok {n : Nt} {y : Nd} {k : Nat} (hR : NRight n) (hy : n.nodes[k]? = some y) : ∀ c ∈ n.cells.map (nxC k n.nodes.length), CellOk (n.nodes ++ [y]) c := fun c hc => by
  obtain ⟨d, hd, rfl⟩ := List.mem_map.1 hc
  obtain ⟨ck1, ck2, ck3⟩ := hR.2.2.1.2.1 d hd
  obtain ⟨⟨i1, i2⟩, i3, i4⟩ := cell_in hR d hd
  unfold CellOk
  rw [nxC_node, nxC_reset, widA_app i1 i2]
  refine ⟨?_, ck2, ck3⟩
  rw [← ck1]
  unfold nxC
  split
  · rename_i e
    show widA (n.nodes ++ [y]) (n.nodes.length : Nat) = widA n.nodes d.next
    rw [e, widA_some hy, widA_some (x := y) (by simp)]
  · exact widA_app i3 i4
theorem nxC_vals {n : Nt} {ev : List Nat} {z k : Nat} (hR : NRight n) (hl : ev.length = n.nodes.length) (hz : ev[k]? = some z) :
    ((n.cells.map (nxC k n.nodes.length)).map fun c => getA (ofN (ev ++ [z])) c.next) = n.cells.map fun c => getA (ofN ev) c.next := by
  rw [List.map_map]
  refine List.map_congr_left fun c hc => ?_
  obtain ⟨-, i3, i4⟩ := cell_in hR c hc
  show getA (ofN (ev ++ [z])) (nxC k n.nodes.length c).next = _
  unfold nxC
  split
  · rename_i e
    show getA (ofN (ev ++ [z])) (n.nodes.length : Nat) = getA (ofN ev) c.next
    rw [e, getA_some (x := (z : Int)) (by rw [ofN_snoc, List.getElem?_append_right (by rw [ofN_len]; omega), ofN_len, hl]; simp), getA_some (ofN_at hz)]
  · rw [ofN_snoc]
    exact getA_app i3 (by rw [ofN_len]; omega)
/-- a row whose first places are changed -/
def mixC (f : Ce → Ce) (l : List Ce) (j : Nat) : List Ce := (l.take j).map f ++ l.drop j
theorem mix_len (f : Ce → Ce) (l : List Ce) (j : Nat) : (mixC f l j).length = l.length := by
  unfold mixC
  rw [List.length_append, List.length_map, List.length_take, List.length_drop]
  omega
theorem mix_at {f : Ce → Ce} {l : List Ce} {j : Nat} {c : Ce} (h : l[j]? = some c) : (mixC f l j)[j]? = some c := by
  have := (List.getElem?_eq_some_iff.1 h).1
  have e : ((l.take j).map f).length = j := by rw [List.length_map, List.length_take]; omega
  unfold mixC
  rw [List.getElem?_append_right (by omega), e, Nat.sub_self, List.getElem?_drop]
  exact h
theorem mix_step {f : Ce → Ce} {l : List Ce} {j : Nat} {c : Ce} (h : l[j]? = some c) : (mixC f l j).set j (f c) = mixC f l (j + 1) := by
  have hj := (List.getElem?_eq_some_iff.1 h).1
  have e : ((l.take j).map f).length = j := by rw [List.length_map, List.length_take]; omega
  unfold mixC
  rw [List.set_append_right _ _ (by omega), e, Nat.sub_self, List.take_add_one, h, List.drop_eq_getElem_cons hj, List.set_cons_zero, List.map_append]
  simp
theorem mix_same {f : Ce → Ce} {l : List Ce} {j : Nat} {c : Ce} (h : l[j]? = some c) (hf : f c = c) : mixC f l j = mixC f l (j + 1) := by
  have hj := (List.getElem?_eq_some_iff.1 h).1
  have e2 : c = l[j] := by rw [List.getElem?_eq_getElem hj] at h; exact (Option.some.inj h).symm
  unfold mixC
  rw [List.take_add_one, h, List.drop_eq_getElem_cons hj, List.map_append]
  simp [hf, ← e2]
theorem mix_all (f : Ce → Ce) (l : List Ce) : mixC f l l.length = l.map f := by unfold mixC; simp
end Go.Proofs.Ytnkifhgkhgialaa
