/-
  THE FIRST NODES OF A NET, A NET OF THEIR OWN, PLAIN.
-/
import Derived.Test.YtnkifhgkhgialaaNTwm
namespace Go.Proofs.Ytnkifhgkhgialaa
open Go.RowKit
open NetM

theorem take_pre {α : Type} (key : α → Int) (L : Int) : ∀ (l : List α) (P Q : List Int), l.map key = P ++ Q → (∀ p ∈ P, p < L) → (∀ q ∈ Q, L ≤ q) → l.filter (fun x => decide (key x < L)) = l.take P.length
  | [], P, Q, h, _, _ => by simp
  | x :: r, [], Q, h, _, hQ => by
    rw [List.length_nil, List.take_zero, List.filter_eq_nil_iff]
    intro y hy
    have h1 : key y ∈ Q := by
      rw [List.nil_append] at h
      rw [← h]
      exact List.mem_map.2 ⟨y, hy, rfl⟩
    have := hQ _ h1
    simp only [decide_eq_true_eq]
    omega
  | x :: r, p :: P, Q, h, hP, hQ => by
    simp only [List.map_cons, List.cons_append, List.cons.injEq] at h
    obtain ⟨rfl, h⟩ := h
    have h1 := hP (key x) (List.mem_cons_self ..)
    rw [List.filter_cons_of_pos (by simpa using h1), List.length_cons, List.take_succ_cons, take_pre key L r P Q h (fun p hp => hP p (List.mem_cons_of_mem _ hp)) hQ]
theorem places_cut {l : List Nd} {op : Int} {L : Nat} (hL : L ≤ l.length) : ∃ Q, places l op = places (l.take L) op ++ Q ∧ (∀ p ∈ places (l.take L) op, p < (L : Int)) ∧ ∀ q ∈ Q, (L : Int) ≤ q := by
  refine ⟨placesF op (l.drop L) (0 + (l.take L).length), ?_, fun p hp => ?_, fun q hq => ?_⟩
  · unfold places
    rw [← placesF_append, List.take_append_drop]
  · obtain ⟨k, x, rfl, hx, -⟩ := places_mem hp
    have := (List.getElem?_eq_some_iff.1 hx).1
    rw [List.length_take] at this
    omega
  · obtain ⟨k, x, e, _, _⟩ := placesF_mem op _ _ q hq
    rw [List.length_take] at e
    omega
theorem nds_left {l r : List Nd} (h : NdsOk (l ++ r)) : NdsOk l := fun i x hx => by
  have hi := (List.getElem?_eq_some_iff.1 hx).1
  have h1 := h i x (by rw [List.getElem?_append_left hi]; exact hx)
  rwa [List.take_append_of_le_length (by omega)] at h1
theorem evL_left : ∀ (r l : List Nd), NdsOk (l ++ r) → ∀ (st ins : List Nat) (k : Nat), k ≤ l.length → evL (l ++ r) st ins k = evL l st ins k
  | [], l, h, st, ins, k, hk => by rw [List.append_nil]
  | y :: r, l, h, st, ins, k, hk => by
    have e : l ++ y :: r = (l ++ [y]) ++ r := by simp
    rw [e] at h ⊢
    rw [evL_left r (l ++ [y]) h st ins k (by simp; omega), evL_app (nds_left (nds_left h)) st ins k hk]
theorem cnt_mono (op : Int) (l : List Nd) (k : Nat) : cnt op (l.take k) ≤ cnt op l := by
  obtain ⟨r, hr⟩ := places_split l op k
  unfold cnt
  rw [hr, List.length_append]
  omega
theorem evL_rows {l : List Nd} {st ins st' ins' : List Nat} (hs : ∀ i : Nat, i < cnt 22 l → getN st' (i : Nat) = getN st (i : Nat)) (hi : ∀ i : Nat, i < cnt 21 l → getN ins' (i : Nat) = getN ins (i : Nat)) : ∀ k, k ≤ l.length → evL l st' ins' k = evL l st ins k
  | 0, _ => rfl
  | k + 1, hk => by
    have hx : l[k]? = some l[k] := List.getElem?_eq_getElem (by omega)
    generalize l[k] = x at hx
    rw [evL_step hx, evL_step hx, evL_rows hs hi k (by omega)]
    have e : ev1 l st' ins' k (evL l st ins k) x = ev1 l st ins k (evL l st ins k) x := by
      unfold ev1
      by_cases h21 : x.op = 21
      · have h1 := cnt_step (op := 21) hx
        have h2 := cnt_mono 21 l (k + 1)
        rw [if_pos h21] at h1
        rw [if_pos h21, if_pos h21, hi _ (by omega)]
      · rw [if_neg h21, if_neg h21]
        by_cases h22 : x.op = 22
        · have h1 := cnt_step (op := 22) hx
          have h2 := cnt_mono 22 l (k + 1)
          rw [if_pos h22] at h1
          rw [if_pos h22, if_pos h22, hs _ (by omega)]
        · rw [if_neg h22, if_neg h22]
    rw [e]
theorem getN_take {l : List Nat} {c i : Nat} (h : i < c) : getN (l.take c) (i : Nat) = getN l (i : Nat) := by
  rw [getN_nat, getN_nat, List.getElem?_take, if_pos h]
/-- a cell that stays as it is -/
def selfC (c : Ce) : Ce := ⟨c.s, c.node, c.node, c.reset⟩
def preI (L : Nat) (p : Pn) : Bool := decide (p.node < (L : Int))
def preC (L : Nat) (c : Ce) : Bool := decide (c.node < (L : Int))
/-- the first nodes of a net -/
def cutN (n : Nt) (L : Nat) : Nt := ⟨n.nodes.take L, n.ins.filter (preI L), (n.cells.filter (preC L)).map selfC, [], []⟩
section
variable {n : Nt} {L : Nat} (hR : NRight n) (hL : L ≤ n.nodes.length)
include hR hL
theorem cut_ins : n.ins.filter (preI L) = n.ins.take (cnt 21 (n.nodes.take L)) := by
  obtain ⟨Q, h1, h2, h3⟩ := places_cut (l := n.nodes) (op := 21) hL
  exact take_pre Pn.node L n.ins _ Q (by rw [hR.2.1.2, h1]) h2 h3
theorem cut_cells : n.cells.filter (preC L) = n.cells.take (cnt 22 (n.nodes.take L)) := by
  obtain ⟨Q, h1, h2, h3⟩ := places_cut (l := n.nodes) (op := 22) hL
  exact take_pre Ce.node L n.cells _ Q (by rw [hR.2.2.1.1, h1]) h2 h3
theorem cut_inp : (n.ins.take (cnt 21 (n.nodes.take L))).map Pn.node = places (n.nodes.take L) 21 := by
  obtain ⟨Q, h1, -, -⟩ := places_cut (l := n.nodes) (op := 21) hL
  rw [List.map_take, hR.2.1.2, h1]
  unfold cnt
  rw [List.take_left']
  rfl
theorem cut_cep : (n.cells.take (cnt 22 (n.nodes.take L))).map Ce.node = places (n.nodes.take L) 22 := by
  obtain ⟨Q, h1, -, -⟩ := places_cut (l := n.nodes) (op := 22) hL
  rw [List.map_take, hR.2.2.1.1, h1]
  unfold cnt
  rw [List.take_left']
  rfl
theorem cut_lenI : (n.ins.filter (preI L)).length = cnt 21 (n.nodes.take L) := by
  rw [cut_ins hR hL, ← List.length_map Pn.node, cut_inp hR hL]
  rfl
theorem cut_lenC : (n.cells.filter (preC L)).length = cnt 22 (n.nodes.take L) := by
  rw [cut_cells hR hL, ← List.length_map Ce.node, cut_cep hR hL]
  rfl
omit hR in
theorem wid_cut {i : Int} (h0 : 0 ≤ i) (h : i < (L : Int)) : widA (n.nodes.take L) i = widA n.nodes i := by
  have h1 := widA_app (l := n.nodes.take L) (r := n.nodes.drop L) h0 (by rw [List.length_take]; omega)
  rw [List.take_append_drop] at h1
  exact h1.symm
theorem cut_right : NRight (cutN n L) := by
  have hnd : NdsOk (n.nodes.take L) := nds_left (r := n.nodes.drop L) (by rw [List.take_append_drop]; exact hR.1)
  have hcm : (cutN n L).cells.map Ce.node = places (n.nodes.take L) 22 := by
    show ((n.cells.filter (preC L)).map selfC).map Ce.node = _
    rw [List.map_map, show (Ce.node ∘ selfC) = Ce.node from rfl, cut_cells hR hL]
    exact cut_cep hR hL
  refine ⟨hnd, ⟨?_, ?_⟩, ⟨hcm, fun c hc => ?_, ?_⟩, ⟨(fun p hp => by simp [cutN] at hp), by simp [cutN]⟩, (fun p hp => by simp [cutN] at hp)⟩
  · exact Nat.le_trans (List.length_filter_le _ _) hR.2.1.1
  · show (n.ins.filter (preI L)).map Pn.node = _
    rw [cut_ins hR hL]
    exact cut_inp hR hL
  · obtain ⟨d, hd, rfl⟩ := List.mem_map.1 hc
    obtain ⟨hd1, hd2⟩ := List.mem_filter.1 hd
    have hd3 : d.node < (L : Int) := by simpa [preC] using hd2
    obtain ⟨-, k2, k3⟩ := hR.2.2.1.2.1 d hd1
    have h0 := (cell_in hR d hd1).1.1
    refine ⟨rfl, k2, ?_⟩
    show d.reset ≤ ((2 ^ (widA (n.nodes.take L) d.node).toNat - 1 : Nat) : Int)
    rw [wid_cut hL h0 hd3]
    exact k3
  · obtain ⟨Q, h1, h2, h3⟩ := places_cut (l := n.nodes) (op := 22) hL
    have hb := hR.2.2.1.2.2
    rw [bits_map, hR.2.2.1.1, h1, List.map_append, List.sum_append] at hb
    have hq : ∀ l : List Int, 0 ≤ (l.map (widA n.nodes)).sum := fun l => by
      induction l with
      | nil => simp
      | cons z r ih =>
        have := (widA_ok (wok_of hR.1) z).1
        simp only [List.map_cons, List.sum_cons]
        omega
    have h4 := hq Q
    rw [bits_map, hcm]
    have e : (places (n.nodes.take L) 22).map (widA (cutN n L).nodes) = (places (n.nodes.take L) 22).map (widA n.nodes) := by
      apply List.map_congr_left
      intro p hp
      have h5 := h2 p hp
      obtain ⟨k, x, e, -, -⟩ := places_mem hp
      exact wid_cut hL (by omega) h5
    rw [e]
    omega
theorem cut_ev (st ins : List Nat) : evAll (cutN n L) (st.take (cnt 22 (n.nodes.take L))) (ins.take (cnt 21 (n.nodes.take L))) = (evAll n st ins).take L := by
  have hl : (n.nodes.take L).length = L := by rw [List.length_take]; omega
  have e1 : evAll (cutN n L) (st.take (cnt 22 (n.nodes.take L))) (ins.take (cnt 21 (n.nodes.take L))) = evL (n.nodes.take L) st ins L := by
    unfold evAll
    show evL (n.nodes.take L) _ _ (n.nodes.take L).length = _
    rw [hl]
    exact evL_rows (fun i hi => getN_take hi) (fun i hi => getN_take hi) L (by omega)
  have e2 := evL_left (n.nodes.drop L) (n.nodes.take L) (by rw [List.take_append_drop]; exact hR.1) st ins L (by omega)
  rw [List.take_append_drop] at e2
  obtain ⟨t, ht⟩ := evL_pre n.nodes st ins (k := L) n.nodes.length hL (Nat.le_refl _)
  rw [e1, ← e2]
  unfold evAll
  rw [ht, List.take_left']
  exact evL_len _ _ _ _ hL
theorem cut_stOk {st : List Nat} (h : StOk n st) : StOk (cutN n L) (st.take (cnt 22 (n.nodes.take L))) := fun i c hc => by
  have hc' : ((n.cells.filter (preC L)).map selfC)[i]? = some c := hc
  rw [List.getElem?_map] at hc'
  obtain ⟨d, hd, rfl⟩ := Option.map_eq_some_iff.1 hc'
  have hd2 := List.mem_of_getElem? hd
  obtain ⟨hd3, hd4⟩ := List.mem_filter.1 hd2
  have hd5 : d.node < (L : Int) := by simpa [preC] using hd4
  rw [cut_cells hR hL, List.getElem?_take] at hd
  split at hd
  · rename_i hi
    rw [getN_take hi]
    show getN st (i : Nat) < 2 ^ (widA (n.nodes.take L) d.node).toNat
    rw [wid_cut hL (cell_in hR d hd3).1.1 hd5]
    exact h i d hd
  · cases hd
theorem cut_inOk {ins : List Nat} (h : InOk n ins) : InOk (cutN n L) (ins.take (cnt 21 (n.nodes.take L))) := fun i p hp => by
  have hp' : (n.ins.filter (preI L))[i]? = some p := hp
  obtain ⟨hd3, hd4⟩ := List.mem_filter.1 (List.mem_of_getElem? hp')
  have hd5 : p.node < (L : Int) := by simpa [preI] using hd4
  rw [cut_ins hR hL, List.getElem?_take] at hp'
  split at hp'
  · rename_i hi
    rw [getN_take hi]
    show getN ins (i : Nat) < 2 ^ (widA (n.nodes.take L) p.node).toNat
    obtain ⟨k, z, e, -, -⟩ := places_mem (op := 21) (l := n.nodes) (p := p.node) (by rw [← hR.2.1.2]; exact List.mem_map.2 ⟨p, hd3, rfl⟩)
    rw [wid_cut hL (by omega) hd5]
    exact h i p hp'
  · cases hp'
end
theorem filt_step {α : Type} {f : α → Bool} {l : List α} {j : Nat} {x : α} (h : l[j]? = some x) : (l.take (j + 1)).filter f = (l.take j).filter f ++ (if f x then [x] else []) := by
  rw [List.take_add_one, h, List.filter_append]
  simp only [Option.toList_some, List.filter_cons, List.filter_nil]
end Go.Proofs.Ytnkifhgkhgialaa
