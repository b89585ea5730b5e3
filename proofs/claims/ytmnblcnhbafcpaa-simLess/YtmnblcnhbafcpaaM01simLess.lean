/-
  BEGINNINGS OF ROWS, AND WHERE A PROPERTY OF THE NET IS HIT.
-/
import Derived.Test.YtmnblcnhbafcpaaJ57
import Derived.Test.YtmnblcnhbafcpaaJ47
import Derived.Test.YtmnblcnhbafcpaaJ27
import Derived.Test.YtmnblcnhbafcpaaJ28
import Derived.Test.YtmnblcnhbafcpaaJ48
import Derived.Test.YtmnblcnhbafcpaaJ32
namespace Go.Proofs.Ytmnblcnhbafcpaa
open Go.RowKit
open NetM
open VecM

theorem cell_lt {w : World} {b o : Nat} {v : Value} (h : w.cell? ⟨b, o, none⟩ = some v) : b < w.heap.size := by
  apply Classical.byContradiction
  intro hb
  have e : w.heap[b]? = none := Array.getElem?_eq_none (by omega)
  simp [World.cell?, e] at h
theorem rws_take {w : World} {A : Option Addr} {L c k : Nat} {ll : List (List Int)} (h : RwsR w (.slice A L c) ll) (hk : k ≤ ll.length) : RwsR w (.slice A k c) (ll.take k) := by
  obtain ⟨A', c', e, hc, hi⟩ := h
  simp only [Value.slice.injEq] at e
  obtain ⟨rfl, -, rfl⟩ := e
  have hl : (ll.take k).length = k := by rw [List.length_take]; omega
  refine ⟨A, c, by rw [hl], by rw [hl]; omega, fun i l h1 => hi i l ?_⟩
  have hik : i < k := by
    have := (List.getElem?_eq_some_iff.1 h1).1
    omega
  rwa [List.getElem?_take_of_lt hik] at h1
theorem bws_take {w : World} {A : Option Addr} {L c k : Nat} {ll : List (List Bool)} (h : BwsR w (.slice A L c) ll) (hk : k ≤ ll.length) : BwsR w (.slice A k c) (ll.take k) := by
  obtain ⟨A', c', e, hc, hi⟩ := h
  simp only [Value.slice.injEq] at e
  obtain ⟨rfl, -, rfl⟩ := e
  have hl : (ll.take k).length = k := by rw [List.length_take]; omega
  refine ⟨A, c, by rw [hl], by rw [hl]; omega, fun i l h1 => hi i l ?_⟩
  have hik : i < k := by
    have := (List.getElem?_eq_some_iff.1 h1).1
    omega
  rwa [List.getElem?_take_of_lt hik] at h1
theorem trOk_take {n : Nt} {t : List (List Nat)} (h : TrOk n t) (k : Nat) : TrOk n (t.take k) := fun r hr => h r (List.mem_of_mem_take hr)
theorem hitOf_at {n : Nt} {t : List (List Nat)} {q : Nat} {p : Pr} (hp : n.props[q]? = some p) : hitOf n t (q : Nat) = hitF n t p q 0 t.length := by
  unfold hitOf
  rw [if_neg (by omega)]
  simp [hp]
end Go.Proofs.Ytmnblcnhbafcpaa

/-
  A NET WITH ONE MORE NODE, PLAIN, WALKED.
-/
namespace Go.Proofs.Ytmnblcnhbafcpaa
open Go.RowKit
open NetM

theorem widA_app {l r : List Nd} {i : Int} (h0 : 0 ≤ i) (h : i < (l.length : Int)) : widA (l ++ r) i = widA l i := by
  obtain ⟨k, rfl⟩ : ∃ k : Nat, i = k := ⟨i.toNat, by omega⟩
  have hs : l[k]? = some l[k] := List.getElem?_eq_getElem (by omega)
  rw [widA_some hs, widA_some (by rw [List.getElem?_append_left (by omega)]; exact hs)]
theorem places_app {l : List Nd} {y : Nd} {op : Int} (h : y.op ≠ op) : places (l ++ [y]) op = places l op := by
  unfold places
  rw [placesF_append]
  simp [placesF, h]
theorem nds_app {l : List Nd} {y : Nd} (h : NdsOk l) (hy : NdOk l y) : NdsOk (l ++ [y]) := fun i x hx => by
  by_cases hi : i < l.length
  · rw [List.getElem?_append_left hi] at hx
    rw [List.take_append_of_le_length (by omega)]
    exact h i x hx
  · rw [List.getElem?_append_right (by omega)] at hx
    have hi2 : i - l.length = 0 := by
      have := (List.getElem?_eq_some_iff.1 hx).1
      simp at this
      omega
    rw [hi2] at hx
    obtain rfl : y = x := by simpa using hx
    have e : i = l.length := by omega
    rw [e, List.take_left']
    · exact hy
    · rfl
theorem node_plc {l : List Nd} {x : Nd} {k : Nat} (h : NdOk (l.take k) x) (hk : 0 < k) (hkl : k ≤ l.length) : ∀ j, j < 3 → 0 ≤ plc x j ∧ plc x j < (k : Int) := by
  intro j hj
  obtain ⟨q, bn, bl, f, hr, h1, h2, h3, -⟩ := h
  by_cases hq : q ≤ j
  · rw [(h3 j hj).1 hq]
    omega
  · have h4 := (h3 j hj).2 (by omega)
    unfold opd at h4
    obtain ⟨p, y, e, _, hp⟩ := opd_pos h4
    rw [List.length_take] at hp
    omega
theorem evL_app {l : List Nd} {y : Nd} (hR : NdsOk l) (st ins : List Nat) : ∀ k, k ≤ l.length → evL (l ++ [y]) st ins k = evL l st ins k
  | 0, _ => rfl
  | k + 1, hk => by
    have hx : l[k]? = some l[k] := List.getElem?_eq_getElem (by omega)
    generalize l[k] = x at hx
    have hx' : (l ++ [y])[k]? = some x := by rw [List.getElem?_append_left (by omega)]; exact hx
    rw [evL_step hx, evL_step hx', evL_app hR st ins k (by omega)]
    have e : ev1 (l ++ [y]) st ins k (evL l st ins k) x = ev1 l st ins k (evL l st ins k) x := by
      have hb : widA (l ++ [y]) x.b = widA l x.b := by
        by_cases hk0 : k = 0
        · subst hk0
          have hh := hR 0 x hx
          obtain ⟨q, bn, bl, f, hr, h1, h2, h3, -⟩ := hh
          have : x.b = 0 := by
            by_cases hq : q ≤ 1
            · exact (h3 1 (by decide)).1 hq
            · have h4 := (h3 1 (by decide)).2 (by omega)
              unfold opd at h4
              obtain ⟨p, z, _, _, hp⟩ := opd_pos h4
              simp at hp
          rw [this]
          exact widA_app (by omega) (by omega)
        · have := node_plc (hR k x hx) (by omega) (by omega) 1 (by decide)
          have h2 : plc x 1 = x.b := rfl
          exact widA_app (by omega) (by omega)
      unfold ev1
      rw [hb, List.take_append_of_le_length (by omega)]
    rw [e]
theorem evAll_app {n : Nt} {y : Nd} (hR : NdsOk n.nodes) (st ins : List Nat) (cs : List Ce) (ps : List Pr) (ns : List Pn) :
    evAll ⟨n.nodes ++ [y], n.ins, cs, ps, ns⟩ st ins = evAll n st ins ++ [ev1 (n.nodes ++ [y]) st ins n.nodes.length (evAll n st ins) y] := by
  unfold evAll
  show evL (n.nodes ++ [y]) st ins (n.nodes ++ [y]).length = _
  rw [List.length_append, List.length_singleton, evL_step (x := y) (by simp), evL_app hR st ins _ (Nat.le_refl _)]
theorem bits_map (l : List Nd) (cs : List Ce) : bitsOf l cs = ((cs.map Ce.node).map (widA l)).sum := by
  unfold bitsOf
  rw [List.map_map]
  rfl
theorem cell_in {n : Nt} (hR : NRight n) : ∀ c ∈ n.cells, (0 ≤ c.node ∧ c.node < (n.nodes.length : Int)) ∧ 0 ≤ c.next ∧ c.next < (n.nodes.length : Int) := fun c hc => by
  have hw := wok_of hR.1
  have h1 := cell_there hw hR.2.2.1.1 c hc
  refine ⟨(there_pos hw _).1 h1, (there_pos hw _).1 ?_⟩
  rw [(hR.2.2.1.2.1 c hc).1]
  exact h1
theorem right_app {n : Nt} {y : Nd} (hR : NRight n) (hy : NdOk n.nodes y) (h21 : y.op ≠ 21) (h22 : y.op ≠ 22) (cs : List Ce) (ps : List Pr) (ns : List Pn) (hm : cs.map Ce.node = n.cells.map Ce.node) (hok : ∀ c ∈ cs, CellOk (n.nodes ++ [y]) c)
    (hp : ∀ p ∈ ps, p ∈ n.props) (hpl : ps.length ≤ 16) (hn : ∀ p ∈ ns, p ∈ n.names) : NRight ⟨n.nodes ++ [y], n.ins, cs, ps, ns⟩ := by
  refine ⟨nds_app hR.1 hy, ⟨hR.2.1.1, ?_⟩, ⟨?_, hok, ?_⟩, ⟨fun p hpp => ?_, hpl⟩, fun p hpp => ?_⟩
  · show _ = places (n.nodes ++ [y]) 21
    rw [places_app h21]
    exact hR.2.1.2
  · show cs.map Ce.node = places (n.nodes ++ [y]) 22
    rw [places_app h22, hm]
    exact hR.2.2.1.1
  · show bitsOf (n.nodes ++ [y]) cs ≤ 256
    have e : bitsOf (n.nodes ++ [y]) cs = bitsOf n.nodes n.cells := by
      rw [bits_map, bits_map, hm]
      congr 1
      apply List.map_congr_left
      intro p hp
      obtain ⟨c, hc, rfl⟩ := List.mem_map.1 hp
      have := (cell_in hR c hc).1
      exact widA_app this.1 this.2
    rw [e]
    exact hR.2.2.1.2.2
  · obtain ⟨k1, k2, k3⟩ := hR.2.2.2.1.1 p (hp p hpp)
    have := (there_pos (wok_of hR.1) p.node).1 (by omega)
    exact ⟨k1, k2, by show widA (n.nodes ++ [y]) p.node = 1; rw [widA_app this.1 this.2]; exact k3⟩
  · have := hR.2.2.2.2 p (hn p hpp)
    show 0 ≤ p.node ∧ p.node < ((n.nodes ++ [y]).length : Int)
    rw [List.length_append]
    simp
    omega
theorem stOk_app {n : Nt} {y : Nd} (hR : NRight n) {st : List Nat} (h : StOk n st) (cs : List Ce) (ps : List Pr) (ns : List Pn) (hm : cs.map Ce.node = n.cells.map Ce.node) : StOk ⟨n.nodes ++ [y], n.ins, cs, ps, ns⟩ st := fun i c hc => by
  have h1 : (n.cells.map Ce.node)[i]? = some c.node := by rw [← hm, List.getElem?_map, show cs[i]? = some c from hc]; rfl
  obtain ⟨c', hc', e⟩ := map_idx h1
  have h2 := h i c' hc'
  have h3 := (cell_in hR c' (List.mem_of_getElem? hc')).1
  rw [e] at h2 h3
  show _ < 2 ^ (widA (n.nodes ++ [y]) c.node).toNat
  rw [widA_app h3.1 h3.2]
  exact h2
theorem inOk_app {n : Nt} {y : Nd} (hR : NRight n) {ins : List Nat} (h : InOk n ins) (cs : List Ce) (ps : List Pr) (ns : List Pn) : InOk ⟨n.nodes ++ [y], n.ins, cs, ps, ns⟩ ins := fun i p hp => by
  have hp' : n.ins[i]? = some p := hp
  have h2 := h i p hp'
  obtain ⟨k, z, e, hz, -⟩ := places_mem (op := 21) (l := n.nodes) (p := p.node) (by rw [← hR.2.1.2]; exact List.mem_map.2 ⟨p, List.mem_of_getElem? hp', rfl⟩)
  have := (List.getElem?_eq_some_iff.1 hz).1
  show _ < 2 ^ (widA (n.nodes ++ [y]) p.node).toNat
  rw [widA_app (by omega) (by omega)]
  exact h2
theorem getA_app {a : List Int} {b : List Int} {i : Int} (h0 : 0 ≤ i) (h : i < (a.length : Int)) : getA (a ++ b) i = getA a i := by
  obtain ⟨k, rfl⟩ : ∃ k : Nat, i = k := ⟨i.toNat, by omega⟩
  have hs : a[k]? = some a[k] := List.getElem?_eq_getElem (by omega)
  rw [getA_some hs, getA_some (by rw [List.getElem?_append_left (by omega)]; exact hs)]
/-- a number of 16 bits as a node -/
def litN (x : Nat) : Nd := ⟨1, 16, 0, 0, 0, (x : Int), 0⟩
theorem lit_ok (l : List Nd) {x : Nat} (hx : x < 65536) : NdOk l (litN x) := by
  refine ⟨0, true, false, 56, rfl, (by show (1 : Int) ≤ 16; decide), (by show (16 : Int) ≤ 16; decide), fun j hj => ⟨fun _ => ?_, fun h => by omega⟩, ⟨Or.inl rfl, Or.inr rfl⟩, ?_⟩
  · match j, hj with
    | 0, _ => rfl
    | 1, _ => rfl
    | 2, _ => rfl
  · refine ⟨fun _ => ⟨by show (0 : Int) ≤ (x : Int); omega, ?_⟩, fun h => by omega, fun h => by omega, fun h => by omega, fun h => by omega, fun h => by omega⟩
    show (x : Int) ≤ ((2 ^ 16 - 1 : Nat) : Int)
    omega
theorem ev_lit (l : List Nd) (st ins : List Nat) (k : Nat) (made : List Nat) (x : Nat) : ev1 l st ins k made (litN x) = x := by
  unfold ev1
  rw [if_neg (show ¬ (litN x).op = 21 from by show ¬ (1 : Int) = 21; decide), if_neg (show ¬ (litN x).op = 22 from by show ¬ (1 : Int) = 22; decide)]
  show doV 1 _ ((x : Int)).toNat _ _ _ _ _ = x
  rw [Int.toNat_natCast]
  rfl
end Go.Proofs.Ytmnblcnhbafcpaa

/-
  WHAT SimLess ASKS: PROPERTIES COPIED, AND CHANGED; A NET WITH AN ASSUMPTION THAT IS NEVER SO IS RIGHT.
-/
namespace Go.Proofs.Ytmnblcnhbafcpaa
open Go.RowKit
open NetM

theorem infoPr : (Try.prog.info? 47).map (fun i => (i.zero, i.size, i.bytes)) = some (some (.agg #[.int .i64 0, .string ByteArray.empty, .int .i64 0]), 3, 32) := by kernel_rfl
theorem prL_len (x : Pr) : (prL x).length = 3 := rfl
theorem pr_news {w : World} {B : Nat} {A : Option Addr} {l : List Pr} (h : Prs w B A l) : ∀ ad, A = some ad → ∀ j u, (l.flatMap prL)[j]? = some u → w.cell? (ad.add j) = some u := by
  intro ad hA p u hp
  obtain ⟨i, j, x, rfl, hj, hx, hu⟩ := flat_split prL prL_len hp
  obtain ⟨b, off, e, -, hc⟩ := h i x hx
  rw [hA] at e
  obtain rfl := Option.some.inj e
  have hadd : ∀ q, (⟨b, off, none⟩ : Addr).add q = ⟨b, off + q, none⟩ := fun q => by
    by_cases hq : q = 0
    · subst hq; rfl
    · simp [Addr.add, hq]
  rw [hadd, ← Nat.add_assoc]
  match j, hj, hu with
  | 0, _, hu => obtain rfl := Option.some.inj hu; exact hc.1
  | 1, _, hu => obtain rfl := Option.some.inj hu; exact hc.2.1
  | 2, _, hu => obtain rfl := Option.some.inj hu; exact hc.2.2
theorem pr_one (l : List Pr) : ∀ u ∈ l.flatMap prL, u.oneCell' = true := by
  intro u hu
  obtain ⟨x, _, hx⟩ := List.mem_flatMap.1 hu
  simp [prL] at hx
  rcases hx with rfl | rfl | rfl <;> rfl
theorem pr_own {w : World} {base m : Nat} {e : TypeId} {v : Value} {l : List Pr} (h : w.ownsRow base e 3 v m (l.flatMap prL)) (hl : l.length = m) : ∃ A c, v = .slice A m c ∧ m ≤ c ∧ Prs w w.heap.size A l := by
  obtain ⟨A, c, e1, h1, -, h3⟩ := own_rows prL prL_len h hl
  refine ⟨A, c, e1, h1, fun i x hx => ?_⟩
  obtain ⟨b, off, e2, hb, hc⟩ := h3 i x hx
  exact ⟨b, off, e2, hb, hc 0 _ (by decide) rfl, hc 1 _ (by decide) rfl, hc 2 _ (by decide) rfl⟩
theorem own_put {w : World} {base n size g o : Nat} {e : TypeId} {v val : Value} {xs : List Value} (h : w.ownsRow base e size v n xs) (hg : g < base) : (w.setCell ⟨g, o, none⟩ val).ownsRow base e size v n xs := by
  refine ⟨h.1, ?_⟩
  rcases h.2 with h0 | ⟨q, cap, cur, e1, hb, hh, r⟩
  · exact .inl h0
  · exact .inr ⟨q, cap, cur, e1, hb, by rw [heap_setCell_other w ⟨g, o, none⟩ q val (by show q ≠ g; omega)]; exact hh, r⟩
theorem box_five {w : World} {g : Nat} {x0 x1 x2 x3 x4 : Value} (h : w.heap[g]? = some (.cells #[x0, x1, x2, x3, x4] 27 (0, 0))) : w.cell? ⟨g, 0, none⟩ = some x0 ∧ w.cell? ⟨g, 1, none⟩ = some x1 ∧ w.cell? ⟨g, 2, none⟩ = some x2 ∧ w.cell? ⟨g, 3, none⟩ = some x3 ∧ w.cell? ⟨g, 4, none⟩ = some x4 ∧ ∀ j, w.frozen? ⟨g, j, none⟩ = false := by
  refine ⟨?_, ?_, ?_, ?_, ?_, fun j => by simp [World.frozen?, h]⟩
  all_goals simp [World.cell?, h]
theorem row_laid (w : World) (cs : Array Value) (t : TypeId) : ∀ j u, cs.toList[j]? = some u → (w.alloc (.cells cs t)).cell? ((⟨w.heap.size, 0, none⟩ : Addr).add j) = some u := by
  intro j u hj
  have hadd : (⟨w.heap.size, 0, none⟩ : Addr).add j = ⟨w.heap.size, j, none⟩ := by
    by_cases hq : j = 0
    · subst hq; rfl
    · simp [Addr.add, hq]
  rw [hadd]
  exact new_cells _ _ _ _ _ (by simpa using hj)
/-- an append onto a row of one's own, at a step of a region that draws its order -/
theorem step_src {P : Program} (w : World) {ops : Array Oper} {o : Oper} {a : Act} {K : Act → World → Prop} {Q : Exit → Act → World → Prop} {E : Prop} (hgd : o.guard = none) (s x : Operand) (t : TypeId)
    (ho : o.op = .call { callee := .builtin .append, args := #[s, x], argTypes := #[t, t] })
    (base : Nat) (e : TypeId) (i : TypeInfo) (z : Value) (size bytes : Nat) (ht : P.underlying t = some (.slice e)) (hi : P.info? e = some i) (hz : i.zero = some z)
    (hsize : i.size = size) (hby : i.bytes = bytes) (hzs : z.cells.size = size) (hsz : 0 < size)
    (v : Value) (n : Nat) (xs : List Value) (hs : a.eval s = v) (hown : w.ownsRow base e size v n xs)
    (A : Option Addr) (hA : A ≠ none) (m c : Nat) (news : List Value) (hx : a.eval x = .slice A m c) (hl : news.length = m * size) (hnews : ∀ ad, A = some ad → ∀ j u, news[j]? = some u → w.cell? (ad.add j) = some u) (h1 : ∀ u ∈ news, u.oneCell' = true)
    (h63 : n + m ≤ maxLen) (hbytes : (n + m) * bytes ≤ 140737488355328) (hbase : base ≤ w.heap.size)
    (h : ∀ v' w', w'.ownsRow base e size v' (n + m) (xs ++ news) → w.grownBy w' v.ownBlock → K (a.put o.dst v') w') :
    if Region.wanted o (yielded ops a.tmps) = true then Oper.wp P o a w K Q else E := by
  have hw : Region.wanted o (yielded ops a.tmps) = true := by simp [Region.wanted, hgd]
  rw [if_pos hw]
  rcases A with _ | ad
  · exact absurd rfl hA
  · exact wp_append_own w s x t ho base e i z size bytes ht hi hz hsize hby hzs hsz v n xs hs hown ad m c news hx hl (hnews ad rfl) h1 h63 hbytes hbase
      fun v' w' h2 h3 _ => h v' w' h2 h3
/-- properties of which the first ones are changed -/
def mixP (f : Pr → Pr) (l : List Pr) (j : Nat) : List Pr := (l.take j).map f ++ l.drop j
theorem mixP_len (f : Pr → Pr) (l : List Pr) (j : Nat) : (mixP f l j).length = l.length := by
  unfold mixP
  rw [List.length_append, List.length_map, List.length_take, List.length_drop]
  omega
theorem mixP_at {f : Pr → Pr} {l : List Pr} {j : Nat} {c : Pr} (h : l[j]? = some c) : (mixP f l j)[j]? = some c := by
  have := (List.getElem?_eq_some_iff.1 h).1
  have e : ((l.take j).map f).length = j := by rw [List.length_map, List.length_take]; omega
  unfold mixP
  rw [List.getElem?_append_right (by omega), e, Nat.sub_self, List.getElem?_drop]
  exact h
theorem mixP_step {f : Pr → Pr} {l : List Pr} {j : Nat} {c : Pr} (h : l[j]? = some c) : (mixP f l j).set j (f c) = mixP f l (j + 1) := by
  have hj := (List.getElem?_eq_some_iff.1 h).1
  have e : ((l.take j).map f).length = j := by rw [List.length_map, List.length_take]; omega
  unfold mixP
  rw [List.set_append_right _ _ (by omega), e, Nat.sub_self, List.take_add_one, h, List.drop_eq_getElem_cons hj, List.set_cons_zero, List.map_append]
  simp
theorem mixP_same {f : Pr → Pr} {l : List Pr} {j : Nat} {c : Pr} (h : l[j]? = some c) (hf : f c = c) : mixP f l j = mixP f l (j + 1) := by
  have hj := (List.getElem?_eq_some_iff.1 h).1
  have e2 : c = l[j] := by rw [List.getElem?_eq_getElem hj] at h; exact (Option.some.inj h).symm
  unfold mixP
  rw [List.take_add_one, h, List.drop_eq_getElem_cons hj, List.map_append]
  simp [hf, ← e2]
theorem mixP_all (f : Pr → Pr) (l : List Pr) : mixP f l l.length = l.map f := by unfold mixP; simp
/-- a net whose assumptions are covers is right -/
theorem right_cover {n : Nt} (h : NRight n) : NRight (withP n (n.props.map coverP)) := by
  refine ⟨h.1, h.2.1, h.2.2.1, ⟨fun p hp => ?_, by show (n.props.map coverP).length ≤ 16; rw [List.length_map]; exact h.2.2.2.1.2⟩, h.2.2.2.2⟩
  obtain ⟨p0, h0, rfl⟩ := List.mem_map.1 hp
  obtain ⟨k1, k2, k3⟩ := h.2.2.2.1.1 p0 h0
  refine ⟨?_, ?_, by rw [coverP_node]; exact k3⟩
  · unfold coverP
    split
    · show (8 : Int) ≤ 10
      decide
    · exact k1
  · unfold coverP
    split
    · show (10 : Int) ≤ 10
      decide
    · exact k2
theorem sz_cover {n : Nt} (h : Sz n) : Sz (withP n (n.props.map coverP)) := by
  unfold Sz at h ⊢
  show _ ∧ _ ∧ _ ∧ (n.props.map coverP).length ≤ 400 ∧ _
  rw [List.length_map]
  exact h
theorem zero_ok (l : List Nd) : NdOk l zeroNd := by
  refine ⟨0, true, false, 56, rfl, (by show (1 : Int) ≤ 1; decide), (by show (1 : Int) ≤ 16; decide), fun j hj => ⟨fun _ => ?_, fun h => by omega⟩, ⟨Or.inl rfl, Or.inr rfl⟩, ?_⟩
  · match j, hj with
    | 0, _ => rfl
    | 1, _ => rfl
    | 2, _ => rfl
  · refine ⟨fun _ => ⟨by show (0 : Int) ≤ 0; decide, ?_⟩, fun h => by omega, fun h => by omega, fun h => by omega, fun h => by omega, fun h => by omega⟩
    show (0 : Int) ≤ ((2 ^ 1 - 1 : Nat) : Int)
    decide
theorem right_withZ {n : Nt} (h : NRight n) (s : ByteArray) (h16 : n.props.length < 16) : NRight (withZ n s) := by
  have h0 := right_app h (zero_ok n.nodes) (by decide) (by decide) n.cells n.props n.names rfl (fun c hc => ?_) (fun _ h => h) (by omega) (fun _ h => h)
  · refine ⟨h0.1, h0.2.1, h0.2.2.1, ⟨fun p hp => ?_, by show (n.props ++ [_]).length ≤ 16; rw [List.length_append, List.length_singleton]; omega⟩, h0.2.2.2.2⟩
    rcases List.mem_append.1 hp with h1 | h1
    · exact h0.2.2.2.1.1 p h1
    · obtain rfl := List.mem_singleton.1 h1
      refine ⟨by show (8 : Int) ≤ 9; decide, by show (9 : Int) ≤ 10; decide, ?_⟩
      show widA (n.nodes ++ [zeroNd]) (n.nodes.length : Nat) = 1
      rw [widA_some (x := zeroNd) (by simp)]
      rfl
  · obtain ⟨k1, k2, k3⟩ := h.2.2.1.2.1 c hc
    obtain ⟨⟨i1, i2⟩, i3, i4⟩ := cell_in h c hc
    unfold CellOk
    rw [widA_app i1 i2, widA_app i3 i4]
    exact ⟨k1, k2, k3⟩
theorem sz_withZ {n : Nt} (h : n.nodes.length ≤ 300 ∧ n.ins.length ≤ 100 ∧ n.cells.length ≤ 300 ∧ n.props.length ≤ 40 ∧ n.names.length ≤ 300) (s : ByteArray) : Sz (withZ n s) := by
  unfold Sz
  show (n.nodes ++ [zeroNd]).length ≤ 400 ∧ n.ins.length ≤ 400 ∧ n.cells.length ≤ 400 ∧ (n.props ++ [_]).length ≤ 400 ∧ n.names.length ≤ 400
  rw [List.length_append, List.length_append, List.length_singleton, List.length_singleton]
  omega
theorem tr_withZ {n : Nt} (hR : NRight n) (s : ByteArray) {t : List (List Nat)} (h : TrOk n t) : TrOk (withZ n s) t := fun r hr => ⟨(h r hr).1, inOk_app hR (h r hr).2 n.cells _ n.names⟩
theorem coverP_same {p : Pr} (h : p.kind ≠ 9) : coverP p = p := by
  unfold coverP
  rw [if_neg h]
theorem coverP_set {p : Pr} (h : p.kind = 9) : prL (coverP p) = (prL p).set 0 (.int .i64 10) := by
  unfold coverP
  rw [if_pos h]
  rfl
/-- what holds while assumptions are turned into covers -/
def LsP (n : Nt) (g6 d6 g base j : Nat) (A1 A2 A3 A5 : Option Addr) (c1 c2 c3 c5 : Nat) (W u : World) : Prop :=
  Gr W u ∧ u.heap[g]? = some (.cells #[.slice A1 n.nodes.length c1, .slice A2 n.ins.length c2, .slice A3 n.cells.length c3, .slice (some ⟨g6, 0, none⟩) n.props.length d6, .slice A5 n.names.length c5] 27 (0, 0)) ∧ u.ownsRow base 47 3 (.slice (some ⟨g6, 0, none⟩) n.props.length d6) n.props.length ((mixP coverP n.props j).flatMap prL)
theorem ls_step {n : Nt} {g6 d6 g base j : Nat} {A1 A2 A3 A5 : Option Addr} {c1 c2 c3 c5 : Nat} {W u : World} {p : Pr} (h : LsP n g6 d6 g base j A1 A2 A3 A5 c1 c2 c3 c5 W u) (hp : n.props[j]? = some p) (h9 : p.kind = 9) (hg : g ≠ g6) (hW : W.heap.size ≤ g6) :
    LsP n g6 d6 g base (j + 1) A1 A2 A3 A5 c1 c2 c3 c5 W (u.setCell ⟨g6, j * 3, none⟩ (.int .i64 10)) := by
  obtain ⟨h1, h2, h3⟩ := h
  refine ⟨Below.setCell h1 (p := ⟨g6, j * 3, none⟩) hW _, ?_, ?_⟩
  · rw [heap_setCell_other u ⟨g6, j * 3, none⟩ g (.int .i64 10) hg]
    exact h2
  · have h4 := (h3.stored (j * 3) (.int .i64 10)).1
    have h5 := flat_set prL prL_len (l := mixP coverP n.props j) (i := j) (j := 0) (u := .int .i64 10) (y := coverP p) (mixP_at hp) (by decide) (coverP_set h9)
    rw [Nat.add_zero] at h5
    rw [h5, mixP_step hp] at h4
    exact h4
theorem ls_same {n : Nt} {g6 d6 g base j : Nat} {A1 A2 A3 A5 : Option Addr} {c1 c2 c3 c5 : Nat} {W u : World} {p : Pr} (h : LsP n g6 d6 g base j A1 A2 A3 A5 c1 c2 c3 c5 W u) (hp : n.props[j]? = some p) (h9 : p.kind ≠ 9) :
    LsP n g6 d6 g base (j + 1) A1 A2 A3 A5 c1 c2 c3 c5 W u := ⟨h.1, h.2.1, by rw [← mixP_same hp (coverP_same h9)]; exact h.2.2⟩
theorem ls_kind {n : Nt} {g6 d6 g base j : Nat} {A1 A2 A3 A5 : Option Addr} {c1 c2 c3 c5 : Nat} {W u : World} {p : Pr} (h : LsP n g6 d6 g base j A1 A2 A3 A5 c1 c2 c3 c5 W u) (hp : n.props[j]? = some p) :
    u.cell? ⟨g6, j * 3, none⟩ = some (.int .i64 p.kind) ∧ u.frozen? ⟨g6, j * 3, none⟩ = false := by
  have hj := (List.getElem?_eq_some_iff.1 hp).1
  have h5 := flat_at prL prL_len (mixP coverP n.props j) j 0 p (mixP_at hp) (by decide)
  rw [Nat.add_zero] at h5
  refine ⟨?_, h.2.2.frozenAt (j * 3)⟩
  rw [h.2.2.cellAt (j * 3) (by omega), h5]
  rfl
/-- the net whose assumptions are covers, in memory -/
theorem ls_net {n : Nt} {g6 d6 g base : Nat} {A1 A2 A3 A5 : Option Addr} {c1 c2 c3 c5 : Nat} {w W u : World} (h : LsP n g6 d6 g base n.props.length A1 A2 A3 A5 c1 c2 c3 c5 W u) (hW : Gr w W) (hc : n.nodes.length ≤ c1) (h1 : Nds w w.heap.size A1 n.nodes) (h2 : Pns w w.heap.size A2 n.ins) (h3 : Ces w w.heap.size A3 n.cells) (h5 : Pns w w.heap.size A5 n.names) :
    NtAt u (withP n (n.props.map coverP)) (ntV A1 A2 A3 (some ⟨g6, 0, none⟩) A5 n.nodes.length n.ins.length n.cells.length n.props.length n.names.length c1 c2 c3 d6 c5) := by
  have hg := Gr.trans hW h.1
  have h6 := h.2.2
  rw [mixP_all] at h6
  obtain ⟨A, d, e, hd, h7⟩ := pr_own h6 (List.length_map _)
  simp only [Value.slice.injEq, true_and] at e
  obtain ⟨rfl, rfl⟩ := e
  exact ⟨A1, A2, A3, some ⟨g6, 0, none⟩, A5, c1, c2, c3, d6, c5, by simp [withP], hc, h1.gr hg, h2.gr hg, h3.gr hg, h7, h5.gr hg⟩
theorem nodes_pos {n : Nt} (hR : NRight n) {p : Pr} (hp : p ∈ n.props) : 0 < n.nodes.length := by
  obtain ⟨h1, h2⟩ := props_in hR p hp
  omega
end Go.Proofs.Ytmnblcnhbafcpaa
