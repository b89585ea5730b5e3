/-
  ROWS OF NODES AND OF CELLS, COPIED, WALKED.
-/
import Derived.Test.YtmnblcnhbafcpaaJ28
import Derived.Test.YtmnblcnhbafcpaaJ27
import Derived.Test.YtmnblcnhbafcpaaJ29
import Derived.Laws.AppendOwnNone
import Derived.Laws.OwnMore
namespace Go.Proofs.Ytmnblcnhbafcpaa
open Go.RowKit
open NetM

/-- an append of a row that may be nil onto a row of one's own -/
theorem append_src {P : Program} (w : World) {ops : Array Oper} {rest : List Oper} {o : Oper} {a : Act} {Q : Exit → Act → World → Prop} (hgd : o.guard = none) (s x : Operand) (t : TypeId)
    (ho : o.op = .call { callee := .builtin .append, args := #[s, x], argTypes := #[t, t] })
    (base : Nat) (e : TypeId) (i : TypeInfo) (z : Value) (size bytes : Nat) (ht : P.underlying t = some (.slice e)) (hi : P.info? e = some i) (hz : i.zero = some z)
    (hsize : i.size = size) (hby : i.bytes = bytes) (hzs : z.cells.size = size) (hsz : 0 < size)
    (v : Value) (n : Nat) (xs : List Value) (hs : a.eval s = v) (hown : w.ownsRow base e size v n xs)
    (A : Option Addr) (m c : Nat) (news : List Value) (hx : a.eval x = .slice A m c) (hnil : A = none → m = 0 ∧ c = 0) (hl : news.length = m * size) (hnews : ∀ ad, A = some ad → ∀ j u, news[j]? = some u → w.cell? (ad.add j) = some u) (h1 : ∀ u ∈ news, u.oneCell' = true)
    (h63 : n + m ≤ maxLen) (hbytes : (n + m) * bytes ≤ 140737488355328) (hbase : base ≤ w.heap.size)
    (h : ∀ v' w', w'.ownsRow base e size v' (n + m) (xs ++ news) → Below base w w' → wpList P ops Q rest (a.put o.dst v') w') : wpList P ops Q (o :: rest) a w := by
  rcases A with _ | ad
  · obtain ⟨rfl, rfl⟩ := hnil rfl
    have hn0 : news = [] := List.eq_nil_of_length_eq_zero (by rw [hl]; omega)
    subst hn0
    exact wpList_append_own_none hgd s x t ho base e i size ht hi v n xs hs hown hx (h v w (by rw [List.append_nil]; exact hown) (Below.refl _ _))
  · exact wpList_append_own w hgd s x t ho base e i z size bytes ht hi hz hsize hby hzs hsz v n xs hs hown ad m c news hx hl (hnews ad rfl) h1 h63 hbytes hbase
      fun v' w' h2 h3 _ => h v' w' h2 ((Below.refl _ _).grown h3 hbase (fun k hk => (hown.lt k hk).1))
theorem info41 : (Try.prog.info? 53).map (fun i => (i.zero, i.size, i.bytes)) = some (some (.agg #[.int .i64 0, .int .i64 0, .int .i64 0, .int .i64 0, .int .i64 0, .int .i64 0, .int .i64 0]), 7, 56) := by kernel_rfl
theorem info43 : (Try.prog.info? 60).map (fun i => (i.zero, i.size, i.bytes)) = some (some (.agg #[.string ByteArray.empty, .int .i64 0, .int .i64 0, .int .i64 0]), 4, 40) := by kernel_rfl
theorem info47 : (Try.prog.info? 55).map (fun i => (i.zero, i.size, i.bytes)) = some (some (.agg #[.string ByteArray.empty, .int .i64 0]), 2, 24) := by kernel_rfl
theorem own_empty (w : World) (e : TypeId) (size base : Nat) (hb : base ≤ w.heap.size) : (w.alloc (.cells #[] e)).ownsRow base e size (.slice (some ⟨w.heap.size, 0, none⟩) 0 0) 0 [] :=
  ⟨by simp, .inr ⟨w.heap.size, 0, #[], rfl, hb, by show (w.heap.push _)[w.heap.size]? = _; simp, Nat.le_refl _, Nat.zero_le _, by simp, by simp⟩⟩
theorem own_gr' {w w2 : World} {base n size : Nat} {e : TypeId} {v : Value} {xs : List Value} (h : w.ownsRow base e size v n xs) (hb : Gr w w2) : w2.ownsRow base e size v n xs :=
  h.kept (row := none) ⟨hb.os, hb.tape, hb.output, hb.size, fun i hi _ => hb.block i hi⟩ (Classical.em _)
section
variable {α : Type} (f : α → List Value) {k : Nat} (hf : ∀ x, (f x).length = k)
include hf
theorem flat_len : ∀ l : List α, (l.flatMap f).length = l.length * k
  | [] => by simp
  | x :: r => by rw [List.flatMap_cons, List.length_append, hf, flat_len r, List.length_cons, Nat.succ_mul, Nat.add_comm]
theorem flat_at : ∀ (l : List α) (i j : Nat) (x : α), l[i]? = some x → j < k → (l.flatMap f)[i * k + j]? = (f x)[j]?
  | [], i, j, x, h, _ => by simp at h
  | y :: r, 0, j, x, h, hj => by
    obtain rfl : y = x := by simpa using h
    rw [List.flatMap_cons, Nat.zero_mul, Nat.zero_add, List.getElem?_append_left (by rw [hf]; exact hj)]
  | y :: r, i + 1, j, x, h, hj => by
    rw [List.flatMap_cons, List.getElem?_append_right (by rw [hf, Nat.succ_mul]; omega), hf, Nat.succ_mul, show i * k + k + j - k = i * k + j by omega]
    exact flat_at r i j x (by simpa using h) hj
theorem flat_split {l : List α} {p : Nat} {u : Value} (h : (l.flatMap f)[p]? = some u) : ∃ i j x, p = i * k + j ∧ j < k ∧ l[i]? = some x ∧ (f x)[j]? = some u := by
  have hp := (List.getElem?_eq_some_iff.1 h).1
  rw [flat_len f hf] at hp
  have hk : 0 < k := by
    rcases Nat.eq_zero_or_pos k with h0 | h0
    · subst h0; simp at hp
    · exact h0
  have hm := Nat.mod_lt p hk
  have hd := Nat.div_add_mod p k
  have hi : p / k < l.length := Nat.div_lt_of_lt_mul (by rw [Nat.mul_comm]; exact hp)
  have hx : l[p / k]? = some l[p / k] := List.getElem?_eq_getElem hi
  have e : p = p / k * k + p % k := by rw [Nat.mul_comm]; exact hd.symm
  refine ⟨p / k, p % k, l[p / k], e, hm, hx, ?_⟩
  rw [← flat_at f hf l _ _ _ hx hm, ← e]
  exact h
theorem flat_set {l : List α} {i j : Nat} {x y : α} {u : Value} (hx : l[i]? = some x) (hj : j < k) (hy : f y = (f x).set j u) : (l.flatMap f).set (i * k + j) u = (l.set i y).flatMap f := by
  have hil := (List.getElem?_eq_some_iff.1 hx).1
  apply List.ext_getElem?
  intro p
  by_cases hp : p < (l.flatMap f).length
  · have hs : (l.flatMap f)[p]? = some (l.flatMap f)[p] := List.getElem?_eq_getElem hp
    obtain ⟨i', j', x', e, hj', hx', hu'⟩ := flat_split f hf hs
    by_cases hi' : i' = i
    · subst hi'
      obtain rfl : x = x' := Option.some.inj (hx.symm.trans hx')
      rw [e, flat_at f hf (l.set i' y) i' j' y (by rw [List.getElem?_set_self hil]) hj', hy]
      by_cases hjj : j' = j
      · subst hjj
        rw [List.getElem?_set_self (by rw [e] at hp; exact hp), List.getElem?_set_self (by rw [hf]; exact hj)]
      · rw [List.getElem?_set_ne (by omega), List.getElem?_set_ne (fun h => hjj h.symm), ← flat_at f hf l i' j' x hx hj']
    · have hne : i * k + j ≠ p := fun h => by
        rw [e] at h
        have h1 : (i * k + j) / k = i := by rw [Nat.mul_comm, Nat.mul_add_div (by omega), Nat.div_eq_of_lt hj, Nat.add_zero]
        have h2 : (i' * k + j') / k = i' := by rw [Nat.mul_comm, Nat.mul_add_div (by omega), Nat.div_eq_of_lt hj', Nat.add_zero]
        rw [h, h2] at h1
        exact hi' h1
      rw [List.getElem?_set_ne hne, e, flat_at f hf l i' j' x' hx' hj', flat_at f hf (l.set i y) i' j' x' (by rw [List.getElem?_set_ne (fun h => hi' h.symm)]; exact hx') hj']
  · rw [List.getElem?_eq_none (by rw [List.length_set]; omega), List.getElem?_eq_none (by rw [flat_len f hf, List.length_set, ← flat_len f hf]; omega)]
/-- a row of one's own, as cells -/
theorem own_rows {w : World} {base m : Nat} {e : TypeId} {v : Value} {l : List α} (h : w.ownsRow base e k v m (l.flatMap f)) (hl : l.length = m) : ∃ A c, v = .slice A m c ∧ m ≤ c ∧ (A = none → m = 0 ∧ c = 0) ∧
    ∀ (i : Nat) (x : α), l[i]? = some x → ∃ b off, A = some ⟨b, off, none⟩ ∧ b < w.heap.size ∧ ∀ j u, j < k → (f x)[j]? = some u → w.cell? ⟨b, off + i * k + j, none⟩ = some u := by
  rcases h.2 with ⟨rfl, h0⟩ | ⟨g, cap, cur, rfl, hb, hh, hn', hc, hsz, ht⟩
  · refine ⟨none, 0, by rw [h0], by omega, fun _ => ⟨h0, rfl⟩, fun i x hx => ?_⟩
    have := (List.getElem?_eq_some_iff.1 hx).1
    omega
  · refine ⟨some ⟨g, 0, none⟩, cap, rfl, hn', fun h => by simp at h, fun i x hx => ⟨g, 0, rfl, hlt hh, fun j u hj hu => ?_⟩⟩
    rw [Nat.zero_add, cellAt hh]
    have h2 := flat_at f hf l i j x hx hj
    rw [hu, ← ht, List.getElem?_take] at h2
    split at h2
    · simpa using h2
    · simp at h2
end
theorem ndL_len (x : Nd) : (ndL x).length = 7 := rfl
theorem ceL_len (x : Ce) : (ceL x).length = 4 := rfl
theorem pnL_len (x : Pn) : (pnL x).length = 2 := rfl
theorem nd_news {w : World} {B : Nat} {A : Option Addr} {l : List Nd} (h : Nds w B A l) : ∀ ad, A = some ad → ∀ j u, (l.flatMap ndL)[j]? = some u → w.cell? (ad.add j) = some u := by
  intro ad hA p u hp
  obtain ⟨i, j, x, rfl, hj, hx, hu⟩ := flat_split ndL ndL_len hp
  obtain ⟨b, off, e, -, hc⟩ := h i x hx
  rw [hA] at e
  obtain rfl := Option.some.inj e
  have hadd : ∀ q, (⟨b, off, none⟩ : Addr).add q = ⟨b, off + q, none⟩ := fun q => by
    by_cases hq : q = 0
    · subst hq; rfl
    · simp [Addr.add, hq]
  rw [hadd, ← Nat.add_assoc]
  match j, hj, hu with
  | 0, _, hu => obtain rfl := Option.some.inj hu; exact hc.1
  | 1, _, hu => obtain rfl := Option.some.inj hu; exact hc.2.1
  | 2, _, hu => obtain rfl := Option.some.inj hu; exact hc.2.2.1
  | 3, _, hu => obtain rfl := Option.some.inj hu; exact hc.2.2.2.1
  | 4, _, hu => obtain rfl := Option.some.inj hu; exact hc.2.2.2.2.1
  | 5, _, hu => obtain rfl := Option.some.inj hu; exact hc.2.2.2.2.2.1
  | 6, _, hu => obtain rfl := Option.some.inj hu; exact hc.2.2.2.2.2.2
theorem nd_one (l : List Nd) : ∀ u ∈ l.flatMap ndL, u.oneCell' = true := by
  intro u hu
  obtain ⟨x, _, hx⟩ := List.mem_flatMap.1 hu
  simp [ndL] at hx
  rcases hx with rfl | rfl | rfl | rfl | rfl | rfl | rfl <;> rfl
theorem nd_own {w : World} {base m : Nat} {e : TypeId} {v : Value} {l : List Nd} (h : w.ownsRow base e 7 v m (l.flatMap ndL)) (hl : l.length = m) : ∃ A c, v = .slice A m c ∧ m ≤ c ∧ (A = none → m = 0 ∧ c = 0) ∧ Nds w w.heap.size A l := by
  obtain ⟨A, c, e1, h1, h2, h3⟩ := own_rows ndL ndL_len h hl
  refine ⟨A, c, e1, h1, h2, fun i x hx => ?_⟩
  obtain ⟨b, off, e2, hb, hc⟩ := h3 i x hx
  exact ⟨b, off, e2, hb, hc 0 _ (by decide) rfl, hc 1 _ (by decide) rfl, hc 2 _ (by decide) rfl, hc 3 _ (by decide) rfl, hc 4 _ (by decide) rfl, hc 5 _ (by decide) rfl, hc 6 _ (by decide) rfl⟩
theorem ce_news {w : World} {B : Nat} {A : Option Addr} {l : List Ce} (h : Ces w B A l) : ∀ ad, A = some ad → ∀ j u, (l.flatMap ceL)[j]? = some u → w.cell? (ad.add j) = some u := by
  intro ad hA p u hp
  obtain ⟨i, j, x, rfl, hj, hx, hu⟩ := flat_split ceL ceL_len hp
  obtain ⟨b, off, e, -, hc⟩ := h i x hx
  rw [hA] at e
  obtain rfl := Option.some.inj e
  have hadd : ∀ q, (⟨b, off, none⟩ : Addr).add q = ⟨b, off + q, none⟩ := fun q => by
    by_cases hq : q = 0
    · subst hq; rfl
    · simp [Addr.add, hq]
  rw [hadd, ← Nat.add_assoc]
  match j, hj, hu with
  | 0, _, hu => obtain rfl := Option.some.inj hu; exact hc.1
  | 1, _, hu => obtain rfl := Option.some.inj hu; exact hc.2.1
  | 2, _, hu => obtain rfl := Option.some.inj hu; exact hc.2.2.1
  | 3, _, hu => obtain rfl := Option.some.inj hu; exact hc.2.2.2
theorem ce_one (l : List Ce) : ∀ u ∈ l.flatMap ceL, u.oneCell' = true := by
  intro u hu
  obtain ⟨x, _, hx⟩ := List.mem_flatMap.1 hu
  simp [ceL] at hx
  rcases hx with rfl | rfl | rfl | rfl <;> rfl
theorem ce_own {w : World} {base m : Nat} {e : TypeId} {v : Value} {l : List Ce} (h : w.ownsRow base e 4 v m (l.flatMap ceL)) (hl : l.length = m) : ∃ A c, v = .slice A m c ∧ m ≤ c ∧ (A = none → m = 0 ∧ c = 0) ∧ Ces w w.heap.size A l := by
  obtain ⟨A, c, e1, h1, h2, h3⟩ := own_rows ceL ceL_len h hl
  refine ⟨A, c, e1, h1, h2, fun i x hx => ?_⟩
  obtain ⟨b, off, e2, hb, hc⟩ := h3 i x hx
  exact ⟨b, off, e2, hb, hc 0 _ (by decide) rfl, hc 1 _ (by decide) rfl, hc 2 _ (by decide) rfl, hc 3 _ (by decide) rfl⟩
theorem pn_news {w : World} {B : Nat} {A : Option Addr} {l : List Pn} (h : Pns w B A l) : ∀ ad, A = some ad → ∀ j u, (l.flatMap pnL)[j]? = some u → w.cell? (ad.add j) = some u := by
  intro ad hA p u hp
  obtain ⟨i, j, x, rfl, hj, hx, hu⟩ := flat_split pnL pnL_len hp
  obtain ⟨b, off, e, -, hc⟩ := h i x hx
  rw [hA] at e
  obtain rfl := Option.some.inj e
  have hadd : ∀ q, (⟨b, off, none⟩ : Addr).add q = ⟨b, off + q, none⟩ := fun q => by
    by_cases hq : q = 0
    · subst hq; rfl
    · simp [Addr.add, hq]
  rw [hadd, ← Nat.add_assoc]
  match j, hj, hu with
  | 0, _, hu => obtain rfl := Option.some.inj hu; exact hc.1
  | 1, _, hu => obtain rfl := Option.some.inj hu; exact hc.2
theorem pn_one (l : List Pn) : ∀ u ∈ l.flatMap pnL, u.oneCell' = true := by
  intro u hu
  obtain ⟨x, _, hx⟩ := List.mem_flatMap.1 hu
  simp [pnL] at hx
  rcases hx with rfl | rfl <;> rfl
theorem pn_own {w : World} {base m : Nat} {e : TypeId} {v : Value} {l : List Pn} (h : w.ownsRow base e 2 v m (l.flatMap pnL)) (hl : l.length = m) : ∃ A c, v = .slice A m c ∧ m ≤ c ∧ (A = none → m = 0 ∧ c = 0) ∧ Pns w w.heap.size A l := by
  obtain ⟨A, c, e1, h1, h2, h3⟩ := own_rows pnL pnL_len h hl
  refine ⟨A, c, e1, h1, h2, fun i x hx => ?_⟩
  obtain ⟨b, off, e2, hb, hc⟩ := h3 i x hx
  exact ⟨b, off, e2, hb, hc 0 _ (by decide) rfl, hc 1 _ (by decide) rfl⟩
/-- rows that are nil have no room -/
def NilOk (v : Value) : Prop := ∀ A1 A2 A3 A4 A5 k1 k2 k3 k4 k5 c1 c2 c3 c4 c5, v = ntV A1 A2 A3 A4 A5 k1 k2 k3 k4 k5 c1 c2 c3 c4 c5 → (A1 = none → k1 = 0 ∧ c1 = 0) ∧ (A3 = none → k3 = 0 ∧ c3 = 0)
end Go.Proofs.Ytmnblcnhbafcpaa
