/-
  A kid is put on top of what is left: the append, in whatever order its region goes.
-/
import Derived.Test.YtjkaeabnjkhllaaScExp0
import Derived.Deep.AppendLies
namespace Go.Proofs.Ytjkaeabnjkhllaa
open Go.RowKit Go.Shelf

theorem stepIn_append_lies {F : Fence} {rm : Nat} {P : Program} {ops : Array Oper} {o : Oper} {a : Act} {w : World} {K : Act → World → Prop} {Q : Exit → Act → World → Prop} {E : Prop} (hgd : o.guard = none) (s x : Operand) (t : TypeId)
    (ho : o.op = .call { callee := .builtin .append, args := #[s, x], argTypes := #[t, t] })
    (base : Nat) (e : TypeId) (i : TypeInfo) (z : Value) (size bytes : Nat) (ht : P.underlying t = some (.slice e)) (hi : P.info? e = some i) (hz : i.zero = some z)
    (hsize : i.size = size) (hby : i.bytes = bytes) (hzs : z.cells.size = size) (hsz : 0 < size)
    (v : Value) (n : Nat) (xs : List Value) (hs : a.eval s = v) (hown : w.ownsRow base e size v n xs)
    (ad : Addr) (m c : Nat) (news : List Value) (hx : a.eval x = .slice (some ad) m c) (hl : news.length = m * size) (hnews : ∀ j u, news[j]? = some u → w.cell? (ad.add j) = some u) (h1 : ∀ u ∈ news, u.oneCell' = true)
    (hm : 0 < m) (h63 : n + m ≤ maxLen) (hbytes : (n + m) * bytes ≤ 140737488355328) (hbase : base ≤ w.heap.size) (H : Nat) (hH : w.heap.size = H)
    (h : ∀ g cap w', w'.ownsRow base e size (.slice (some ⟨g, 0, none⟩) (n + m) cap) (n + m) (xs ++ news) → w.grownBy w' v.ownBlock → (v.ownBlock = some g ∨ g = H) → g < w'.heap.size → K (a.put o.dst (.slice (some ⟨g, 0, none⟩) (n + m) cap)) w') :
    if Region.wanted o (yielded ops a.tmps) = true then Oper.wpIn F rm P o a w K Q else E := by
  have hw : Region.wanted o (yielded ops a.tmps) = true := by simp [Region.wanted, hgd]
  rw [if_pos hw]
  obtain ⟨g, cap, w', hr, h2, h3, h4, h5⟩ := run_append_lies (P := P) w t o.type base e i z size bytes ht hi hz hsize hby hzs hsz v n xs hown ad m c news hl hnews h1 hm h63 hbytes hbase H hH
  unfold Oper.wpIn
  refine ⟨by simp [Oper.about, ho, resolve, Target.leads], ?_⟩
  rw [Oper.semAt_plain F _ _ (by rw [ho]; intro c hc'; cases hc')]
  unfold execOp
  simp only [ho, resolve, invoke, builtin, Sem.run_bind, Sem.run_pure, Result.andThen_ok, List.map_toArray, List.map_cons, List.map_nil, hs, hx, hr]
  exact h g cap w' h2 h3 h4 h5
theorem stepIn_store_mid {F : Fence} {rm : Nat} {P : Program} {ops : Array Oper} {o : Oper} {a : Act} {w : World} {K : Act → World → Prop} {Q : Exit → Act → World → Prop} {E : Prop} (hgd : o.guard = none) (ty : TypeId) (x y : Operand) (ho : o.op = .store ty x y)
    (b off : Nat) (cells : Array Value) (hx : a.eval x = .pointer (some ⟨b, off, none⟩)) (hy : a.eval y = .agg cells)
    (ht : w.there b off cells.size) (hi : (P.info? ty).map (·.size) = some cells.size) (h1 : cells.all (·.oneCell') = true) (W2 : World) (hW : w.setCells b off cells.toList = W2)
    (h : K (a.put o.dst undef) W2) :
    if Region.wanted o (yielded ops a.tmps) = true then Oper.wpIn F rm P o a w K Q else E := by
  have hw : Region.wanted o (yielded ops a.tmps) = true := by simp [Region.wanted, hgd]
  rw [if_pos hw]
  unfold Oper.wpIn
  refine ⟨by simp [Oper.about, ho], ?_⟩
  rw [Oper.semAt_plain F _ _ (by rw [ho]; intro c hc'; cases hc')]
  simp [execOp, ho, hx, hy, Instr.storeAt, Instr.sureAddr, run_storeVar_mid (P := P) w b off ty cells ht hi h1, Result.andThen]
  rw [hW]
  exact h
theorem sets_block {g j : Nat} (hj : j ≠ g) : ∀ (vs : List Value) (o : Nat) (w : World), (w.setCells g o vs).heap[j]? = w.heap[j]?
  | [], _, _ => rfl
  | v :: r, o, w => by
    rw [World.setCells, sets_block hj r (o + 1), set_block (Ne.symm hj)]
theorem sets_size {g : Nat} : ∀ (vs : List Value) (o : Nat) (w : World), (w.setCells g o vs).heap.size = w.heap.size
  | [], _, _ => rfl
  | v :: r, o, w => by
    rw [World.setCells, sets_size r (o + 1)]
    simp [World.setCell]
theorem own_form {w : World} {base g n cap : Nat} {xs : List Value} (h : w.ownsRow base 47 11 (.slice (some ⟨g, 0, none⟩) n cap) n xs) : ∃ cur, base ≤ g ∧ w.heap[g]? = some (.cells cur 47 (0, 0)) ∧ n ≤ cap ∧ cap ≤ maxLen ∧ cur.size = cap * 11 ∧ cur.toList.take (n * 11) = xs := by
  rcases h.2 with ⟨h1, _⟩ | ⟨g', cap', cur, e, hb, hh, hc, hm, hs, ht⟩
  · simp at h1
  · simp at e
    obtain ⟨rfl, rfl⟩ := e
    exact ⟨cur, hb, hh, hc, hm, hs, ht⟩
theorem own_there {w : World} {base g n cap : Nat} {xs : List Value} (h : w.ownsRow base 47 11 (.slice (some ⟨g, 0, none⟩) (n + 1) cap) (n + 1) xs) : w.there g (n * 11) 11 := by
  obtain ⟨cur, _, hh, hc, _, hs, _⟩ := own_form h
  have hle : (n + 1) * 11 ≤ cap * 11 := Nat.mul_le_mul_right 11 hc
  exact fun j hj => ⟨by rw [cell_at hh]; simp; omega, frozen_at hh⟩
theorem own_store {w : World} {base g n cap : Nat} {xs news cells : List Value} (h : w.ownsRow base 47 11 (.slice (some ⟨g, 0, none⟩) (n + 1) cap) (n + 1) (xs ++ news)) (hx : xs.length = n * 11) (hc : cells.length = 11) :
    (w.setCells g (n * 11) cells).ownsRow base 47 11 (.slice (some ⟨g, 0, none⟩) (n + 1) cap) (n + 1) (xs ++ cells) := by
  obtain ⟨cur, hb, hh, hcap, hm, hs, ht⟩ := own_form h
  have hle : (n + 1) * 11 ≤ cap * 11 := Nat.mul_le_mul_right 11 hcap
  obtain ⟨cur', k1, k2, k3⟩ := setCells_block g 47 (0, 0) cells (n * 11) w cur hh (by omega)
  refine ⟨by rw [List.length_append, hx, hc, Nat.add_mul], .inr ⟨g, cap, cur', rfl, hb, k1, hcap, hm, by omega, ?_⟩⟩
  have hx2 : cur.toList.take (n * 11) = xs := by
    have := congrArg (List.take (n * 11)) ht
    rw [List.take_take, Nat.min_eq_left (by omega), List.take_append_of_le_length (by omega), List.take_of_length_le (l := xs) (by omega)] at this
    exact this
  rw [k3, hx2, List.take_append_of_le_length (by rw [List.length_append, hx, hc]; omega), List.take_of_length_le (by rw [List.length_append, hx, hc]; omega)]
/-- what lies where while kids are put on top -/
structure BI (w : World) (ck : Array Value) (B Bn : Nat) (ks : List (Addr × Nat)) (sl : Value) (n0 : Nat) (base : List (List Value)) (Ds : List Nat) (pre : List Kc) (W : World) : Prop where
  gr : Gr w W
  sz : B ≤ W.heap.size
  row : ∃ A c, W.heap[w.heap.size + 4]? = some (.cells #[.slice A (n0 + pre.length) c] 45 (0, 0)) ∧ W.ownsRow (w.heap.size + 2) 47 11 (.slice A (n0 + pre.length) c) (n0 + pre.length) (base ++ pre.map kcCells).flatten
  chk : W.heap[w.heap.size]? = some (.cells ck 70 (0, 0))
  bx : W.heap[Bn]? = some (.cells #[sl] 45 (0, 0))
  map : MetAt W (w.heap.size + 3) ks
  marks : MarksAt W w.heap.size Ds
/-- but for the row and its box, all is as it was -/
def Far (w W W' : World) (v : Value) : Prop := W'.os = W.os ∧ W'.tape = W.tape ∧ W'.output = W.output ∧ W.heap.size ≤ W'.heap.size ∧ ∀ j, j < W.heap.size → j ≠ w.heap.size + 4 → some j ≠ v.ownBlock → W'.heap[j]? = W.heap[j]?
theorem own_old {w : World} {base j : Nat} {v : Value} {n : Nat} {xs : List Value} (h : w.ownsRow base 47 11 v n xs) (hj : some j = v.ownBlock) : base ≤ j ∧ ∃ c, w.heap[j]? = some (.cells c 47 (0, 0)) := by
  rcases h.2 with ⟨rfl, _⟩ | ⟨g, cap, cur, rfl, hb, hh, _⟩
  · simp [Value.ownBlock] at hj
  · simp [Value.ownBlock] at hj
    subst hj
    exact ⟨hb, cur, hh⟩
theorem bi_next {w W W' : World} {ck : Array Value} {B Bn : Nat} {ks : List (Addr × Nat)} {sl : Value} {n0 : Nat} {base : List (List Value)} {Ds : List Nat} {pre : List Kc} {x : Kc} {A : Option Addr} {c : Nat} (h : BI w ck B Bn ks sl n0 base Ds pre W)
    (h4 : W.heap[w.heap.size + 4]? = some (.cells #[.slice A (n0 + pre.length) c] 45 (0, 0))) (ho : W.ownsRow (w.heap.size + 2) 47 11 (.slice A (n0 + pre.length) c) (n0 + pre.length) (base ++ pre.map kcCells).flatten)
    (hB : w.heap.size + 4 < B) (hbn : Bn ≠ w.heap.size + 4) (hf : Far w W W' (.slice A (n0 + pre.length) c)) {g cap : Nat}
    (k4 : W'.heap[w.heap.size + 4]? = some (.cells #[.slice (some ⟨g, 0, none⟩) (n0 + pre.length + 1) cap] 45 (0, 0))) (ko : W'.ownsRow (w.heap.size + 2) 47 11 (.slice (some ⟨g, 0, none⟩) (n0 + pre.length + 1) cap) (n0 + pre.length + 1) ((base ++ pre.map kcCells).flatten ++ kcCells x)) :
    KeepsFrom B W W' ∧ KB w.heap.size Bn W W' ∧ BI w ck B Bn ks sl n0 base Ds (pre ++ [x]) W' := by
  obtain ⟨f1, f2, f3, f4, f5⟩ := hf
  have hg := h.gr
  have keep : ∀ j o, W.heap[j]? = some o → j ≠ w.heap.size + 4 → (∀ cs z, o ≠ .cells cs 47 z) → W'.heap[j]? = some o := fun j o ho' hj hn => by
    rw [f5 j (heap_lt ho') hj (fun e => by
      obtain ⟨_, cs, q⟩ := own_old ho e
      rw [ho'] at q
      exact hn cs (0, 0) (Option.some.inj q))]
    exact ho'
  have low : ∀ j, j < w.heap.size → W'.heap[j]? = W.heap[j]? := fun j hj => f5 j (Nat.lt_of_lt_of_le hj hg.size) (by omega) (fun e => by have := (own_old ho e).1; omega)
  refine ⟨⟨f4, fun j o _ hj hc => keep j o hj (fun e => by subst e; rw [h4] at hj; cases hj; cases hc) (fun cs z e => by subst e; cases hc)⟩, ⟨⟨f4, fun g o v hg' hv => ?_, fun g cs t z hg' hc => ⟨cs, by rw [low g hg']; exact hc⟩⟩, fun v hv => ?_⟩, ⟨⟨f1.trans hg.os, f2.trans hg.tape, f3.trans hg.output, Nat.le_trans hg.size f4, fun j hj _ => (low j hj).trans (hg.block j hj (by simp))⟩, Nat.le_trans h.sz f4, ⟨_, _, by simpa [Nat.add_assoc] using k4, ?_⟩, keep _ _ h.chk (by omega) (by simp), keep _ _ h.bx hbn (by simp), ?_, ?_⟩⟩
  · rw [World.cell?_of_block (a := ⟨g, o, none⟩) (low g hg')]
    exact hv
  · have hb := keep _ _ h.bx hbn (by simp)
    rw [cell_at hb]
    rw [cell_at h.bx] at hv
    exact hv
  · have e : (base ++ (pre ++ [x]).map kcCells).flatten = (base ++ pre.map kcCells).flatten ++ kcCells x := by simp
    rw [e]
    simpa [Nat.add_assoc] using ko
  · obtain ⟨es, cl, q1, q2⟩ := h.map
    exact ⟨es, cl, keep _ _ q1 (by omega) (by simp), q2⟩
  · exact ⟨h.marks.1, fun D hD => ⟨(h.marks.2 D hD).1, keep _ _ (h.marks.2 D hD).2 (fun e => by have := (h.marks.2 D hD).2; rw [e, h4] at this; cases this) (by simp)⟩⟩
theorem BI.own {w : World} {ck : Array Value} {B Bn : Nat} {ks : List (Addr × Nat)} {sl : Value} {n0 : Nat} {base : List (List Value)} {Ds : List Nat} (hB : w.heap.size + 4 < B) (hD : ∀ D ∈ Ds, D < B) : OwnFrom B (BI w ck B Bn ks sl n0 base Ds) := by
  intro s W W' row hs hg hr
  have hne : ∀ j o, W.heap[j]? = some o → (o.isCells = true ∨ j < B) → W'.heap[j]? = some o := fun j o hj hc => by
    refine (hg.block j (heap_lt hj) (fun e => ?_)).trans hj
    obtain ⟨q1, o', q2, q3⟩ := hr j e.symm
    rw [hj] at q2
    cases q2
    rcases hc with hc | hc
    · rw [hc] at q3; cases q3
    · omega
  obtain ⟨A, c, r1, r2⟩ := hs.row
  refine ⟨⟨hg.os.trans hs.gr.os, hg.tape.trans hs.gr.tape, hg.output.trans hs.gr.output, Nat.le_trans hs.gr.size hg.size, fun j hj _ => ?_⟩, Nat.le_trans hs.sz hg.size, ⟨A, c, hne _ _ r1 (.inl rfl), r2.1, ?_⟩, hne _ _ hs.chk (.inl rfl), hne _ _ hs.bx (.inl rfl), ?_, ⟨hs.marks.1, fun D hD' => ⟨(hs.marks.2 D hD').1, hne _ _ (hs.marks.2 D hD').2 (.inr (hD D hD'))⟩⟩⟩
  · rw [hg.block j (Nat.lt_of_lt_of_le hj hs.gr.size) (fun e => by have := (hr j e.symm).1; omega)]
    exact hs.gr.block j hj (by simp)
  · rcases r2.2 with hn | ⟨g, cap, cur, e, hb, hh, rest⟩
    · exact .inl hn
    · exact .inr ⟨g, cap, cur, e, hb, hne _ _ hh (.inl rfl), rest⟩
  · obtain ⟨es, cl, q1, q2⟩ := hs.map
    exact ⟨es, cl, hne _ _ q1 (.inr (by omega)), q2⟩
end Go.Proofs.Ytjkaeabnjkhllaa
