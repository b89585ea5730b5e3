/-
  ScopeTwice's pieces: names so far, a row of items with one changed; Named.
-/
import Derived.Test.YtjkaeabnjkhllaaScWit
import Derived.Test.YtjkaeabnjkhllaaScTwa
namespace Go.Proofs.Ytjkaeabnjkhllaa
open Go.RowKit

theorem info49 : (Try.prog.info? 49).map (fun i => (i.zero, i.size, i.bytes)) = some (some (.agg #[.int .i64 0, .string ⟨#[]⟩, .string ⟨#[]⟩, .int .i64 0, .string ⟨#[]⟩, .int .i64 0, .string ⟨#[]⟩, .slice none 0 0, .slice none 0 0, .int .i64 0, .string ⟨#[]⟩, .int .i64 0, .string ⟨#[]⟩, .int .i64 0, .string ⟨#[]⟩, .int .i64 0, .string ⟨#[]⟩, .int .i64 0, .string ⟨#[]⟩, .slice none 0 0, .int .i64 0, .string ⟨#[]⟩, .int .i64 0, .string ⟨#[]⟩, .int .i64 0, .string ⟨#[]⟩, .int .i64 0, .string ⟨#[]⟩, .int .i64 0, .string ⟨#[]⟩, .slice none 0 0, .int .i64 0, .string ⟨#[]⟩, .int .i64 0, .string ⟨#[]⟩, .int .i64 0, .string ⟨#[]⟩, .int .i64 0, .string ⟨#[]⟩, .int .i64 0, .string ⟨#[]⟩, .slice none 0 0]), 42, 568) := by kernel_rfl
theorem info9 : (Try.prog.info? 9).map (fun i => (i.zero, i.size, i.bytes)) = some (some (.string ⟨#[]⟩), 1, 16) := by kernel_rfl
theorem wrap5 {a : Nat} (h : a < 9223372036854775808) : IntKind.i64.wrap (a : Int) = (a : Int) := by
  rw [IntKind.wrap_i64]
  omega
theorem Named_any (k : Int) (w : World) : Calls Try.prog 23 #[.int .i64 k] w fun e w' => e = .returned (.bool (named k)) ∧ Gr w w' := by
  have hk : named k = (decide (k = 1) || decide (k = 2) || decide (k = 5) || (decide (7 ≤ k) && decide (k ≤ 10))) := by
    unfold named itemKind
    by_cases h1 : k = 1
    · simp [h1]
    by_cases h2 : k = 2
    · simp [h2]
    by_cases h5 : k = 5
    · simp [h5]
    by_cases h7 : k = 7
    · simp [h7]
    simp only [h1, h2, h5, h7, if_false]
    by_cases ha : k = 8 ∨ k = 9 ∨ k = 10
    · rcases ha with rfl | rfl | rfl <;> decide
    · have hb : ¬ 7 ≤ k ∨ ¬ k ≤ 10 := by omega
      rcases hb with hb | hb <;> simp [ha, hb]
  rw [hk]
  go_enter Try.func23, Try.ntmps23
  by_cases h1 : k = 1
  · have q1 : (k == 1) = true := by simp [h1]
    go_wp2_with fail
    go_ret
    exact ⟨by simp [h1], Gr.refl _⟩
  have q1 : (k == 1) = false := by simp [h1]
  by_cases h2 : k = 2
  · have q2 : (k == 2) = true := by simp [h2]
    go_wp2_with fail
    go_ret
    exact ⟨by simp [h2], Gr.refl _⟩
  have q2 : (k == 2) = false := by simp [h2]
  by_cases h5 : k = 5
  · have q5 : (k == 5) = true := by simp [h5]
    go_wp2_with fail
    go_ret
    exact ⟨by simp [h5], Gr.refl _⟩
  have q5 : (k == 5) = false := by simp [h5]
  by_cases h7 : 7 ≤ k
  · have q7 : decide ((7 : Int) ≤ k) = true := decide_eq_true h7
    go_wp2_with fail
    go_ret
    exact ⟨by first | (simp; done) | (simp [h1, h2, h5, h7]; done), Gr.refl _⟩
  · have q7 : decide ((7 : Int) ≤ k) = false := decide_eq_false h7
    go_wp2_with fail
    go_ret
    exact ⟨by first | (simp; done) | (simp [h1, h2, h5, h7]; done), Gr.refl _⟩
def strC (l : List ByteArray) : List Value := (l.map fun s => [Value.string s]).flatten
theorem strC_snoc (l : List ByteArray) (s : ByteArray) : strC (l ++ [s]) = strC l ++ [.string s] := by simp [strC]
theorem strC_at {l : List ByteArray} {i : Nat} {s : ByteArray} (h : l[i]? = some s) : (strC l)[i]? = some (.string s) := by
  induction l generalizing i with
  | nil => simp at h
  | cons x r ih =>
    cases i with
    | zero =>
      simp at h
      subst h
      rfl
    | succ i => simpa [strC] using ih (by simpa using h)
theorem app_strs (w : World) {ops : Array Oper} {rest : List Oper} {o : Oper} {a : Act} {Q : Exit → Act → World → Prop} (hgd : o.guard = none) (s x : Operand) (ho : o.op = .call { callee := .builtin .append, args := #[s, x], argTypes := #[30, 30] }) (base : Nat)
    (v : Value) (n : Nat) (xs : List Value) (hs : a.eval s = v) (hown : w.ownsRow base 9 1 v n xs) (A : Option Addr) (c : Nat) (l : List ByteArray) (hx : a.eval x = .slice A l.length c) (hr : ParamsAt w l (.slice A l.length c)) (h63 : n + l.length ≤ 4000) (hbase : base ≤ w.heap.size)
    (h : ∀ v' w', w'.ownsRow base 9 1 v' (n + l.length) (xs ++ strC l) → Below base w w' → wpList Try.prog ops Q rest (a.put o.dst v') w') : wpList Try.prog ops Q (o :: rest) a w := by
  obtain ⟨i0, hi, hz, hsz, hby⟩ := info_parts info9
  have hl : (l.map fun s => [Value.string s]).length = l.length := List.length_map _
  have h8 : RowC w 1 (.slice A (l.map fun s => [Value.string s]).length c) (l.map fun s => [Value.string s]) := by
    rw [hl]
    exact hr
  refine app_rows w hgd s x 30 ho base 9 (.string ⟨#[]⟩) 1 16 Try.underlying30 hi hz hsz hby rfl (by decide) v n xs hs hown A c (l.map fun s => [Value.string s]) (by rw [hl]; exact hx) h8 ?_ (by rw [hl]; unfold maxLen; omega) (by rw [hl]; omega) hbase (fun v' w' h1 h2 => h v' w' (by rw [hl] at h1; exact h1) h2)
  intro u hu
  simp only [List.mem_flatten, List.mem_map] at hu
  obtain ⟨d, ⟨q, -, rfl⟩, hu⟩ := hu
  obtain rfl := List.mem_singleton.1 hu
  rfl
theorem app_items (w : World) {ops : Array Oper} {rest : List Oper} {o : Oper} {a : Act} {Q : Exit → Act → World → Prop} (hgd : o.guard = none) (s x : Operand) (ho : o.op = .call { callee := .builtin .append, args := #[s, x], argTypes := #[32, 32] }) (base : Nat)
    (v : Value) (xs : List Value) (hs : a.eval s = v) (hown : w.ownsRow base 49 42 v 0 xs) (A : Option Addr) (c n : Nat) (css : List (List Value)) (hl : css.length = n) (hx : a.eval x = .slice A n c) (hr : RowC w 42 (.slice A n c) css) (h1 : ∀ u ∈ css.flatten, u.oneCell' = true) (h63 : n ≤ 1000) (hbase : base ≤ w.heap.size)
    (h : ∀ v' w', w'.ownsRow base 49 42 v' n (xs ++ css.flatten) → Below base w w' → wpList Try.prog ops Q rest (a.put o.dst v') w') : wpList Try.prog ops Q (o :: rest) a w := by
  obtain ⟨i0, hi, hz, hsz, hby⟩ := info_parts info49
  subst hl
  exact app_rows w hgd s x 32 ho base 49 (.agg #[.int .i64 0, .string ⟨#[]⟩, .string ⟨#[]⟩, .int .i64 0, .string ⟨#[]⟩, .int .i64 0, .string ⟨#[]⟩, .slice none 0 0, .slice none 0 0, .int .i64 0, .string ⟨#[]⟩, .int .i64 0, .string ⟨#[]⟩, .int .i64 0, .string ⟨#[]⟩, .int .i64 0, .string ⟨#[]⟩, .int .i64 0, .string ⟨#[]⟩, .slice none 0 0, .int .i64 0, .string ⟨#[]⟩, .int .i64 0, .string ⟨#[]⟩, .int .i64 0, .string ⟨#[]⟩, .int .i64 0, .string ⟨#[]⟩, .int .i64 0, .string ⟨#[]⟩, .slice none 0 0, .int .i64 0, .string ⟨#[]⟩, .int .i64 0, .string ⟨#[]⟩, .int .i64 0, .string ⟨#[]⟩, .int .i64 0, .string ⟨#[]⟩, .int .i64 0, .string ⟨#[]⟩, .slice none 0 0]) 42 568 Try.underlying32 hi hz hsz hby rfl (by decide) v 0 xs hs hown A c css hx hr h1 (by unfold maxLen; omega) (by omega) hbase (fun v' w' h1 h2 => h v' w' (by rw [Nat.zero_add] at h1; exact h1) h2)
theorem own_mt (w : World) : (w.alloc (.cells #[] 49)).ownsRow w.heap.size 49 42 (.slice (some ⟨w.heap.size, 0, none⟩) 0 0) 0 [] :=
  ⟨by simp, .inr ⟨w.heap.size, 0, #[], rfl, Nat.le_refl _, new_at _ _, Nat.le_refl _, Nat.zero_le _, by simp, by simp⟩⟩
theorem items_one {w : World} {its : List It} {css : List (List Value)} (hl : css.length = its.length) (hi : ∀ (j : Nat) (i : It), its[j]? = some i → ∃ cs, css[j]? = some cs ∧ ItAt w i cs) : ∀ u ∈ css.flatten, u.oneCell' = true := fun u hu => by
  obtain ⟨d, hd, hu⟩ := List.mem_flatten.1 hu
  obtain ⟨j, hj⟩ := List.mem_iff_getElem?.1 hd
  have hjl := (List.getElem?_eq_some_iff.1 hj).1
  obtain ⟨cs, h1, h2⟩ := hi j _ (List.getElem?_eq_getElem (by omega))
  obtain rfl := Option.some.inj (hj.symm.trans h1)
  exact (Array.all_eq_true_iff_forall_mem.1 (it_one h2)) u (by simpa using hu)
/-- the names so far, a row of one's own -/
def TwP (W : World) (v : Value) (l : List ByteArray) (u : World) : Prop := Gr W u ∧ u.ownsRow W.heap.size 9 1 v l.length (strC l)
theorem TwP.gr {W : World} {v : Value} {l : List ByteArray} {u u' : World} (h : TwP W v l u) (hg : Gr u u') : TwP W v l u' := ⟨h.1.trans hg, own_up h.2 hg⟩
theorem tw_step {W : World} {v v' : Value} {l : List ByteArray} {s : ByteArray} {u w6 : World} (h : TwP W v l u) (hgrow : u.grownBy w6 v.ownBlock) (hown : w6.ownsRow W.heap.size 9 1 v' (l.length + 1) (strC l ++ [.string s])) : TwP W v' (l ++ [s]) w6 := by
  obtain ⟨h1, h2⟩ := h
  refine ⟨⟨hgrow.os.trans h1.os, hgrow.tape.trans h1.tape, hgrow.output.trans h1.output, by have := h1.size; have := hgrow.size; omega, fun g hg _ => (hgrow.block g (by have := h1.size; omega) (fun e => by have := (h2.lt g e.symm).1; omega)).trans (h1.block g hg (by simp))⟩, ?_⟩
  rw [strC_snoc, List.length_append]
  exact hown
theorem reC {x : It} {cs : List Value} {w : World} (h : ItAt w x cs) (s : ByteArray) : ItAt w (reName x s) (cs.set 1 (.string s)) := by
  obtain ⟨av, bv, ce, ca, ci, rfl, h1, h2, h3, h4, h5⟩ := h
  exact ⟨av, bv, ce, ca, ci, rfl, h1, h2, h3, h4, h5⟩
theorem it_nk {x : It} {cs : List Value} {w : World} (h : ItAt w x cs) : cs[1]? = some (.string x.name) ∧ cs[0]? = some (.int .i64 x.kind) := by
  obtain ⟨av, bv, ce, ca, ci, rfl, _⟩ := h
  exact ⟨rfl, rfl⟩
/-- a row of items, one changed in place -/
theorem items_set {w u : World} {its : List It} {css : List (List Value)} {g n c : Nat} {cs : List Value} {k : Nat} {x : It} {s : ByteArray} (hr : RowC u 42 (.slice (some ⟨g, 0, none⟩) n c) css) (ho : ∃ cur, u.heap[g]? = some (.cells cur 49 (0, 0)) ∧ n * 42 ≤ cur.size)
    (hl : css.length = its.length) (hi : ∀ (j : Nat) (i : It), its[j]? = some i → ∃ cs, css[j]? = some cs ∧ ItAt w i cs) (hx : its[k]? = some x) (hc : css[k]? = some cs) (hB : w.heap.size ≤ g) (hg : Gr w u) :
    ItemsAt (u.setCells g (k * 42) (cs.set 1 (.string s))) (its.set k (reName x s)) (.slice (some ⟨g, 0, none⟩) n c) := by
  have hk := (List.getElem?_eq_some_iff.1 hc).1
  obtain ⟨r0, r1, A, cap, e, r3, r4, r5⟩ := hr
  simp only [Value.slice.injEq] at e
  obtain ⟨rfl, rfl, rfl⟩ := e
  obtain ⟨cur, hcur, hcs⟩ := ho
  have hcl : (cs.set 1 (.string s)).length = 42 := by rw [List.length_set]; exact r1 cs (List.mem_of_getElem? hc)
  have hth : u.there g (k * 42) (cs.set 1 (.string s)).length := there_in hcur (by rw [hcl]; omega)
  have hgu : Gr w (u.setCells g (k * 42) (cs.set 1 (.string s))) := gr_sets hB _ _ _ hg
  have hsz : (u.setCells g (k * 42) (cs.set 1 (.string s))).heap.size = u.heap.size := by
    have : ∀ (vs : List Value) (o : Nat) (w : World), (w.setCells g o vs).heap.size = w.heap.size := fun vs => by
      induction vs with
      | nil => intro o w; rfl
      | cons v r ih => intro o w; exact (ih (o + 1) _).trans (by simp [World.setCell])
    exact this _ _ _
  refine ⟨css.set k (cs.set 1 (.string s)), ⟨by rw [List.length_set]; exact r0, fun d hd => ?_, some ⟨g, 0, none⟩, c, by rw [List.length_set], by rw [List.length_set]; exact r3, fun j d hd => ?_, fun g' o' n' c' e hn => ?_⟩, by rw [List.length_set, List.length_set, hl], fun j i hj => ?_⟩
  · rcases List.mem_or_eq_of_mem_set hd with h1 | rfl
    · exact r1 d h1
    · exact hcl
  · by_cases e : j = k
    · subst e
      rw [List.getElem?_set_self hk] at hd
      obtain rfl := Option.some.inj hd
      refine ⟨g, 0, rfl, by rw [hsz]; exact heap_lt hcur, ?_⟩
      rw [Nat.zero_add]
      exact World.rangeAt_setCells_same _ _ _ _ hth
    · rw [List.getElem?_set_ne (fun h => e h.symm)] at hd
      obtain ⟨g', o', e', hg', hr'⟩ := r4 j d hd
      simp only [Option.some.injEq, Addr.mk.injEq, and_true] at e'
      obtain ⟨rfl, rfl⟩ := e'
      refine ⟨g, 0, rfl, by rw [hsz]; exact hg', World.rangeAt_setCells_apart hr' _ _ _ (.inr ?_)⟩
      have hdl := r1 d (List.mem_of_getElem? hd)
      rw [hcl, hdl]
      rcases Nat.lt_or_gt_of_ne e with h | h
      · left
        have : (j + 1) * 42 ≤ k * 42 := Nat.mul_le_mul_right _ h
        omega
      · right
        have : (k + 1) * 42 ≤ j * 42 := Nat.mul_le_mul_right _ h
        omega
  · simp only [Value.slice.injEq, Option.some.injEq, Addr.mk.injEq, and_true] at e
    obtain ⟨⟨rfl, rfl⟩, -⟩ := e
    obtain ⟨cur', k1, -⟩ := setCells_block g 49 (0, 0) (cs.set 1 (.string s)) (k * 42) u cur hcur (by rw [hcl]; omega)
    exact ⟨cur', 49, (0, 0), k1, by simp⟩
  · by_cases e : j = k
    · subst e
      rw [List.getElem?_set_self (by omega)] at hj
      obtain rfl := Option.some.inj hj
      obtain ⟨cs', h1, h2⟩ := hi j x hx
      obtain rfl := Option.some.inj (hc.symm.trans h1)
      exact ⟨_, List.getElem?_set_self hk, reC (h2.gr hgu) s⟩
    · rw [List.getElem?_set_ne (fun h => e h.symm)] at hj
      obtain ⟨cs', h1, h2⟩ := hi j i hj
      exact ⟨cs', by rw [List.getElem?_set_ne (fun h => e h.symm)]; exact h1, h2.gr hgu⟩
end Go.Proofs.Ytjkaeabnjkhllaa
