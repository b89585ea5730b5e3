/-
  THE PARSER's SMALL READERS, WALKED.
-/
import Derived.Test.YtccjbpghpoblhaaDoorK03
import Derived.Deep.QuietTactic
import Derived.BigQuiet
/-
  THE PARSER IN MEMORY: its block, its tokens; what a reader leaves.
-/
namespace Go.Proofs.YtccjbpghpoblhaaDoor
open Go.RowKit

/-- tokens in memory: each one's four cells, in a block that is not the parser's -/
def TokAt (w : World) (b B : Nat) (A : Option Addr) (T : List LexM.Tk) : Prop :=
  ∀ i t, T[i]? = some t → ∃ g off, A = some ⟨g, off, none⟩ ∧ g ≠ b ∧ g < B ∧ w.cell? ⟨g, off + i * 4, none⟩ = some (.int .i64 (t.kind : Nat)) ∧ w.cell? ⟨g, off + i * 4 + 1, none⟩ = some (.string (str t.text)) ∧
    w.cell? ⟨g, off + i * 4 + 2, none⟩ = some (.int .i64 (t.n : Nat)) ∧ w.cell? ⟨g, off + i * 4 + 3, none⟩ = some (.int .i64 (t.pos : Nat))

/-- the table of operators: sign, level, op -/
def opTab : List (List UInt8 × Nat × Nat) := [([124], 1, 7), ([94], 2, 8), ([38], 3, 6), ([61, 61], 4, 12), ([33, 61], 4, 13), ([60], 4, 14), ([60, 61], 4, 15), ([43], 5, 9), ([45], 5, 10), ([42], 6, 11)]
def opArr : Array Value := (opTab.flatMap fun t => [Value.string (str t.1), Value.int .i64 (t.2.1 : Nat), Value.int .i64 (t.2.2 : Nat)]).toArray
def OpLaid (w : World) : Prop := ∃ t fr, w.heap[1]? = some (.cells opArr t fr)
theorem OpLaid.same {w w' : World} (h : OpLaid w) (e : w'.heap[1]? = w.heap[1]?) : OpLaid w' := by
  obtain ⟨t, fr, h⟩ := h; exact ⟨t, fr, e.trans h⟩

/-- what of a parser stays -/
structure Pr where
  b : Nat
  B : Nat
  A : Option Addr
  cp : Nat
  T : List LexM.Tk
  sz : Nat
  rb : Nat
  ro : Obj

/-- what of it turns, but for which token is next -/
structure Va where
  mo : Nat
  it : Nat
  fa : Value

def prCells (P : Pr) (V : Va) (n : Nat) : Array Value := #[.slice P.A P.T.length P.cp, .int .i64 (P.sz : Nat), .int .i64 (n : Nat), .int .i64 (V.mo : Nat), .int .i64 (V.it : Nat), Value.map (some P.rb), V.fa]

/-- the rules of items: word, kind, function -/
def ruleTab : List (List UInt8 × Nat × Nat) := [([119, 105, 114, 101], 1, 44), ([114, 101, 103], 2, 45), ([109, 101, 109], 5, 46), ([105, 110, 115, 116], 7, 47), ([97, 115, 115, 101, 114, 116], 8, 48), ([97, 115, 115, 117, 109, 101], 9, 48), ([99, 111, 118, 101, 114], 10, 48), ([110, 101, 120, 116], 3, 49), ([111, 117, 116], 4, 49), ([112, 117, 116], 6, 50)]
def ruleV (b : Nat) (t : List UInt8 × Nat × Nat) : Value := .agg #[.int .i64 (t.2.1 : Nat), .func (.func t.2.2) #[.pointer (some ⟨b, 0, none⟩)] #[]]
def RulesOk (P : Pr) : Prop := ∃ es clock, P.ro = .map es clock ∧ es.toList.map (fun e => (e.key, e.val)) = ruleTab.map fun t => (Value.string (str t.1), ruleV P.b t)

structure St (P : Pr) (V : Va) (n : Nat) (w : World) : Prop where
  blk : w.heap[P.b]? = some (.cells (prCells P V n) 70 (0, 0))
  tok : TokAt w P.b P.B P.A P.T
  opl : OpLaid w
  ob : 1 < P.B ∧ 1 ≠ P.b
  rul : w.heap[P.rb]? = some P.ro
  rl : P.rb < P.B ∧ P.rb ≠ P.b
  rok : RulesOk P
  lb : P.b < P.B
  hB : P.B ≤ w.heap.size
  le : n ≤ P.T.length
  bd : P.T.length ≤ 20000
  tl : ∀ t ∈ P.T, t.text.length ≤ 20000

theorem St.lt {P : Pr} {V : Va} {n : Nat} {w : World} (h : St P V n w) : P.b < w.heap.size := Nat.lt_of_lt_of_le h.lb h.hB

theorem cell_at {w : World} {b o : Nat} {c : Array Value} {t : TypeId} {z : Nat × Nat} (h : w.heap[b]? = some (.cells c t z)) : w.cell? ⟨b, o, none⟩ = c[o]? := by
  simp [World.cell?, h]
theorem frozen_at {w : World} {b o : Nat} {c : Array Value} {t : TypeId} (h : w.heap[b]? = some (.cells c t (0, 0))) : w.frozen? ⟨b, o, none⟩ = false := by
  simp [World.frozen?, h]

theorem St.c0 {P : Pr} {V : Va} {n : Nat} {w : World} (h : St P V n w) : w.cell? ⟨P.b, 0, none⟩ = some (.slice P.A P.T.length P.cp) := by rw [cell_at h.blk]; rfl
theorem St.c1 {P : Pr} {V : Va} {n : Nat} {w : World} (h : St P V n w) : w.cell? ⟨P.b, 1, none⟩ = some (.int .i64 (P.sz : Nat)) := by rw [cell_at h.blk]; rfl
theorem St.c2 {P : Pr} {V : Va} {n : Nat} {w : World} (h : St P V n w) : w.cell? ⟨P.b, 2, none⟩ = some (.int .i64 (n : Nat)) := by rw [cell_at h.blk]; rfl
theorem St.c3 {P : Pr} {V : Va} {n : Nat} {w : World} (h : St P V n w) : w.cell? ⟨P.b, 3, none⟩ = some (.int .i64 (V.mo : Nat)) := by rw [cell_at h.blk]; rfl
theorem St.c4 {P : Pr} {V : Va} {n : Nat} {w : World} (h : St P V n w) : w.cell? ⟨P.b, 4, none⟩ = some (.int .i64 (V.it : Nat)) := by rw [cell_at h.blk]; rfl
theorem St.c5 {P : Pr} {V : Va} {n : Nat} {w : World} (h : St P V n w) : w.cell? ⟨P.b, 5, none⟩ = some (.map (some P.rb)) := by rw [cell_at h.blk]; rfl
theorem St.c6 {P : Pr} {V : Va} {n : Nat} {w : World} (h : St P V n w) : w.cell? ⟨P.b, 6, none⟩ = some V.fa := by rw [cell_at h.blk]; rfl
theorem St.fz {P : Pr} {V : Va} {n : Nat} {w : World} (h : St P V n w) (o : Nat) : w.frozen? ⟨P.b, o, none⟩ = false := frozen_at h.blk

/-- nothing but the parser's block has turned -/
abbrev Fr (b : Nat) (w w' : World) : Prop := w.grownBy w' (some b)
theorem Fr.refl (b : Nat) (w : World) : Fr b w w := ⟨rfl, rfl, rfl, Nat.le_refl _, fun _ _ _ => rfl⟩
theorem Fr.trans {b : Nat} {w w1 w2 : World} (h : Fr b w w1) (k : Fr b w1 w2) : Fr b w w2 :=
  ⟨k.os.trans h.os, k.tape.trans h.tape, k.output.trans h.output, Nat.le_trans h.size k.size, fun i hi hb => (k.block i (Nat.lt_of_lt_of_le hi h.size) hb).trans (h.block i hi hb)⟩
theorem Fr.drewN (b : Nat) (w : World) (n : Nat) : Fr b w (w.drewN n) := ⟨rfl, rfl, rfl, Nat.le_refl _, fun _ _ _ => rfl⟩
theorem Fr.alloc (b : Nat) (w : World) (o : Obj) : Fr b w (w.alloc o) := ⟨rfl, rfl, rfl, by simp, fun k hk _ => Below.heap_alloc _ _ _ hk⟩
theorem Fr.set (w : World) (a : Addr) (u : Value) : Fr a.block w (w.setCell a u) := ⟨rfl, rfl, rfl, by simp [World.setCell], fun k _ hb => Below.heap_setCell _ _ _ _ (fun e => hb (by rw [e]))⟩

theorem heap_lt {w : World} {g : Nat} {o : Obj} (h : w.heap[g]? = some o) : g < w.heap.size := by
  rcases Nat.lt_or_ge g w.heap.size with h1 | h1
  · exact h1
  · rw [Array.getElem?_eq_none h1] at h; cases h
theorem new_at (w : World) (o : Obj) : (w.alloc o).heap[w.heap.size]? = some o := by
  show (w.heap.push o)[w.heap.size]? = _
  simp
/-- a block that is not the parser's stays -/
theorem Fr.keep {b g : Nat} {w w' : World} {o : Obj} (h : Fr b w w') (ho : w.heap[g]? = some o) (hb : g ≠ b) : w'.heap[g]? = some o :=
  (h.block g (heap_lt ho) (fun e => hb (Option.some.inj e))).trans ho
/-- a store into a new block -/
theorem Fr.put {b : Nat} {w w' : World} (h : Fr b w w') {a : Addr} (ha : w.heap.size ≤ a.block) (u : Value) : Fr b w (w'.setCell a u) :=
  ⟨h.os, h.tape, h.output, by simpa [World.setCell] using h.size, fun k hk hb => (Below.heap_setCell _ _ _ _ (by omega)).trans (h.block k hk hb)⟩
theorem Fr.more {b : Nat} {w w' : World} (h : Fr b w w') (o : Obj) : Fr b w (w'.alloc o) := h.trans (Fr.alloc _ _ _)
theorem Fr.drawn {b : Nat} {w w' : World} (h : Fr b w w') (n : Nat) : Fr b w (w'.drewN n) := h.trans (Fr.drewN _ _ _)
theorem Fr.draw {b : Nat} {w w' : World} (h : Fr b w w') : Fr b w w'.drew := h.trans ⟨rfl, rfl, rfl, Nat.le_refl _, fun _ _ _ => rfl⟩

theorem TokAt.same {w w' : World} {b B : Nat} {A : Option Addr} {T : List LexM.Tk} (h : TokAt w b B A T) (hf : ∀ g, g < B → g ≠ b → w'.heap[g]? = w.heap[g]?) : TokAt w' b B A T := by
  intro i t ht
  obtain ⟨g, off, e, hne, hlt, c0, c1, c2, c3⟩ := h i t ht
  have hc : ∀ o, w'.cell? ⟨g, o, none⟩ = w.cell? ⟨g, o, none⟩ := fun o => World.cell?_of_block (a := ⟨g, o, none⟩) (hf g hlt hne)
  exact ⟨g, off, e, hne, hlt, (hc _).trans c0, (hc _).trans c1, (hc _).trans c2, (hc _).trans c3⟩

theorem St.drewN {P : Pr} {V : Va} {n : Nat} {w : World} (h : St P V n w) (k : Nat) : St P V n (w.drewN k) := ⟨h.blk, h.tok, h.opl, h.ob, h.rul, h.rl, h.rok, h.lb, h.hB, h.le, h.bd, h.tl⟩
theorem St.drew {P : Pr} {V : Va} {n : Nat} {w : World} (h : St P V n w) : St P V n w.drew := ⟨h.blk, h.tok, h.opl, h.ob, h.rul, h.rl, h.rok, h.lb, h.hB, h.le, h.bd, h.tl⟩
theorem St.alloc {P : Pr} {V : Va} {n : Nat} {w : World} (h : St P V n w) (o : Obj) : St P V n (w.alloc o) :=
  ⟨(Below.heap_alloc _ _ _ h.lt).trans h.blk, h.tok.same (fun g hg _ => Below.heap_alloc _ _ _ (Nat.lt_of_lt_of_le hg h.hB)), h.opl.same (Below.heap_alloc _ _ _ (Nat.lt_of_lt_of_le h.ob.1 h.hB)), h.ob, (Below.heap_alloc _ _ _ (Nat.lt_of_lt_of_le h.rl.1 h.hB)).trans h.rul, h.rl, h.rok, h.lb, by have := h.hB; simp; omega, h.le, h.bd, h.tl⟩
/-- a store into a block of later make -/
theorem St.put {P : Pr} {V : Va} {n : Nat} {w : World} (h : St P V n w) {a : Addr} (ha : P.B ≤ a.block) (u : Value) : St P V n (w.setCell a u) :=
  ⟨(Below.heap_setCell _ _ _ _ (by have := h.lb; omega)).trans h.blk, h.tok.same (fun g hg _ => Below.heap_setCell _ _ _ _ (by omega)), h.opl.same (Below.heap_setCell _ _ _ _ (by have := h.ob.1; omega)), h.ob, (Below.heap_setCell _ _ _ _ (by have := h.rl.1; omega)).trans h.rul, h.rl, h.rok, h.lb, by simpa [World.setCell] using h.hB, h.le, h.bd, h.tl⟩
/-- another token is next -/
theorem St.set {P : Pr} {V : Va} {n : Nat} {w : World} (h : St P V n w) (m : Nat) (hm : m ≤ P.T.length) : St P V m (w.setCell ⟨P.b, 2, none⟩ (.int .i64 (m : Nat))) := by
  refine ⟨?_, h.tok.same (fun g _ hb => Below.heap_setCell _ _ _ _ hb), h.opl.same (Below.heap_setCell _ _ _ _ h.ob.2), h.ob, (Below.heap_setCell _ _ _ _ h.rl.2).trans h.rul, h.rl, h.rok, h.lb, by simpa [World.setCell] using h.hB, hm, h.bd, h.tl⟩
  simp only [World.setCell, Array.getElem?_modify, h.blk]
  rfl

/-- a fault, as a panic has it -/
abbrev faultV (er k : Nat) : Value := .iface 89 (.agg #[.int .i64 (er : Nat), .int .i64 (k : Nat)])
abbrev panicV (er k : Nat) : Ending := .panicked [{ v := faultV er k, recovered := false }]

abbrev PR (α : Type) := Except (Nat × Nat) (α × Nat)

/-- what a reader leaves: what it has read, and the next token; or its fault -/
def Got {α : Type} (P : Pr) (V : Va) (w : World) (r : PR α) (val : α → World → Value → Prop) (e : Ending) (w' : World) : Prop :=
  Fr P.b w w' ∧ match r with
    | .ok (a, n) => St P V n w' ∧ ∃ v, e = .returned v ∧ val a w' v
    | .error x => (∃ n, St P V n w') ∧ e = panicV x.1 x.2

theorem Got.elim {α : Type} {P : Pr} {V : Va} {w w' : World} {r : PR α} {val : α → World → Value → Prop} {e : Ending} (h : Got P V w r val e w') :
    (∃ x m, r = .error x ∧ Fr P.b w w' ∧ St P V m w' ∧ e = panicV x.1 x.2) ∨ (∃ a m v, r = .ok (a, m) ∧ Fr P.b w w' ∧ St P V m w' ∧ e = .returned v ∧ val a w' v) := by
  obtain ⟨hf, h⟩ := h
  rcases r with x | ⟨a, m⟩
  · obtain ⟨⟨m, hs⟩, he⟩ := h; exact .inl ⟨x, m, rfl, hf, hs, he⟩
  · obtain ⟨hs, v, he, hv⟩ := h; exact .inr ⟨a, m, v, rfl, hf, hs, he, hv⟩

/-- a token's text, if there is one -/
def textAt (T : List LexM.Tk) (n : Nat) : Option (List UInt8) := T[n]?.map (·.text)
def tokIs (T : List LexM.Tk) (n : Nat) (l : List UInt8) : Bool := textAt T n == some l
def kindIs (T : List LexM.Tk) (n : Nat) (k : Nat) : Bool := T[n]?.map (·.kind) == some k

end Go.Proofs.YtccjbpghpoblhaaDoor

namespace Go.Proofs.YtccjbpghpoblhaaDoor
open Go.RowKit

theorem str_toList (a : List UInt8) : (str a).toList = a := by
  rw [ByteArray.toList_eq, str_data]

theorem textAt_some {T : List LexM.Tk} {n : Nat} {t : LexM.Tk} (h : T[n]? = some t) : textAt T n = some t.text := by unfold textAt; rw [h]; rfl
theorem textAt_none {T : List LexM.Tk} {n : Nat} (h : ¬ n < T.length) : textAt T n = none := by unfold textAt; rw [List.getElem?_eq_none (by omega)]; rfl
theorem tokIs_some {T : List LexM.Tk} {n : Nat} {t : LexM.Tk} (h : T[n]? = some t) (l : List UInt8) : tokIs T n l = (t.text == l) := by unfold tokIs; rw [textAt_some h]; simp
theorem tokIs_none {T : List LexM.Tk} {n : Nat} (h : ¬ n < T.length) (l : List UInt8) : tokIs T n l = false := by unfold tokIs; rw [textAt_none h]; rfl
theorem kindIs_some {T : List LexM.Tk} {n : Nat} {t : LexM.Tk} (h : T[n]? = some t) (k : Nat) : kindIs T n k = (t.kind == k) := by unfold kindIs; rw [h]; simp
theorem kindIs_none {T : List LexM.Tk} {n : Nat} (h : ¬ n < T.length) (k : Nat) : kindIs T n k = false := by unfold kindIs; rw [List.getElem?_eq_none (by omega)]; rfl
theorem tokIs_lt {T : List LexM.Tk} {n : Nat} {l : List UInt8} (h : tokIs T n l = true) : n < T.length := by
  rcases Nat.lt_or_ge n T.length with h1 | h1
  · exact h1
  · rw [tokIs_none (by omega)] at h; cases h
theorem kindIs_lt {T : List LexM.Tk} {n k : Nat} (h : kindIs T n k = true) : n < T.length := by
  rcases Nat.lt_or_ge n T.length with h1 | h1
  · exact h1
  · rw [kindIs_none (by omega)] at h; cases h

set_option maxHeartbeats 1000000 in
theorem is_q (P : Pr) (V : Va) (n : Nat) (l : List UInt8) (w : World) (h : Hid (St P V n w)) :
    Calls Tryd.prog 52 #[.pointer (some ⟨P.b, 0, none⟩), .string (str l)] w fun e w' => e = .returned (.bool (tokIs P.T n l)) ∧ ∃ k, w' = w.drewN k := by
  have c0 := h.out.c0
  have c2 := h.out.c2
  have hbd := h.out.bd
  by_cases hn : n < P.T.length
  · have ht : P.T[n]? = some P.T[n] := List.getElem?_eq_getElem hn
    generalize P.T[n] = t at ht
    obtain ⟨g, off, hA, hne, hlt, k0, k1, k2, k3⟩ := h.out.tok n t ht
    have hd : decide ((n : Int) < (P.T.length : Int)) = true := by simp; omega
    have HT := Lib.hid ht
    clear ht
    rw [hA] at c0
    go_enter Tryd.func52, Tryd.ntmps52
    go_wp2_with fail
    go_quiet (fail)
    go_wp2_with fail
    go_ret
    exact ⟨ret_bool (by rw [tokIs_some HT.out, str_toList, str_toList]), _, rfl⟩
  · have hd : decide ((n : Int) < (P.T.length : Int)) = false := by simp; omega
    go_enter Tryd.func52, Tryd.ntmps52
    go_wp2_with fail
    go_quiet (fail)
    go_wp2_with fail
    go_ret
    exact ⟨ret_bool (by rw [tokIs_none hn]), _, rfl⟩

set_option maxHeartbeats 1000000 in
theorem isKind_q (P : Pr) (V : Va) (n q : Nat) (w : World) (h : Hid (St P V n w)) :
    Calls Tryd.prog 68 #[.pointer (some ⟨P.b, 0, none⟩), .int .i64 (q : Nat)] w fun e w' => e = .returned (.bool (kindIs P.T n q)) ∧ ∃ k, w' = w.drewN k := by
  have c0 := h.out.c0
  have c2 := h.out.c2
  have hbd := h.out.bd
  by_cases hn : n < P.T.length
  · have ht : P.T[n]? = some P.T[n] := List.getElem?_eq_getElem hn
    generalize P.T[n] = t at ht
    obtain ⟨g, off, hA, hne, hlt, k0, k1, k2, k3⟩ := h.out.tok n t ht
    have hd : decide ((n : Int) < (P.T.length : Int)) = true := by simp; omega
    have HT := Lib.hid ht
    clear ht
    rw [hA] at c0
    go_enter Tryd.func68, Tryd.ntmps68
    go_wp2_with fail
    go_quiet (fail)
    go_wp2_with fail
    go_ret
    refine ⟨ret_bool ?_, _, rfl⟩
    rw [kindIs_some HT.out, Bool.eq_iff_iff]; simp; omega
  · have hd : decide ((n : Int) < (P.T.length : Int)) = false := by simp; omega
    go_enter Tryd.func68, Tryd.ntmps68
    go_wp2_with fail
    go_quiet (fail)
    go_wp2_with fail
    go_ret
    exact ⟨ret_bool (by rw [kindIs_none hn]), _, rfl⟩

theorem is_b {P : Pr} {V : Va} {n : Nat} {l : List UInt8} {b : Bool} {w : World} (h : Hid (St P V n w)) (hb : tokIs P.T n l = b) :
    Calls Tryd.prog 52 #[.pointer (some ⟨P.b, 0, none⟩), .string (str l)] w fun e w' => e = .returned (.bool b) ∧ ∃ k, w' = w.drewN k := by
  subst hb; exact is_q P V n l w h
theorem is_s {P : Pr} {V : Va} {n : Nat} {l : List UInt8} {b : Bool} {w : World} (h : Hid (St P V n w)) (hb : tokIs P.T n l = b) :
    Calls Tryd.prog 52 #[.pointer (some ⟨P.b, 0, none⟩), .string (str l)] w fun e w' => e = .returned (.bool b) ∧ Fr P.b w w' ∧ St P V n w' :=
  (is_b h hb).mono fun _ _ ⟨he, k, hw⟩ => ⟨he, by rw [hw]; exact Fr.drewN _ _ _, by rw [hw]; exact h.out.drewN k⟩
theorem isKind_b {P : Pr} {V : Va} {n q : Nat} {b : Bool} {w : World} (h : Hid (St P V n w)) (hb : kindIs P.T n q = b) :
    Calls Tryd.prog 68 #[.pointer (some ⟨P.b, 0, none⟩), .int .i64 (q : Nat)] w fun e w' => e = .returned (.bool b) ∧ ∃ k, w' = w.drewN k := by
  subst hb; exact isKind_q P V n q w h
theorem isKind_s {P : Pr} {V : Va} {n q : Nat} {b : Bool} {w : World} (h : Hid (St P V n w)) (hb : kindIs P.T n q = b) :
    Calls Tryd.prog 68 #[.pointer (some ⟨P.b, 0, none⟩), .int .i64 (q : Nat)] w fun e w' => e = .returned (.bool b) ∧ Fr P.b w w' ∧ St P V n w' :=
  (isKind_b h hb).mono fun _ _ ⟨he, k, hw⟩ => ⟨he, by rw [hw]; exact Fr.drewN _ _ _, by rw [hw]; exact h.out.drewN k⟩

/-- giveUp: at the end of nothing but ErrEnd -/
def gu (T : List LexM.Tk) (n er : Nat) : Nat × Nat := (if n = T.length then 21 else er, n)

theorem panic_eq {er k : Nat} {x y : Int} (h1 : (er : Int) = x) (h2 : (k : Int) = y) : Ending.panicked [{ v := .iface 89 (.agg #[.int .i64 x, .int .i64 y]), recovered := false }] = panicV er k := by
  subst h1 h2; rfl

set_option maxHeartbeats 1000000 in
theorem giveUp_any (P : Pr) (V : Va) (n er : Nat) (w : World) (h : Hid (St P V n w)) :
    Calls Tryd.prog 53 #[.pointer (some ⟨P.b, 0, none⟩), .int .i64 (er : Nat)] w fun e w' => e = panicV (gu P.T n er).1 (gu P.T n er).2 ∧ Fr P.b w w' ∧ St P V n w' := by
  have c0 := h.out.c0
  have c2 := h.out.c2
  have hbd := h.out.bd
  by_cases hn : n = P.T.length
  · have hd : ((n : Int) == (P.T.length : Int)) = true := by simp; omega
    have HN := Lib.hid hn
    clear hn
    go_enter Tryd.func53, Tryd.ntmps53
    go_wp2_with fail
    go_quiet (fail)
    go_wp2_with fail
    exact ⟨rfl, panic_eq (by unfold gu; rw [if_pos HN.out]; rfl) (by rfl), Fr.drewN _ _ _, h.out.drewN _⟩
  · have hd : ((n : Int) == (P.T.length : Int)) = false := by simp; omega
    go_enter Tryd.func53, Tryd.ntmps53
    go_wp2_with fail
    go_quiet (fail)
    go_wp2_with fail
    exact ⟨rfl, panic_eq (by unfold gu; rw [if_neg hn]) (by rfl), Fr.drewN _ _ _, h.out.drewN _⟩

def TakeYes (P : Pr) (V : Va) (n : Nat) (w : World) (e : Ending) (w' : World) : Prop := e = .returned (.bool true) ∧ Fr P.b w w' ∧ St P V (n + 1) w'
def TakeNo (P : Pr) (V : Va) (n : Nat) (w : World) (e : Ending) (w' : World) : Prop := e = .returned (.bool false) ∧ Fr P.b w w' ∧ St P V n w'

theorem next_set {P : Pr} {V : Va} {n : Nat} {w : World} (h : St P V n w) (hn : n < P.T.length) (x : Int) (hx : x = ((n + 1 : Nat) : Int)) : Fr P.b w (w.setCell ⟨P.b, 2, none⟩ (.int .i64 x)) ∧ St P V (n + 1) (w.setCell ⟨P.b, 2, none⟩ (.int .i64 x)) := by
  subst hx
  exact ⟨Fr.set w ⟨P.b, 2, none⟩ _, h.set (n + 1) hn⟩

set_option maxHeartbeats 1000000 in
theorem take_yes (P : Pr) (V : Va) (n : Nat) (l : List UInt8) (w : World) (h : Hid (St P V n w)) (hT : tokIs P.T n l = true) :
    Calls Tryd.prog 56 #[.pointer (some ⟨P.b, 0, none⟩), .string (str l)] w (TakeYes P V n w) := by
  have c2 := h.out.c2
  have hbd := h.out.bd
  have hfz := h.out.fz 2
  have hlt := tokIs_lt hT
  go_enter Tryd.func56, Tryd.ntmps56
  go_wp2_with fail
  refine (is_q P V n l w h).mono ?_
  rintro e w' ⟨rfl, k, rfl⟩
  rw [hT]
  go_wp2_with fail
  go_ret
  have := next_set (h.out.drewN k) hlt ((n : Int) + 1) (by omega)
  exact ⟨rfl, (Fr.drewN _ _ _).trans this.1, this.2⟩

set_option maxHeartbeats 1000000 in
theorem take_no (P : Pr) (V : Va) (n : Nat) (l : List UInt8) (w : World) (h : Hid (St P V n w)) (hT : tokIs P.T n l = false) :
    Calls Tryd.prog 56 #[.pointer (some ⟨P.b, 0, none⟩), .string (str l)] w (TakeNo P V n w) := by
  go_enter Tryd.func56, Tryd.ntmps56
  go_wp2_with fail
  refine (is_q P V n l w h).mono ?_
  rintro e w' ⟨rfl, k, rfl⟩
  rw [hT]
  go_wp2_with fail
  go_ret
  exact ⟨rfl, Fr.drewN _ _ _, h.out.drewN k⟩

/-- need -/
def pNeed (T : List LexM.Tk) (n : Nat) (l : List UInt8) : PR Unit := if tokIs T n l then .ok ((), n + 1) else .error (gu T n 20)
def vNone (_ : Unit) (_ : World) (v : Value) : Prop := v = .tuple #[]

theorem got_bad {α : Type} {P : Pr} {V : Va} {w w' : World} {r : PR α} {val : α → World → Value → Prop} {e : Ending} {x : Nat × Nat} {m : Nat} (hr : r = .error x) (hf : Fr P.b w w') (hs : St P V m w') (he : e = panicV x.1 x.2) : Got P V w r val e w' := by
  subst hr he; exact ⟨hf, ⟨m, hs⟩, rfl⟩
theorem got_ok {α : Type} {P : Pr} {V : Va} {w w' : World} {r : PR α} {val : α → World → Value → Prop} {a : α} {m : Nat} {v : Value} (hr : r = .ok (a, m)) (hf : Fr P.b w w') (hs : St P V m w') (hv : val a w' v) : Got P V w r val (.returned v) w' := by
  subst hr; exact ⟨hf, hs, v, rfl, hv⟩

set_option maxHeartbeats 1000000 in
theorem need_any (P : Pr) (V : Va) (n : Nat) (l : List UInt8) (w : World) (h : Hid (St P V n w)) :
    Calls Tryd.prog 54 #[.pointer (some ⟨P.b, 0, none⟩), .string (str l)] w (Got P V w (pNeed P.T n l) vNone) := by
  by_cases hT : tokIs P.T n l = true
  · go_enter Tryd.func54, Tryd.ntmps54
    go_wp2_with fail
    refine (take_yes P V n l w h hT).mono ?_
    rintro e w1 ⟨rfl, hf, hs⟩
    have H := Lib.hid (And.intro hf hs)
    clear hf hs
    go_wp2_with fail
    go_end0
    exact got_ok (by unfold pNeed; rw [if_pos hT]) H.out.1 H.out.2 rfl
  · have hT' : tokIs P.T n l = false := by simpa using hT
    clear hT
    go_enter Tryd.func54, Tryd.ntmps54
    go_wp2_with fail
    refine (take_no P V n l w h hT').mono ?_
    rintro e w1 ⟨rfl, hf, hs⟩
    have H := Lib.hid (And.intro hf hs)
    clear hf hs
    go_wp2_with fail
    refine (giveUp_any P V n 20 w1 (Lib.hid H.out.2)).mono ?_
    rintro e w2 ⟨rfl, hf2, hs2⟩
    go_wp2_with fail
    refine ⟨rfl, ?_⟩
    exact got_bad (by unfold pNeed; rw [if_neg (by rw [hT']; decide)]) (H.out.1.trans hf2) hs2 rfl

end Go.Proofs.YtccjbpghpoblhaaDoor

