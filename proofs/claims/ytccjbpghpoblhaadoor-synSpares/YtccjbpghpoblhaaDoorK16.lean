/-
  item, WALKED: an item's word, its name, and what its rule reads.
-/
import Derived.Test.YtccjbpghpoblhaaDoorK05
import Derived.Test.YtccjbpghpoblhaaDoorK14
import Derived.Deep.RegionHeld3
import Derived.Laws.EntriesVeiled
import Derived.Deep.MidRow
/-
  THE RULES' MAP, ASKED.
-/
namespace Go.Proofs.YtccjbpghpoblhaaDoor
open Go.RowKit

theorem ba_eq (a b : List UInt8) : (str a == str b) = (a == b) := by
  have h : (str a == str b) = (a.toArray == b.toArray) := rfl
  rw [h, Bool.eq_iff_iff]
  simp

def ruleOf (l : List UInt8) : Option (List UInt8 × Nat × Nat) := ruleTab.find? (fun t => t.1 == l)

theorem find_rule (b : Nat) (l : List UInt8) : ∀ (tab : List (List UInt8 × Nat × Nat)) (es : List MapEntry) (i : Nat), es.map (fun e => (e.key, e.val)) = tab.map (fun t => (Value.string (str t.1), ruleV b t)) →
    (Instr.findNow .string (.string (str l)) es i).map (fun o => o.map (·.2)) = some ((tab.find? (fun t => t.1 == l)).map (ruleV b))
  | [], [], i, _ => rfl
  | [], _ :: _, _, h => by simp at h
  | _ :: _, [], _, h => by simp at h
  | t :: tab, e :: es, i, h => by
    simp only [List.map_cons, List.cons.injEq, Prod.mk.injEq] at h
    obtain ⟨⟨h1, h2⟩, h3⟩ := h
    unfold Instr.findNow
    rw [h1]
    have hs : Instr.sameNow .string (.string (str l)) (.string (str t.1)) = some (l == t.1) := by
      unfold Instr.sameNow
      simp only [ba_eq]
    rw [hs]
    by_cases hlt : l = t.1
    · subst hlt
      simp [h2]
    · have e1 : (l == t.1) = false := by simpa using hlt
      have e2 : (t.1 == l) = false := by simpa using fun e => hlt e.symm
      simp only [e1, List.find?_cons, e2]
      exact find_rule b l tab es (i + 1) h3

def ruleVal (b : Nat) (l : List UInt8) : Value := match ruleOf l with | some t => ruleV b t | none => .agg #[.int .i64 0, .nilFunc]

theorem zero98 (w : World) : (zeroValue 98).run Tryd.prog w = .ok (.agg #[.int .i64 0, .nilFunc]) w := by kernel_rfl
theorem rule_look {P : Pr} {V : Va} {n : Nat} {w : World} (h : St P V n w) (l : List UInt8) :
    (Instr.lookup 68 (.map (some P.rb)) (.string (str l)) true).run Tryd.prog w = .ok (.tuple #[ruleVal P.b l, .bool (ruleOf l).isSome]) w := by
  obtain ⟨es, clock, ho, hes⟩ := h.rok
  have hb := h.rul
  rw [ho] at hb
  have hf := find_rule P.b l ruleTab es.toList 0 hes
  have hk : ∀ m, (Instr.checkKey es.isEmpty (m + 1) 9 (.string (str l))).run Tryd.prog w = .ok () w := fun m => by
    simp [Instr.checkKey, run_underlying Tryd.underlying9]
  have hk' : (Instr.checkKey es.isEmpty 10000 9 (.string (str l))).run Tryd.prog w = .ok () w := hk 9999
  have hg : (getObj P.rb).run Tryd.prog w = .ok (.map es clock) w := by simp [getObj, Sem.run, hb]
  unfold Instr.lookup
  simp only [Sem.run_bind, run_underlying Tryd.underlying68, Result.andThen_ok]
  rw [hg]
  simp only [Result.andThen_ok, Sem.run_bind, Sem.run_pure, hk']
  have hfk : ∃ r, (Instr.findKey 9 (.string (str l)) es.toList).run Tryd.prog w = .ok r w ∧ r.map (·.2) = (ruleOf l).map (ruleV P.b) := by
    obtain ⟨r, h1, h2⟩ := Option.map_eq_some_iff.1 hf
    refine ⟨r, ?_, h2⟩
    unfold Instr.findKey
    simp only [Sem.run_bind, run_underlying Tryd.underlying9, Result.andThen_ok]
    rw [h1]
    rfl
  obtain ⟨r, h1, h2⟩ := hfk
  rw [h1]
  simp only [Result.andThen_ok]
  rcases r with _ | ⟨j, v⟩
  · have h3 : ruleOf l = none := by
      cases h : ruleOf l with
      | none => rfl
      | some t => rw [h] at h2; cases h2
    simp only [Sem.run_bind, zero98, Result.andThen_ok, Sem.run_pure, ruleVal, h3]
    rfl
  · cases h : ruleOf l with
    | none => rw [h] at h2; cases h2
    | some t =>
      rw [h] at h2
      have h4 : v = ruleV P.b t := Option.some.inj h2
      subst h4
      simp only [Sem.run_bind, Result.andThen_ok, Sem.run_pure, ruleVal, h]
      rfl

end Go.Proofs.YtccjbpghpoblhaaDoor

namespace Go.Proofs.YtccjbpghpoblhaaDoor
open Go.RowKit

def zeroEx : Ex := .n0 (exZero 0)
def itNew (kind : Nat) (l : List UInt8) : It := ⟨kind, l, ([], 0), ([], 0), [], [], [], zeroEx, zeroEx, zeroEx⟩

/-- one more item has begun -/
def Va.more (V : Va) : Va := { V with it := V.it + 1 }
theorem St.items {P : Pr} {V : Va} {n : Nat} {w : World} (h : St P V n w) (x : Int) (hx : x = ((V.it + 1 : Nat) : Int)) : Fr P.b w (w.setCell ⟨P.b, 4, none⟩ (.int .i64 x)) ∧ St P V.more n (w.setCell ⟨P.b, 4, none⟩ (.int .i64 x)) := by
  subst hx
  refine ⟨Fr.set w ⟨P.b, 4, none⟩ _, ?_, h.tok.same (fun g _ hb => Below.heap_setCell _ _ _ _ hb), h.opl.same (Below.heap_setCell _ _ _ _ h.ob.2), h.ob, (Below.heap_setCell _ _ _ _ h.rl.2).trans h.rul, h.rl, h.rok, h.lb, by simpa [World.setCell] using h.hB, h.le, h.bd, h.tl⟩
  simp only [World.setCell, Array.getElem?_modify, h.blk]
  rfl

def LookS (P : Pr) (V : Va) (n : Nat) (l : List UInt8) (g off : Nat) (rv : Value) (b : Bool) (w : World) : Prop :=
  St P V n w ∧ w.cell? ⟨P.b, 5, none⟩ = some (.map (some P.rb)) ∧ w.cell? ⟨P.b, 0, none⟩ = some (.slice (some ⟨g, off, none⟩) P.T.length P.cp) ∧ w.cell? ⟨P.b, 2, none⟩ = some (.int .i64 (n : Nat)) ∧ w.cell? ⟨g, off + n * 4 + 1, none⟩ = some (.string (str l)) ∧
  (Instr.lookup 68 (.map (some P.rb)) (.string (str l)) true).run Tryd.prog w = .ok (.tuple #[rv, .bool b]) w
theorem lookS {P : Pr} {V : Va} {n g off : Nat} {t : LexM.Tk} {rv : Value} {b : Bool} (ht : P.T[n]? = some t) (hA : P.A = some ⟨g, off, none⟩) (h1 : ruleVal P.b t.text = rv) (h2 : (ruleOf t.text).isSome = b) (w : World) (h : St P V n w) : LookS P V n t.text g off rv b w := by
  subst h1 h2
  have c0 := h.c0
  obtain ⟨g', off', hA', _, _, _, k1, _⟩ := h.tok n t ht
  rw [hA] at hA'
  injection hA' with hA'
  injection hA' with e1 e2
  subst e1 e2
  rw [hA] at c0
  exact ⟨h, h.c5, c0, h.c2, k1, rule_look h t.text⟩

def zero59 : List Value := itCells (itNew 0 []) (.slice none 0 0) (.slice none 0 0) (hdCells (exZero 0) (.slice none 0 0)) (hdCells (exZero 0) (.slice none 0 0)) (hdCells (exZero 0) (.slice none 0 0))

theorem size59 : (Tryd.prog.info? 59).map (·.size) = some 42 := by kernel_rfl
theorem there59 {w : World} {g : Nat} (h : w.heap[g]? = some (.cells zero59.toArray 59 (0, 0))) : w.there g 0 42 := fun j hj => by
  refine ⟨?_, frozen_at h⟩
  rw [cell_at h, Nat.zero_add]
  have : j < zero59.length := hj
  simp [this]
theorem one59 (kind : Nat) (l : List UInt8) : (itCells (itNew kind l) (.slice none 0 0) (.slice none 0 0) (hdCells (exZero 0) (.slice none 0 0)) (hdCells (exZero 0) (.slice none 0 0)) (hdCells (exZero 0) (.slice none 0 0))).toArray.all (·.oneCell') = true := by
  simp [itCells, hdCells, Value.oneCell']

/-- behind the rule's look-up -/
def CutA (P : Pr) (V : Va) (n : Nat) (w : World) (a f : Value) (b : Bool) (s3 s4 : Value) (wx : World) : Prop :=
  ∃ gr, s3 = .pointer (some ⟨gr, 0, none⟩) ∧ s4 = .bool b ∧ w.heap.size < gr ∧ Fr P.b w wx ∧ St P V n wx ∧ wx.heap[w.heap.size]? = some (.cells zero59.toArray 59 (0, 0)) ∧ wx.heap[gr]? = some (.cells #[a, f] 98 (0, 0))
/-- behind the item's name -/
def CutB (P : Pr) (V : Va) (n : Nat) (Y : World) (kind : Nat) (l : List UInt8) (s5 : Value) (wx : World) : Prop :=
  ∃ gI, s5 = .pointer (some ⟨gI, 0, none⟩) ∧ Fr P.b Y wx ∧ St P V n wx ∧ ItBlk wx (New Y) gI (itNew kind l)

theorem new_item (w0 w : World) (kind : Nat) (l : List UInt8) (h : w0.heap.size ≤ w.heap.size) : ItBlk (w.alloc (.cells (itCells (itNew kind l) (.slice none 0 0) (.slice none 0 0) (hdCells (exZero 0) (.slice none 0 0)) (hdCells (exZero 0) (.slice none 0 0)) (hdCells (exZero 0) (.slice none 0 0))).toArray 59)) (New w0) w.heap.size (itNew kind l) :=
  ⟨h, _, new_at w _, .slice none 0 0, .slice none 0 0, _, _, _, rfl, ⟨World.ownsRow_nil _ _ _ _, fun g hg => by cases hg⟩, ⟨[], ⟨World.ownsRow_nil _ _ _ _, fun g hg => by cases hg⟩, rfl, fun j b hb => by cases hb⟩, rfl, rfl, rfl⟩

theorem setCells42 (w : World) (g : Nat) (x0 x1 x2 x3 x4 x5 x6 x7 x8 x9 x10 x11 x12 x13 x14 x15 x16 x17 x18 x19 x20 x21 x22 x23 x24 x25 x26 x27 x28 x29 x30 x31 x32 x33 x34 x35 x36 x37 x38 x39 x40 x41 : Value) : w.setCells g 0 [x0, x1, x2, x3, x4, x5, x6, x7, x8, x9, x10, x11, x12, x13, x14, x15, x16, x17, x18, x19, x20, x21, x22, x23, x24, x25, x26, x27, x28, x29, x30, x31, x32, x33, x34, x35, x36, x37, x38, x39, x40, x41] = (((((((((((((((((((((((((((((((((((((((((w.setCell ⟨g, 0, none⟩ x0).setCell ⟨g, 1, none⟩ x1).setCell ⟨g, 2, none⟩ x2).setCell ⟨g, 3, none⟩ x3).setCell ⟨g, 4, none⟩ x4).setCell ⟨g, 5, none⟩ x5).setCell ⟨g, 6, none⟩ x6).setCell ⟨g, 7, none⟩ x7).setCell ⟨g, 8, none⟩ x8).setCell ⟨g, 9, none⟩ x9).setCell ⟨g, 10, none⟩ x10).setCell ⟨g, 11, none⟩ x11).setCell ⟨g, 12, none⟩ x12).setCell ⟨g, 13, none⟩ x13).setCell ⟨g, 14, none⟩ x14).setCell ⟨g, 15, none⟩ x15).setCell ⟨g, 16, none⟩ x16).setCell ⟨g, 17, none⟩ x17).setCell ⟨g, 18, none⟩ x18).setCell ⟨g, 19, none⟩ x19).setCell ⟨g, 20, none⟩ x20).setCell ⟨g, 21, none⟩ x21).setCell ⟨g, 22, none⟩ x22).setCell ⟨g, 23, none⟩ x23).setCell ⟨g, 24, none⟩ x24).setCell ⟨g, 25, none⟩ x25).setCell ⟨g, 26, none⟩ x26).setCell ⟨g, 27, none⟩ x27).setCell ⟨g, 28, none⟩ x28).setCell ⟨g, 29, none⟩ x29).setCell ⟨g, 30, none⟩ x30).setCell ⟨g, 31, none⟩ x31).setCell ⟨g, 32, none⟩ x32).setCell ⟨g, 33, none⟩ x33).setCell ⟨g, 34, none⟩ x34).setCell ⟨g, 35, none⟩ x35).setCell ⟨g, 36, none⟩ x36).setCell ⟨g, 37, none⟩ x37).setCell ⟨g, 38, none⟩ x38).setCell ⟨g, 39, none⟩ x39).setCell ⟨g, 40, none⟩ x40).setCell ⟨g, 41, none⟩ x41 := rfl
theorem put_item {w0 w : World} {g kind : Nat} {l : List UInt8} (h : w.heap[g]? = some (.cells zero59.toArray 59 (0, 0))) (hg : w0.heap.size ≤ g) :
    ItBlk (w.setCells g 0 (itCells (itNew kind l) (.slice none 0 0) (.slice none 0 0) (hdCells (exZero 0) (.slice none 0 0)) (hdCells (exZero 0) (.slice none 0 0)) (hdCells (exZero 0) (.slice none 0 0)))) (New w0) g (itNew kind l) := by
  obtain ⟨cur', k1, k2, k3⟩ := setCells_block g 59 (0, 0) (itCells (itNew kind l) (.slice none 0 0) (.slice none 0 0) (hdCells (exZero 0) (.slice none 0 0)) (hdCells (exZero 0) (.slice none 0 0)) (hdCells (exZero 0) (.slice none 0 0))) 0 w _ h (Nat.le_refl 42)
  refine ⟨hg, _, ?_, .slice none 0 0, .slice none 0 0, _, _, _, rfl, ⟨World.ownsRow_nil _ _ _ _, fun g hg => by cases hg⟩, ⟨[], ⟨World.ownsRow_nil _ _ _ _, fun g hg => by cases hg⟩, rfl, fun j b hb => by cases hb⟩, rfl, rfl, rfl⟩
  rw [k1]
  have : cur' = (itCells (itNew kind l) (.slice none 0 0) (.slice none 0 0) (hdCells (exZero 0) (.slice none 0 0)) (hdCells (exZero 0) (.slice none 0 0)) (hdCells (exZero 0) (.slice none 0 0))).toArray := Array.toList_inj.1 (by rw [k3]; rfl)
  rw [this]

theorem row_one {w : World} {F : Nat → Prop} {e : TypeId} {size : Nat} {v : Value} {n : Nat} {xs : List Value} (h : RowAt w F e size v n xs) : v.oneCell' = true := by
  obtain ⟨A, c, rfl⟩ := row_form h; rfl
theorem ex_one {w : World} {F : Nat → Prop} {t : Ex} {cs : List Value} (h : ExAt w F t cs) : ∀ v ∈ cs, v.oneCell' = true := by
  obtain ⟨hd, A, m, c, rfl⟩ := h.cells
  intro v hv
  simp [hdCells] at hv
  rcases hv with rfl | rfl | rfl | rfl | rfl | rfl | rfl | rfl | rfl | rfl | rfl <;> rfl
theorem it_len {w : World} {F : Nat → Prop} {i : It} {cs : List Value} (h : ItAt w F i cs) : cs.length = 42 := by
  obtain ⟨av, bv, ce, ca, ci, rfl, _, _, h5, h6, h7⟩ := h
  simp [itCells, h5.len, h6.len, h7.len]
theorem it_one {w : World} {F : Nat → Prop} {i : It} {cs : List Value} (h : ItAt w F i cs) : cs.toArray.all (·.oneCell') = true := by
  apply all_oneCell_toArray
  obtain ⟨av, bv, ce, ca, ci, rfl, h1, ⟨css, h2, _⟩, h5, h6, h7⟩ := h
  intro v hv
  unfold itCells at hv
  simp only [List.mem_append] at hv
  rcases hv with hv | hv | hv | hv
  · simp only [List.mem_cons, List.not_mem_nil, or_false] at hv
    rcases hv with rfl | rfl | rfl | rfl | rfl | rfl | rfl | rfl | rfl
    · rfl
    · rfl
    · rfl
    · rfl
    · rfl
    · rfl
    · rfl
    · exact row_one h1
    · exact row_one h2
  · exact ex_one h5 v hv
  · exact ex_one h6 v hv
  · exact ex_one h7 v hv
theorem range_of {w : World} {g : Nat} {cs : List Value} {t : TypeId} (h : w.heap[g]? = some (.cells cs.toArray t (0, 0))) : w.rangeAt g 0 cs := fun j v hv => by
  rw [cell_at h, Nat.zero_add]; simpa using hv
theorem put_whole {w : World} {g : Nat} {cs : List Value} (h : w.heap[g]? = some (.cells zero59.toArray 59 (0, 0))) (hl : cs.length = 42) : (w.setCells g 0 cs).heap[g]? = some (.cells cs.toArray 59 (0, 0)) := by
  obtain ⟨cur', k1, k2, k3⟩ := setCells_block g 59 (0, 0) cs 0 w _ h (by rw [hl]; exact Nat.le_refl 42)
  rw [k1]
  have : cur' = cs.toArray := Array.toList_inj.1 (by
    rw [k3, List.take_zero, List.nil_append, List.drop_eq_nil_of_le (by rw [hl]; exact Nat.le_refl 42), List.append_nil])
  rw [this]

theorem ItAt.other {w u : World} {F : Nat → Prop} {g : Nat} {c : Array Value} {z : Nat × Nat} {i : It} {cs : List Value} (h : ItAt w F i cs) (hb : w.heap[g]? = some (.cells c 59 z)) (hk : ∀ k, k ≠ g → u.heap[k]? = w.heap[k]?) : ItAt u F i cs := by
  obtain ⟨av, bv, ce, ca, ci, e, h1, ⟨css, h2, h3, h4⟩, h5, h6, h7⟩ := h
  have ex : ∀ t cs, ExAt w F t cs → ExAt u F t cs := ExAt.other' hb (by decide) hk
  refine ⟨av, bv, ce, ca, ci, e, RowAt.other h1 hb (by decide) hk, ⟨css, RowAt.other h2 hb (by decide) hk, h3, fun j b hj => ?_⟩, ex _ _ h5, ex _ _ h6, ex _ _ h7⟩
  obtain ⟨ce', k1, k2⟩ := h4 j b hj
  exact ⟨ce', k1, ex _ _ k2⟩

theorem results70 (tmps : Array Value) (ad : Addr) (w : World) (v : Value) (ht : tmps.getD 2 undef = .pointer (some ad)) (hl : (loadVar 59 ad).run Tryd.prog w = .ok v w) : (results Tryd.f70 tmps).run Tryd.prog w = .ok v w := by
  have hr : Tryd.f70.results = #[.cell 2 59] := by rfl
  unfold results
  rw [hr]
  have h1 : ∀ (f : ResultVar → Sem Value), Array.mapM f #[.cell 2 59] = (do let x ← f (.cell 2 59); pure #[x]) := by
    intro f
    simp
  rw [h1]
  simp only [ht]
  have h2 : (asAddr (Value.pointer (some ad))) = (pure ad : Sem Addr) := rfl
  rw [h2]
  simp [hl]

/-- the contract of a rule's function -/
def RestOk (P : Pr) (V : Va) (F : FuncId) (q : List LexM.Tk → It → Nat → PR It) : Prop :=
  ∀ n gI i w0 w, i.args = [] → i.binds = [] → Hid (St P V n w) → Hid (Fr P.b w0 w) → P.b < w0.heap.size → P.B ≤ w0.heap.size → Hid (ItBlk w (New w0) gI i) → Calls Tryd.prog F #[.pointer (some ⟨P.b, 0, none⟩), .pointer (some ⟨gI, 0, none⟩)] w (Got P V w0 (q P.T i n) (vIt w0 gI))
/-- an item, behind its word -/
def pItemR (T : List LexM.Tk) (q : List LexM.Tk → It → Nat → PR It) (kind n : Nat) : PR It := thn (pName T n) fun l n1 => thn (q T (itNew kind l) n1) fun i n2 => thn (pNeed T n2 [59]) fun _ n3 => .ok (i, n3)
/-- an item by value -/
def vItem (w : World) (i : It) (w' : World) (v : Value) : Prop := ∃ cs, v = .agg cs.toArray ∧ ItAt w' (New w) i cs

set_option maxRecDepth 100000 in
set_option maxHeartbeats 2000000 in
theorem item_rule (q : List LexM.Tk → It → Nat → PR It) (P : Pr) (V : Va) (n kind F : Nat) (t : LexM.Tk) (w : World) (hF : Hid (RestOk P V.more F q)) (hcf : ∀ (x y : Value) (w : World), (callFunc F #[x, y]).run Tryd.prog w = .ok (.enter F #[x, y]) w) (h : Hid (St P V n w)) (hn : n < P.T.length) (ht : P.T[n]? = some t) (hr : ruleOf t.text = some (t.text, kind, F)) (h64 : V.it < 64) :
    Calls Tryd.prog 70 #[.pointer (some ⟨P.b, 0, none⟩)] w (Got P V.more w (pItemR P.T q kind (n + 1)) (vItem w)) := by
  have c0 := h.out.c0
  have c2 := h.out.c2
  have hlt := h.out.lt
  have hB := h.out.hB
  have hbd := h.out.bd
  obtain ⟨g, off, hA, hne, hgl, k0, k1, k2, k3⟩ := h.out.tok n t ht
  have LS := Lib.hid (fun w' hs => lookS (V := V) ht hA (rv := .agg #[.int .i64 (kind : Nat), .func (.func F) #[.pointer (some ⟨P.b, 0, none⟩)] #[]]) (b := true) (by unfold ruleVal; rw [hr]; rfl) (by rw [hr]; rfl) w' hs)
  have hgl2 : g < w.heap.size := Nat.lt_of_lt_of_le hgl h.out.hB
  rw [hA] at c0
  have HA := Lib.hid (And.intro hA (And.intro ht hr))
  clear hA ht hr
  have hd : ((n : Int) == (P.T.length : Int)) = false := by simp; omega
  have hn0 : (0 : Int) ≤ (n : Int) := by omega
  have hn1 : (n : Int) < (P.T.length : Int) := by omega
  go_enter Tryd.func70, Tryd.ntmps70
  go_wp2_with fail
  go_quiet (fail)
  obtain ⟨W, eW, FW, SW, BW⟩ : ∃ W, (w.alloc (.cells zero59.toArray 59)).drewN nq = W ∧ Hid (Fr P.b w W) ∧ Hid (St P V n W) ∧ Hid (W.heap[w.heap.size]? = some (.cells zero59.toArray 59 (0, 0))) :=
    ⟨_, rfl, Lib.hid ((Fr.alloc _ _ _).drawn _), Lib.hid ((h.out.alloc _).drewN _), Lib.hid (new_at w _)⟩
  have eW' : (w.alloc (.cells #[.int .i64 0, .string ⟨#[]⟩, .string ⟨#[]⟩, .int .i64 0, .string ⟨#[]⟩, .int .i64 0, .string ⟨#[]⟩, .slice none 0 0, .slice none 0 0, .int .i64 0, .string ⟨#[]⟩, .int .i64 0, .string ⟨#[]⟩, .int .i64 0, .string ⟨#[]⟩, .int .i64 0, .string ⟨#[]⟩, .int .i64 0, .string ⟨#[]⟩, .slice none 0 0, .int .i64 0, .string ⟨#[]⟩, .int .i64 0, .string ⟨#[]⟩, .int .i64 0, .string ⟨#[]⟩, .int .i64 0, .string ⟨#[]⟩, .int .i64 0, .string ⟨#[]⟩, .slice none 0 0, .int .i64 0, .string ⟨#[]⟩, .int .i64 0, .string ⟨#[]⟩, .int .i64 0, .string ⟨#[]⟩, .int .i64 0, .string ⟨#[]⟩, .int .i64 0, .string ⟨#[]⟩, .slice none 0 0] 59)).drewN nq = W := eW
  rw [eW']
  clear eW eW' c0 c2 k0 k1 k2 k3
  have hltW : P.b < W.heap.size := SW.out.lt
  have hglW : g < W.heap.size := by have := FW.out.size; omega
  have hWw : w.heap.size < W.heap.size := heap_lt BW.out
  go_upto_region 3 with fail
  go_cut [3, 4] (fun s3 s4 wx => Hid (CutA P V n w (.int .i64 (kind : Nat)) (.func (.func F) #[.pointer (some ⟨P.b, 0, none⟩)] #[]) true s3 s4 wx))
  case first =>
    go_region_held3 (fun w' => St P V n w' ∧ w'.cell? ⟨P.b, 5, none⟩ = some (.map (some P.rb)) ∧ w'.cell? ⟨P.b, 0, none⟩ = some (.slice (some ⟨g, off, none⟩) P.T.length P.cp) ∧ w'.cell? ⟨P.b, 2, none⟩ = some (.int .i64 (n : Nat)) ∧ w'.cell? ⟨g, off + n * 4 + 1, none⟩ = some (.string (str t.text)) ∧ (Instr.lookup 68 (.map (some P.rb)) (.string (str t.text)) true).run Tryd.prog w' = .ok (.tuple #[.agg #[.int .i64 (kind : Nat), .func (.func F) #[.pointer (some ⟨P.b, 0, none⟩)] #[]], .bool true]) w')
      (first | exact LS.out _ SW.out.drew | exact LS.out _ ((SW.out.alloc _).drew)) (fail)
    all_goals
      go_wp2_with fail
      go_meet
    all_goals
      exact Lib.hid ⟨_, rfl, rfl, hWw, (FW.out.more _).draw, (SW.out.alloc _).drew, (Below.heap_alloc _ _ _ hWw).trans BW.out, new_at W _⟩
  case rest =>
    obtain ⟨gr, rfl, rfl, hgr, FX, SX, BX, CX⟩ := hcut.out
    have c4 := SX.c4
    have c2 := SX.c2
    have z4 := SX.fz 4
    have z2 := SX.fz 2
    have HX := Lib.hid (And.intro FX (And.intro SX (And.intro BX CX)))
    clear FX SX BX CX hcut
    have h64d : ((V.it : Int) == 64) = false := by simp; omega
    go_wp2_with fail
    obtain ⟨Y, eY, FY, SY, BY, CY⟩ : ∃ Y, (wc.setCell ⟨P.b, 4, none⟩ (.int .i64 ((V.it : Int) + 1))).setCell ⟨P.b, 2, none⟩ (.int .i64 ((n : Int) + 1)) = Y ∧ Hid (Fr P.b w Y) ∧ Hid (St P V.more (n + 1) Y) ∧ Hid (Y.heap[w.heap.size]? = some (.cells zero59.toArray 59 (0, 0))) ∧ Hid (Y.heap[gr]? = some (.cells #[.int .i64 (kind : Nat), .func (.func F) #[.pointer (some ⟨P.b, 0, none⟩)] #[]] 98 (0, 0))) := by
      have q1 := HX.out.2.1.items ((V.it : Int) + 1) (by omega)
      have q2 := next_set q1.2 hn ((n : Int) + 1) (by omega)
      exact ⟨_, rfl, Lib.hid ((HX.out.1.trans q1.1).trans q2.1), Lib.hid q2.2, Lib.hid ((q1.1.trans q2.1).keep HX.out.2.2.1 (by omega)), Lib.hid ((q1.1.trans q2.1).keep HX.out.2.2.2 (by omega))⟩
    rw [eY]
    clear eY c4 c2 z4 z2
    have d0 := cell_at (o := 0) CY.out
    have hgY := heap_lt CY.out
    have hwY : w.heap.size ≤ Y.heap.size := FY.out.size
    have hBY := SY.out.hB
    have hltY := SY.out.lt
    rcases hN : pName P.T (n + 1) with x | ⟨l, n1⟩
    · have E1 := Lib.hid hN
      clear hN
      go_upto_region 10 with fail
      refine wp_region_held_drew (S := fun w' => w'.cell? ⟨gr, 0, none⟩ = some (.int .i64 (kind : Nat))) (by kernel_rfl) ?_ (fun hHeld => ?_)
      · exact d0
      refine wpAnyH_take (i := 0) (v := .pointer (some ⟨gr, 0, none⟩)) rfl (by kernel_rfl) (by kernel_rfl) (by kernel_rfl) (fun _ _ _ h => h) (Or.inl ⟨by rfl, by intro w hSw; (try dsimp only at hSw); go_simp; try rfl⟩) hHeld ?_
      try simp only [Act.put, List.setIfInBounds_toArray]
      refine wpAnyH_take (i := 1) (v := .int .i64 (kind : Nat)) rfl (by kernel_rfl) (by kernel_rfl) (by kernel_rfl) (fun _ _ _ h => h) (Or.inl ⟨by rfl, by intro w hSw; (try dsimp only at hSw); go_simp; try rfl⟩) hHeld ?_
      try simp only [Act.put]
      refine wpAnyH_take (i := 2) (v := .pointer (some ⟨P.b, 0, none⟩)) rfl (by kernel_rfl) (by kernel_rfl) (by kernel_rfl) (fun _ _ _ h => h) (Or.inl ⟨by rfl, by intro w hSw; (try dsimp only at hSw); go_simp; try rfl⟩) hHeld ?_
      try simp only [Act.put]
      refine wpAnyH_ready (rs := [3, 5]) (by kernel_rfl) (by simp) ?_
      refine AllReadyH.cons rfl (fun K hK => ?_) (AllReadyH.cons rfl (fun K hK => ?_) AllReadyH.nil)
      · go_simp
        refine (name_bad (Lib.hid SY.out.drew) E1.out).mono ?_
        rintro e w3 ⟨rfl, hf3, m4, hs4⟩
        go_simp
        refine ⟨rfl, ?_⟩
        exact got_bad (by unfold pItemR; rw [E1.out, thn_err]) (FY.out.draw.trans hf3) hs4 rfl
      · go_simp
        refine hK.out _ _ ?_ (fun hHeld => ?_)
        · exact (cell_at (o := 0) ((Below.heap_alloc _ _ _ hgY).trans CY.out))
        clear hK K
        try simp only [Act.put, List.setIfInBounds_toArray, List.set_cons_zero, List.set_cons_succ]
        refine wpAnyH_ready (rs := [3]) (by kernel_rfl) (by simp) ?_
        refine AllReadyH.cons rfl (fun K hK => ?_) AllReadyH.nil
        go_simp
        refine (name_bad (Lib.hid (SY.out.alloc _).drew) E1.out).mono ?_
        rintro e w3 ⟨rfl, hf3, m4, hs4⟩
        go_simp
        refine ⟨rfl, ?_⟩
        exact got_bad (by unfold pItemR; rw [E1.out, thn_err]) ((FY.out.more _).draw.trans hf3) hs4 rfl
    · have E1 := Lib.hid hN
      clear hN
      go_upto_region 10 with fail
      go_cut [5] (fun s5 wx => Hid (CutB P V.more n1 Y kind l s5 wx))
      case first =>
        refine wp_region_held_drew (S := fun w' => w'.cell? ⟨gr, 0, none⟩ = some (.int .i64 (kind : Nat))) (by kernel_rfl) ?_ (fun hHeld => ?_)
        · exact d0
        refine wpAnyH_take (i := 0) (v := .pointer (some ⟨gr, 0, none⟩)) rfl (by kernel_rfl) (by kernel_rfl) (by kernel_rfl) (fun _ _ _ h => h) (Or.inl ⟨by rfl, by intro w hSw; (try dsimp only at hSw); go_simp; try rfl⟩) hHeld ?_
        try simp only [Act.put, List.setIfInBounds_toArray]
        refine wpAnyH_take (i := 1) (v := .int .i64 (kind : Nat)) rfl (by kernel_rfl) (by kernel_rfl) (by kernel_rfl) (fun _ _ _ h => h) (Or.inl ⟨by rfl, by intro w hSw; (try dsimp only at hSw); go_simp; try rfl⟩) hHeld ?_
        try simp only [Act.put]
        refine wpAnyH_take (i := 2) (v := .pointer (some ⟨P.b, 0, none⟩)) rfl (by kernel_rfl) (by kernel_rfl) (by kernel_rfl) (fun _ _ _ h => h) (Or.inl ⟨by rfl, by intro w hSw; (try dsimp only at hSw); go_simp; try rfl⟩) hHeld ?_
        try simp only [Act.put]
        refine wpAnyH_ready (rs := [3, 5]) (by kernel_rfl) (by simp) ?_
        refine AllReadyH.cons rfl (fun K hK => ?_) (AllReadyH.cons rfl (fun K hK => ?_) AllReadyH.nil)
        · go_simp
          refine (name_ok (Lib.hid SY.out.drew) E1.out).mono ?_
          rintro e w3 ⟨rfl, hf3, hs3⟩
          go_simp
          refine hK.out _ _ ?_ (fun hHeld => ?_)
          · exact cell_at (o := 0) (hf3.keep (w := Y.drew) CY.out (by omega))
          clear hK K
          try simp only [Act.put, List.setIfInBounds_toArray, List.set_cons_zero, List.set_cons_succ]
          refine wpAnyH_take (i := 4) (v := .agg (itCells (itNew kind l) (.slice none 0 0) (.slice none 0 0) (hdCells (exZero 0) (.slice none 0 0)) (hdCells (exZero 0) (.slice none 0 0)) (hdCells (exZero 0) (.slice none 0 0))).toArray) rfl (by kernel_rfl) (by kernel_rfl) (by kernel_rfl) (fun _ _ _ h => h) (Or.inl ⟨by rfl, by intro w hSw; (try dsimp only at hSw); go_simp; try rfl⟩) hHeld ?_
          try simp only [Act.put, List.setIfInBounds_toArray]
          refine wpAnyH_ready (rs := [5]) (by kernel_rfl) (by simp) ?_
          refine AllReadyH.cons rfl (fun K hK => ?_) AllReadyH.nil
          go_simp
          have B3 := Lib.hid (And.intro (hf3.keep (w := Y.drew) BY.out (by omega)) (hf3.keep (w := Y.drew) CY.out (by omega)))
          have F3 := Lib.hid ((Fr.refl P.b Y).draw.trans hf3)
          have S3 := Lib.hid hs3
          have hgne : gr ≠ w3.heap.size := by have := heap_lt B3.out.2; omega
          have hwne : w.heap.size ≠ w3.heap.size := by have := heap_lt B3.out.1; omega
          refine hK.out _ _ ?_ (fun hHeld => ?_)
          · exact (cell_at (o := 0) ((Below.heap_alloc _ _ _ (heap_lt B3.out.2)).trans B3.out.2))
          clear hK K
          try simp only [Act.put, List.setIfInBounds_toArray, List.set_cons_zero, List.set_cons_succ]
          refine wpAnyH_ready (rs := [6]) (by kernel_rfl) (by simp) ?_
          refine AllReadyH.cons rfl (fun K hK => ?_) AllReadyH.nil
          rw [if_pos (by rfl)]
          refine wp_store_mid 59 _ _ rfl w3.heap.size 0 (itCells (itNew kind l) (.slice none 0 0) (.slice none 0 0) (hdCells (exZero 0) (.slice none 0 0)) (hdCells (exZero 0) (.slice none 0 0)) (hdCells (exZero 0) (.slice none 0 0))).toArray rfl rfl (there59 (new_at w3 _)) size59 (one59 kind l) ?_
          refine hK.out _ _ ?_ (fun hHeld => ?_)
          · show ((w3.alloc (.cells zero59.toArray 59)).setCells w3.heap.size 0 (itCells (itNew kind l) (.slice none 0 0) (.slice none 0 0) (hdCells (exZero 0) (.slice none 0 0)) (hdCells (exZero 0) (.slice none 0 0)) (hdCells (exZero 0) (.slice none 0 0)))).cell? ⟨gr, 0, none⟩ = _
            rw [cell_at ((heap_setCells_ne _ _ _ _ _ hgne).trans ((Below.heap_alloc _ _ _ (heap_lt B3.out.2)).trans B3.out.2))]; rfl
          clear hK K
          refine wpAnyH_done (by kernel_rfl) ?_ _
          go_wp2_with fail
          go_meet
          exact Lib.hid ⟨_, rfl, FrPuts (F3.out.more _) w3.heap.size F3.out.size _ 0, StPuts (S3.out.alloc _) w3.heap.size (Nat.le_trans hBY F3.out.size) _ 0, put_item (new_at w3 _) F3.out.size⟩
        · go_simp
          refine hK.out _ _ ?_ (fun hHeld => ?_)
          · exact (cell_at (o := 0) ((Below.heap_alloc _ _ _ hgY).trans CY.out))
          clear hK K
          try simp only [Act.put, List.setIfInBounds_toArray, List.set_cons_zero, List.set_cons_succ]
          refine wpAnyH_ready (rs := [3]) (by kernel_rfl) (by simp) ?_
          refine AllReadyH.cons rfl (fun K hK => ?_) AllReadyH.nil
          go_simp
          refine (name_ok (Lib.hid (SY.out.alloc _).drew) E1.out).mono ?_
          rintro e w3 ⟨rfl, hf3, hs3⟩
          go_simp
          have b1 := (Below.heap_alloc Y (.cells zero59.toArray 59) _ (heap_lt BY.out)).trans BY.out
          have b2 := (Below.heap_alloc Y (.cells zero59.toArray 59) _ hgY).trans CY.out
          have hf4 : Fr P.b (Y.alloc (.cells zero59.toArray 59)).drew w3 := hf3
          have B3 := Lib.hid (And.intro (hf4.keep (w := (Y.alloc (.cells zero59.toArray 59)).drew) b1 (by omega)) (And.intro (hf4.keep (w := (Y.alloc (.cells zero59.toArray 59)).drew) b2 (by omega)) (hf4.keep (w := (Y.alloc (.cells zero59.toArray 59)).drew) (new_at Y _) (by have := SY.out.lt; omega))))
          have F3 := Lib.hid (((Fr.refl P.b Y).more _).draw.trans hf4)
          have S3 := Lib.hid hs3
          clear b1 b2 hf4
          have hgne : gr ≠ Y.heap.size := by omega
          have hwne : w.heap.size ≠ Y.heap.size := by have := heap_lt BY.out; omega
          refine hK.out _ _ ?_ (fun hHeld => ?_)
          · exact (cell_at (o := 0) B3.out.2.1)
          clear hK K
          try simp only [Act.put, List.setIfInBounds_toArray, List.set_cons_zero, List.set_cons_succ]
          refine wpAnyH_take (i := 4) (v := .agg (itCells (itNew kind l) (.slice none 0 0) (.slice none 0 0) (hdCells (exZero 0) (.slice none 0 0)) (hdCells (exZero 0) (.slice none 0 0)) (hdCells (exZero 0) (.slice none 0 0))).toArray) rfl (by kernel_rfl) (by kernel_rfl) (by kernel_rfl) (fun _ _ _ h => h) (Or.inl ⟨by rfl, by intro w hSw; (try dsimp only at hSw); go_simp; try rfl⟩) hHeld ?_
          try simp only [Act.put, List.setIfInBounds_toArray]
          refine wpAnyH_ready (rs := [6]) (by kernel_rfl) (by simp) ?_
          refine AllReadyH.cons rfl (fun K hK => ?_) AllReadyH.nil
          rw [if_pos (by rfl)]
          refine wp_store_mid 59 _ _ rfl Y.heap.size 0 (itCells (itNew kind l) (.slice none 0 0) (.slice none 0 0) (hdCells (exZero 0) (.slice none 0 0)) (hdCells (exZero 0) (.slice none 0 0)) (hdCells (exZero 0) (.slice none 0 0))).toArray rfl rfl (there59 B3.out.2.2) size59 (one59 kind l) ?_
          refine hK.out _ _ ?_ (fun hHeld => ?_)
          · show (w3.setCells Y.heap.size 0 (itCells (itNew kind l) (.slice none 0 0) (.slice none 0 0) (hdCells (exZero 0) (.slice none 0 0)) (hdCells (exZero 0) (.slice none 0 0)) (hdCells (exZero 0) (.slice none 0 0)))).cell? ⟨gr, 0, none⟩ = _
            rw [cell_at ((heap_setCells_ne _ _ _ _ _ hgne).trans B3.out.2.1)]; rfl
          clear hK K
          refine wpAnyH_done (by kernel_rfl) ?_ _
          go_wp2_with fail
          go_meet
          exact Lib.hid ⟨_, rfl, FrPuts F3.out Y.heap.size (Nat.le_refl _) _ 0, StPuts S3.out Y.heap.size hBY _ 0, put_item B3.out.2.2 (Nat.le_refl _)⟩
      case rest =>
        obtain ⟨gI, rfl, FZ, SZ, IZ⟩ := hcut.out
        have CZ := FZ.keep CY.out (by omega)
        have d1 := cell_at (o := 1) CZ
        have HZ := Lib.hid (And.intro FZ (And.intro SZ IZ))
        clear FZ SZ IZ CZ hcut d0
        go_wp2_with fail
        refine (hF.out n1 gI (itNew kind l) Y wc rfl rfl (Lib.hid HZ.out.2.1) (Lib.hid HZ.out.1) hltY hBY (Lib.hid HZ.out.2.2)).mono ?_
        intro e w4 hG
        rcases hG.elim with ⟨x, m, hN, hf, hs, rfl⟩ | ⟨i4, m4, v4, hN, hf, hs, rfl, hv⟩
        · have E4 := Lib.hid hN
          have F4 := Lib.hid (FY.out.trans hf)
          have S4 := Lib.hid hs
          clear hN hf hs hG
          go_wp2_with fail
          refine ⟨rfl, ?_⟩
          exact got_bad (by unfold pItemR; rw [E1.out, thn_ok, E4.out, thn_err]) F4.out S4.out rfl
        obtain ⟨rfl, hv⟩ := hv
        have E4 := Lib.hid hN
        have F4 := Lib.hid hf
        have S4 := Lib.hid hs
        have I4 := Lib.hid hv
        clear hN hf hs hG hv
        go_wp2_with fail
        refine (need_any P V.more m4 [59] w4 S4).mono ?_
        intro e w5 hG
        rcases hG.elim with ⟨x, m, hN, hf, hs, rfl⟩ | ⟨a5, m5, v5, hN, hf, hs, rfl, hv⟩
        · have E5 := Lib.hid hN
          have F5 := Lib.hid (FY.out.trans (F4.out.trans hf))
          have S5 := Lib.hid hs
          clear hN hf hs hG
          go_wp2_with fail
          refine ⟨rfl, ?_⟩
          exact got_bad (by unfold pItemR; rw [E1.out, thn_ok, E4.out, thn_ok, E5.out, thn_err]) F5.out S5.out rfl
        have E5 := Lib.hid hN
        have F5 := Lib.hid (F4.out.trans hf)
        have S5 := Lib.hid hs
        have I5 := Lib.hid (I4.out.fr hf hltY)
        clear hN hf hs hG hv
        obtain ⟨hgI, cs, hbI, hat⟩ := I5.out
        have R5 := Lib.hid (F5.out.keep BY.out (by omega))
        have hl := it_len hat
        have HS59 := Lib.hid (show (Tryd.prog.info? 59).map (·.size) = some cs.length by rw [size59, hl])
        have HS59' := Lib.hid (show (Tryd.prog.info? 59).map (·.size) = some cs.toArray.size by rw [size59, List.size_toArray, hl])
        have HR := Lib.hid (range_of hbI)
        have HO := Lib.hid (it_one hat)
        have hsz : cs.toArray.size = 42 := by rw [List.size_toArray, hl]
        have HT := Lib.hid (show w5.there w.heap.size 0 cs.toArray.size from hsz ▸ there59 R5.out)
        clear hsz
        have HAT := Lib.hid hat
        have HBI := Lib.hid hbI
        have HL := Lib.hid hl
        clear hat hbI hl
        go_wp2_with (first
          | (refine wpList_load_mid rfl 59 _ rfl gI 0 rfl cs _ HR.out Tryd.underlying59 rfl HS59.out ?_)
          | (refine wpList_store_mid rfl 59 _ _ rfl w.heap.size 0 cs.toArray rfl rfl HT.out HS59'.out HO.out ?_))
        refine bodyPost_ret (v := .agg cs.toArray) ?_ rfl ?_
        · show (results Tryd.f70 _).run Tryd.prog _ = _
          exact results70 _ _ _ _ rfl (run_loadVar_mid (P := Tryd.prog) (w5.setCells w.heap.size 0 cs) w.heap.size 0 59 cs _ (range_of (put_whole R5.out HL.out)) Tryd.underlying59 rfl HS59.out)
        · refine got_ok (by unfold pItemR; rw [E1.out, thn_ok, E4.out, thn_ok, E5.out, thn_ok]) (FrPuts (FY.out.trans F5.out) _ (Nat.le_refl _) _ 0) (StPuts S5.out _ hB _ 0) ?_
          exact ⟨cs, rfl, (HAT.out.keep (F' := New w) (fun k hk => Nat.le_trans hwY hk) (fun _ _ _ h => h)).other R5.out (fun k hk => heap_setCells_ne _ _ _ _ _ hk)⟩

end Go.Proofs.YtccjbpghpoblhaaDoor

