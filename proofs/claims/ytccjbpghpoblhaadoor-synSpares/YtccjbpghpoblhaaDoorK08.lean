/-
  THE READERS OF EXPRESSIONS THAT CALL BACK, WALKED: brackets, cat, memory words, leaves, primaries.
-/
import Derived.Test.YtccjbpghpoblhaaDoorK07
/-
  EXPRESSIONS, READ: what the rules of chapter 2 make of tokens.
-/
namespace Go.Proofs.YtccjbpghpoblhaaDoor
open Go.RowKit

/-- one reader behind another -/
def thn {α β : Type} (r : PR α) (f : α → Nat → PR β) : PR β := match r with | .ok (a, n) => f a n | .error x => .error x
theorem thn_ok {α β : Type} (a : α) (n : Nat) (f : α → Nat → PR β) : thn (.ok (a, n)) f = f a n := rfl
theorem thn_err {α β : Type} (x : Nat × Nat) (f : α → Nat → PR β) : thn (.error x) f = .error x := rfl

def pMk (at_ op : Nat) (ks : List Ex) (n : Nat) : PR Ex := if deeps ks ≤ 8 then .ok (mkEx (exZero op) ks, n) else .error (2, at_)

def pBr (T : List LexM.Tk) (pe : Nat → PR Ex) (n : Nat) : PR Ex :=
  thn (pNeed T n [40]) fun _ n1 => thn (pe n1) fun t n2 => thn (pNeed T n2 [41]) fun _ n3 => .ok (t, n3)

def pCat (T : List LexM.Tk) (pe : Nat → PR Ex) (at_ n : Nat) : PR Ex :=
  thn (pe n) fun a n1 => thn (pNeed T n1 [44]) fun _ n2 => thn (pe n2) fun b n3 => thn (pNeed T n3 [125]) fun _ n4 => pMk at_ 17 [a, b] n4

def setName (l : List UInt8) : Ex → Ex
  | .n1 h a => .n1 { h with name := l } a
  | t => t
def setHiLo (hi lo : Dm) : Ex → Ex
  | .n1 h a => .n1 { h with hi := hi, lo := lo } a
  | t => t

def pMem (T : List LexM.Tk) (pe : Nat → PR Ex) (at_ n : Nat) : PR Ex :=
  thn (pNeed T n [40]) fun _ n1 => thn (pName T n1) fun l n2 => thn (pNeed T n2 [44]) fun _ n3 => thn (pe n3) fun a n4 => thn (pNeed T n4 [41]) fun _ n5 => thn (pMk at_ 19 [a] n5) fun t n6 => .ok (setName l t, n6)

def litEx (wid val : Dm) : Ex := .n0 ⟨1, val, wid, ([], 0), ([], 0), []⟩
def refEx (l : List UInt8) : Ex := .n0 ⟨2, ([], 0), ([], 0), ([], 0), ([], 0), l⟩

def pLeaf (T : List LexM.Tk) (n : Nat) : PR Ex :=
  thn (pSide T n) fun d n1 =>
    if d.1 = [] ∨ tokIs T n1 [39] = true then thn (pNeed T n1 [39]) fun _ n2 => thn (pSide T n2) fun v n3 => .ok (litEx d v, n3)
    else if tokIs T n1 [46] = true then thn (pName T (n1 + 1)) fun l n2 => .ok (refEx (d.1 ++ [46] ++ l), n2)
    else .ok (refEx d.1, n1)

def pPrim (T : List LexM.Tk) (pe : Nat → PR Ex) (n : Nat) : PR Ex :=
  if tokIs T n [40] = true then pBr T pe n
  else if tokIs T n [123] = true then pCat T pe n (n + 1)
  else if tokIs T n [97, 110, 121] = true then thn (pBr T pe (n + 1)) fun t m => pMk n 4 [t] m
  else if tokIs T n [97, 108, 108] = true then thn (pBr T pe (n + 1)) fun t m => pMk n 5 [t] m
  else if tokIs T n [112, 97, 115, 116] = true then thn (pBr T pe (n + 1)) fun t m => pMk n 20 [t] m
  else if tokIs T n [97, 116] = true then pMem T pe n (n + 1)
  else pLeaf T n

/-- slices behind what stands so far -/
def pSl (T : List LexM.Tk) : Nat → Ex → Nat → PR Ex
  | 0, t, n => .ok (t, n)
  | f + 1, t, n =>
    if tokIs T n [91] = true then
      thn (pDim T (n + 1)) fun hi n1 => thn (if tokIs T n1 [58] = true then pDim T (n1 + 1) else .ok (hi, n1)) fun lo n2 => thn (pNeed T n2 [93]) fun _ n3 => thn (pMk n 18 [t] n3) fun u n4 => pSl T f (setHiLo hi lo u) n4
    else .ok (t, n)

def pPost (T : List LexM.Tk) (pe : Nat → PR Ex) (n : Nat) : PR Ex := thn (pPrim T pe n) fun t m => pSl T (T.length + 1) t m

def pUn (T : List LexM.Tk) (pe : Nat → PR Ex) : Nat → Nat → PR Ex
  | 0, n => pPost T pe n
  | f + 1, n => if tokIs T n [126] = true then thn (pUn T pe f (n + 1)) fun t m => pMk n 3 [t] m else pPost T pe n

def opOf (T : List LexM.Tk) (n : Nat) : Nat × Nat := match opTab.find? (fun t => tokIs T n t.1) with | some t => t.2 | none => (0, 0)

/-- operators of levels from least to most behind what stands so far -/
def pLoop (T : List LexM.Tk) (pe : Nat → PR Ex) : Nat → Nat → Nat → Ex → Nat → PR Ex
  | 0, _, _, left, n => .ok (left, n)
  | f + 1, least, most, left, n =>
    if (opOf T n).1 < least ∨ most < (opOf T n).1 then .ok (left, n) else
      thn (pUn T pe (T.length + 1) (n + 1)) fun r0 n1 => thn (pLoop T pe f ((opOf T n).1 + 1) 6 r0 n1) fun r n2 => thn (pMk n (opOf T n).2 [left, r] n2) fun t n3 => pLoop T pe f least (if (opOf T n).1 = 4 then 3 else (opOf T n).1) t n3

def pBet (T : List LexM.Tk) (pe : Nat → PR Ex) (f least n : Nat) : PR Ex := thn (pUn T pe (T.length + 1) n) fun l m => pLoop T pe f least 6 l m

def pEx (T : List LexM.Tk) : Nat → Nat → PR Ex
  | 0, n => .error (0, n)
  | f + 1, n =>
    thn (pBet T (pEx T f) (T.length + 1) 1 n) fun a n1 =>
      if tokIs T n1 [63] = true then thn (pEx T f (n1 + 1)) fun b n2 => thn (pNeed T n2 [58]) fun _ n3 => thn (pEx T f n3) fun c n4 => pMk n1 16 [a, b, c] n4
      else .ok (a, n1)

end Go.Proofs.YtccjbpghpoblhaaDoor

namespace Go.Proofs.YtccjbpghpoblhaaDoor
open Go.RowKit

/-- new since w -/
def New (w : World) (g : Nat) : Prop := w.heap.size ≤ g
def vTree (w : World) (t : Ex) (w' : World) (v : Value) : Prop := TreeAt w' (New w) t v ∧ t.deep ≤ 8

theorem vTree.fr {w w1 w2 : World} {t : Ex} {v : Value} {b : Nat} (h : vTree w t w1 v) (hf : Fr b w1 w2) (hb : b < w.heap.size) : vTree w t w2 v :=
  ⟨h.1.keep (fun _ h => h) (fun g o hg ho => hf.keep ho (by unfold New at hg; omega)), h.2⟩
theorem vTree.alloc {w w1 : World} {t : Ex} {v : Value} (h : vTree w t w1 v) (o : Obj) : vTree w t (w1.alloc o) v :=
  ⟨h.1.keep (fun _ h => h) (fun _ _ _ ho => (Below.heap_alloc _ _ _ (heap_lt ho)).trans ho), h.2⟩
theorem vTree.older {w w0 w1 : World} {t : Ex} {v : Value} (h : vTree w t w1 v) (hs : w0.heap.size ≤ w.heap.size) : vTree w0 t w1 v :=
  ⟨h.1.keep (fun g hg => by unfold New at *; omega) (fun g o _ ho => ho), h.2⟩
theorem St.gr {P : Pr} {V : Va} {n : Nat} {w w' : World} (h : St P V n w) (hg : Gr w w') : St P V n w' :=
  ⟨(hg.block _ h.lt (by simp)).trans h.blk, h.tok.same (fun g hg' _ => hg.block g (Nat.lt_of_lt_of_le hg' h.hB) (by simp)), h.opl.same (hg.block 1 (Nat.lt_of_lt_of_le h.ob.1 h.hB) (by simp)), h.ob, (hg.block _ (Nat.lt_of_lt_of_le h.rl.1 h.hB) (by simp)).trans h.rul, h.rl, h.rok, h.lb, Nat.le_trans h.hB hg.size, h.le, h.bd, h.tl⟩
theorem Gr.fr {b : Nat} {w w' : World} (h : Gr w w') : Fr b w w' := ⟨h.os, h.tape, h.output, h.size, fun k hk _ => h.block k hk (by simp)⟩

theorem mkEx_deep (op : Nat) (ks : List Ex) (h : ks.length ≤ 3) : (mkEx (exZero op) ks).deep = deeps ks := by
  match ks, h with
  | [], _ => rfl
  | [_], _ => simp [mkEx, Ex.deep, deeps]
  | [_, _], _ => simp [mkEx, Ex.deep, deeps]
  | [_, _, _], _ => simp [mkEx, Ex.deep, deeps]
  | _ :: _ :: _ :: _ :: _, h => simp at h

theorem mk_got {P : Pr} {V : Va} {n : Nat} {w0 w1 : World} {at_ op : Nat} {ks : List Ex} {vs : Array Value} (hs : St P V n w1) (hf : Fr P.b w0 w1) (hk1 : 1 ≤ ks.length) (hk3 : ks.length ≤ 3) (hk : ∀ (i : Nat) (t : Ex), ks[i]? = some t → ∃ v, vs[i]? = some v ∧ vTree w0 t w1 v) :
    Calls Tryd.prog 75 #[.int .i64 (at_ : Nat), .int .i64 (op : Nat), .slice (some ⟨w1.heap.size, 0, none⟩) ks.length ks.length] (w1.alloc (.cells vs 110)) (Got P V w0 (pMk at_ op ks n) (vTree w0)) := by
  refine (made_any at_ op w1.heap.size ks.length ks (New w0) (w1.alloc (.cells vs 110)) hk1 hk3 ?_ (by simp) (Lib.hid ?_)).mono ?_
  · intro k hk'
    obtain ⟨i, hi⟩ := List.getElem?_of_mem hk'
    obtain ⟨v, _, h⟩ := hk i k hi
    exact h.2
  · intro i t ht
    obtain ⟨v, h1, h2⟩ := hk i t ht
    exact ⟨v, by rw [cell_at (new_at w1 _)]; exact h1, (h2.alloc _).1⟩
  · rintro e w2 ⟨hg, h | h⟩
    · obtain ⟨h8, v, rfl, ht⟩ := h
      refine got_ok (a := mkEx (exZero op) ks) (m := n) (by unfold pMk; rw [if_pos h8]) ((hf.more _).trans (Gr.fr hg)) ((hs.alloc _).gr hg) ⟨?_, ?_⟩
      · refine ht.keep (fun g hg' => ?_) (fun g o _ ho => ho)
        rcases hg' with h | h
        · exact h
        · have := hf.size
          simp at h
          unfold New; omega
      · rw [mkEx_deep op ks hk3]; exact h8
    · obtain ⟨h8, rfl⟩ := h
      exact got_bad (x := (2, at_)) (by unfold pMk; rw [if_neg (by omega)]) ((hf.more _).trans (Gr.fr hg)) ((hs.alloc _).gr hg) rfl

theorem mk1 {P : Pr} {V : Va} {n : Nat} {w0 w1 : World} {at_ op : Nat} {t : Ex} {v : Value} (hs : St P V n w1) (hf : Fr P.b w0 w1) (h1 : vTree w0 t w1 v) :
    Calls Tryd.prog 75 #[.int .i64 (at_ : Nat), .int .i64 (op : Nat), .slice (some ⟨w1.heap.size, 0, none⟩) 1 1] (w1.alloc (.cells #[v] 110)) (Got P V w0 (pMk at_ op [t] n) (vTree w0)) :=
  mk_got (ks := [t]) hs hf (by simp) (by simp) (fun i u hu => by
    match i, hu with
    | 0, hu => obtain rfl : t = u := by simpa using hu
               exact ⟨v, rfl, h1⟩
    | i + 1, hu => simp at hu)
theorem mk2 {P : Pr} {V : Va} {n : Nat} {w0 w1 : World} {at_ op : Nat} {t t' : Ex} {v v' : Value} (hs : St P V n w1) (hf : Fr P.b w0 w1) (h1 : vTree w0 t w1 v) (h2 : vTree w0 t' w1 v') :
    Calls Tryd.prog 75 #[.int .i64 (at_ : Nat), .int .i64 (op : Nat), .slice (some ⟨w1.heap.size, 0, none⟩) 2 2] (w1.alloc (.cells #[v, v'] 110)) (Got P V w0 (pMk at_ op [t, t'] n) (vTree w0)) :=
  mk_got (ks := [t, t']) hs hf (by simp) (by simp) (fun i u hu => by
    match i, hu with
    | 0, hu => obtain rfl : t = u := by simpa using hu
               exact ⟨v, rfl, h1⟩
    | 1, hu => obtain rfl : t' = u := by simpa using hu
               exact ⟨v', rfl, h2⟩
    | i + 2, hu => simp at hu)
theorem mk3 {P : Pr} {V : Va} {n : Nat} {w0 w1 : World} {at_ op : Nat} {t t' t'' : Ex} {v v' v'' : Value} (hs : St P V n w1) (hf : Fr P.b w0 w1) (h1 : vTree w0 t w1 v) (h2 : vTree w0 t' w1 v') (h3 : vTree w0 t'' w1 v'') :
    Calls Tryd.prog 75 #[.int .i64 (at_ : Nat), .int .i64 (op : Nat), .slice (some ⟨w1.heap.size, 0, none⟩) 3 3] (w1.alloc (.cells #[v, v', v''] 110)) (Got P V w0 (pMk at_ op [t, t', t''] n) (vTree w0)) :=
  mk_got (ks := [t, t', t'']) hs hf (by simp) (by simp) (fun i u hu => by
    match i, hu with
    | 0, hu => obtain rfl : t = u := by simpa using hu
               exact ⟨v, rfl, h1⟩
    | 1, hu => obtain rfl : t' = u := by simpa using hu
               exact ⟨v', rfl, h2⟩
    | 2, hu => obtain rfl : t'' = u := by simpa using hu
               exact ⟨v'', rfl, h3⟩
    | i + 3, hu => simp at hu)

/-- the contract of expr, from behind token m on -/
def ExprOk (P : Pr) (V : Va) (pe : Nat → PR Ex) (m : Nat) : Prop :=
  (∀ n w, m < n → Hid (St P V n w) → Calls Tryd.prog 64 #[.pointer (some ⟨P.b, 0, none⟩)] w (Got P V w (pe n) (vTree w))) ∧ ∀ n t n', pe n = .ok (t, n') → n < n'
theorem ExprOk.le {P : Pr} {V : Va} {pe : Nat → PR Ex} {m m' : Nat} (h : ExprOk P V pe m) (hm : m ≤ m') : ExprOk P V pe m' := ⟨fun n w hn => h.1 n w (by omega), h.2⟩

theorem pNeed_ok {T : List LexM.Tk} {n m : Nat} {l : List UInt8} {u : Unit} (h : pNeed T n l = .ok (u, m)) : m = n + 1 := by
  unfold pNeed at h
  split at h
  · injection h with h; injection h with _ h; exact h.symm
  · cases h
theorem pName_ok {T : List LexM.Tk} {n m : Nat} {l : List UInt8} (h : pName T n = .ok (l, m)) : m = n + 1 := by
  unfold pName at h
  split at h
  · injection h with h; injection h with _ h; exact h.symm
  · cases h
theorem ptr_ok {w : World} {t : Ex} {w' : World} {v : Value} (h : vTree w t w' v) : ∃ g, v = .pointer (some ⟨g, 0, none⟩) := by
  obtain ⟨⟨g, cs, e, _⟩, _⟩ := h; exact ⟨g, e⟩


/-- a tree of one kid that was just made: its block, and what a store into it leaves -/
theorem one_kid {at_ op n : Nat} {a t : Ex} {m : Nat} (h : pMk at_ op [a] n = .ok (t, m)) : t = .n1 (exZero op) a ∧ m = n := by
  unfold pMk at h
  split at h
  · injection h with h; injection h with h1 h2; exact ⟨h1.symm, h2.symm⟩
  · cases h
theorem tree_block {w w' : World} {t : Ex} {g : Nat} (h : vTree w t w' (.pointer (some ⟨g, 0, none⟩))) : ∃ cs : List Value, w'.heap[g]? = some (.cells (cs ++ [Value.int .i64 (t.deep : Nat)]).toArray 109 (0, 0)) ∧ New w g ∧ ExAt w' (New w) t cs := by
  obtain ⟨⟨g', cs, e, hg, hb, hx⟩, _⟩ := h
  injection e with e; injection e with e; injection e with e
  subst e
  exact ⟨cs, hb, hg, hx⟩
theorem read_cells {w w' : World} {at_ op n m g : Nat} {a t : Ex} (h : pMk at_ op [a] n = .ok (t, m)) (hv : vTree w t w' (.pointer (some ⟨g, 0, none⟩))) :
    w'.cell? ⟨g, 9, none⟩ = some (.string ⟨#[]⟩) ∧ w'.frozen? ⟨g, 9, none⟩ = false := by
  obtain ⟨rfl, rfl⟩ := one_kid h
  obtain ⟨cs, hb, hg, v, ca, rfl, hx⟩ := tree_block hv
  exact ⟨by rw [cell_at hb]; rfl, frozen_at hb⟩
theorem KidsAt.other {w u : World} {F : Nat → Prop} {v : Value} {n g : Nat} {xs : List Value} {c : Array Value} {z : Nat × Nat} (h : KidsAt w F v n xs) (hg : w.heap[g]? = some (.cells c 109 z)) (hk : ∀ k, k ≠ g → u.heap[k]? = w.heap[k]?) : KidsAt u F v n xs := by
  obtain ⟨⟨hl, h1⟩, h2⟩ := h
  refine ⟨⟨hl, ?_⟩, h2⟩
  rcases h1 with h1 | ⟨g', cap, cur, hv, hb, hh, r⟩
  · exact .inl h1
  · refine .inr ⟨g', cap, cur, hv, hb, (hk g' ?_).trans hh, r⟩
    intro e
    subst e
    rw [hg] at hh
    injection hh with hh
    injection hh with _ hh
    cases hh
theorem ExAt.other {w u : World} {F : Nat → Prop} {g : Nat} {c : Array Value} {z : Nat × Nat} (hg : w.heap[g]? = some (.cells c 109 z)) (hk : ∀ k, k ≠ g → u.heap[k]? = w.heap[k]?) : ∀ (t : Ex) (cs : List Value), ExAt w F t cs → ExAt u F t cs
  | .n0 _, _, h => h
  | .n1 _ a, _, ⟨v, ca, e, h1, h2⟩ => ⟨v, ca, e, h1.other hg hk, ExAt.other hg hk a ca h2⟩
  | .n2 _ a b, _, ⟨v, ca, cb, e, h1, h2, h3⟩ => ⟨v, ca, cb, e, h1.other hg hk, ExAt.other hg hk a ca h2, ExAt.other hg hk b cb h3⟩
  | .n3 _ a b c, _, ⟨v, ca, cb, cc, e, h1, h2, h3, h4⟩ => ⟨v, ca, cb, cc, e, h1.other hg hk, ExAt.other hg hk a ca h2, ExAt.other hg hk b cb h3, ExAt.other hg hk c cc h4⟩

/-- stores into a tree's own block: its head is another one -/
theorem tree_set {w w' u : World} {hd hd' : Hd} {a : Ex} {g m : Nat} {P : Pr} {V : Va} (hv : vTree w (.n1 hd a) w' (.pointer (some ⟨g, 0, none⟩))) (hf : Fr P.b w w') (hs : St P V m w') (hB : P.B ≤ w.heap.size)
    (hk : ∀ k, k ≠ g → u.heap[k]? = w'.heap[k]?) (ho : u.os = w'.os ∧ u.tape = w'.tape ∧ u.output = w'.output ∧ u.heap.size = w'.heap.size)
    (hb : ∀ (v D : Value), w'.heap[g]? = some (.cells ((hdCells hd v) ++ [D]).toArray 109 (0, 0)) → u.heap[g]? = some (.cells ((hdCells hd' v) ++ [D]).toArray 109 (0, 0))) :
    Fr P.b w u ∧ St P V m u ∧ vTree w (.n1 hd' a) u (.pointer (some ⟨g, 0, none⟩)) := by
  obtain ⟨cs, hb', hg, v, ca, rfl, h1, h2⟩ := tree_block hv
  unfold New at hg
  have hlb := hs.lb
  refine ⟨⟨ho.1.trans hf.os, ho.2.1.trans hf.tape, ho.2.2.1.trans hf.output, by rw [ho.2.2.2]; exact hf.size, fun k hk' hb2 => (hk k (by omega)).trans (hf.block k hk' hb2)⟩, ⟨(hk _ (by omega)).trans hs.blk, hs.tok.same (fun k hk' _ => hk k (by omega)), hs.opl.same (hk 1 (by have := hs.ob.1; omega)), hs.ob, (hk _ (by have := hs.rl.1; omega)).trans hs.rul, hs.rl, hs.rok, hs.lb, by rw [ho.2.2.2]; exact hs.hB, hs.le, hs.bd, hs.tl⟩, ⟨g, hdCells hd' v, rfl, hg, ?_, v, ca, rfl, h1.other hb' hk, ExAt.other hb' hk a ca h2⟩, hv.2⟩
  exact hb v _ hb'

theorem set_read {w w' : World} {at_ op n m g : Nat} {a t : Ex} {P : Pr} {V : Va} (h : pMk at_ op [a] n = .ok (t, m)) (hf : Fr P.b w w') (hs : St P V m w') (hv : vTree w t w' (.pointer (some ⟨g, 0, none⟩))) (hB : P.B ≤ w.heap.size) (l : List UInt8) :
    Fr P.b w (w'.setCell ⟨g, 9, none⟩ (.string (str l))) ∧ St P V m (w'.setCell ⟨g, 9, none⟩ (.string (str l))) ∧ vTree w (setName l t) (w'.setCell ⟨g, 9, none⟩ (.string (str l))) (.pointer (some ⟨g, 0, none⟩)) := by
  obtain ⟨rfl, rfl⟩ := one_kid h
  refine tree_set hv hf hs hB (fun k hk => Below.heap_setCell _ _ _ _ hk) ⟨rfl, rfl, rfl, by simp [World.setCell]⟩ (fun v D hb => ?_)
  simp only [World.setCell, Array.getElem?_modify, hb]
  rfl

set_option maxHeartbeats 1000000 in
theorem inBrackets_any (P : Pr) (V : Va) (pe : Nat → PR Ex) (n : Nat) (w : World) (h : Hid (St P V n w)) (he : Hid (ExprOk P V pe n)) :
    Calls Tryd.prog 80 #[.pointer (some ⟨P.b, 0, none⟩)] w (Got P V w (pBr P.T pe n) (vTree w)) := by
  have hlt := h.out.lt
  go_enter Tryd.func80, Tryd.ntmps80
  go_wp2_with fail
  refine (need_any P V n [40] w h).mono ?_
  intro e w1 hG
  rcases hG.elim with ⟨x, m, hN, hf, hs, rfl⟩ | ⟨a1, m1, v1, hN, hf, hs, rfl, hv⟩
  · have E1 := Lib.hid hN
    have F1 := Lib.hid hf
    have S1 := Lib.hid hs
    clear hN hf hs hG
    go_wp2_with fail
    refine ⟨rfl, ?_⟩
    exact got_bad (by simp only [pBr, E1.out, thn_err]) F1.out S1.out rfl
  have E1 := Lib.hid hN
  have F1 := Lib.hid hf
  have S1 := Lib.hid hs
  have q1 : n < m1 := by have := pNeed_ok hN; omega
  clear hN hf hs hG hv
  go_wp2_with fail
  refine (he.out.1 m1 w1 q1 S1).mono ?_
  intro e w2 hG
  rcases hG.elim with ⟨x, m, hN, hf, hs, rfl⟩ | ⟨a2, m2, v2, hN, hf, hs, rfl, hv⟩
  · have E2 := Lib.hid hN
    have F2 := Lib.hid (F1.out.trans hf)
    have S2 := Lib.hid hs
    clear hN hf hs hG
    go_wp2_with fail
    refine ⟨rfl, ?_⟩
    exact got_bad (by simp only [pBr, E1.out, E2.out, thn_ok, thn_err]) F2.out S2.out rfl
  obtain ⟨g2, rfl⟩ := ptr_ok hv
  have E2 := Lib.hid hN
  have F2 := Lib.hid (F1.out.trans hf)
  have S2 := Lib.hid hs
  have T2 := Lib.hid (hv.older F1.out.size)
  have q2 : n < m2 := by have := he.out.2 _ _ _ hN; omega
  clear hN hf hs hG hv
  go_wp2_with fail
  refine (need_any P V m2 [41] w2 S2).mono ?_
  intro e w3 hG
  rcases hG.elim with ⟨x, m, hN, hf, hs, rfl⟩ | ⟨a3, m3, v3, hN, hf, hs, rfl, hv⟩
  · have E3 := Lib.hid hN
    have F3 := Lib.hid (F2.out.trans hf)
    have S3 := Lib.hid hs
    clear hN hf hs hG
    go_wp2_with fail
    refine ⟨rfl, ?_⟩
    exact got_bad (by simp only [pBr, E1.out, E2.out, E3.out, thn_ok, thn_err]) F3.out S3.out rfl
  have E3 := Lib.hid hN
  have F3 := Lib.hid (F2.out.trans hf)
  have S3 := Lib.hid hs
  replace T2 := Lib.hid (T2.out.fr hf hlt)
  have q3 : n < m3 := by have := pNeed_ok hN; omega
  clear hN hf hs hG hv
  go_wp2_with fail
  go_ret
  exact got_ok (by simp only [pBr, E1.out, E2.out, E3.out, thn_ok]) F3.out S3.out T2.out

set_option maxHeartbeats 1000000 in
theorem cat_any (P : Pr) (V : Va) (pe : Nat → PR Ex) (b at_ n : Nat) (w : World) (h : Hid (St P V n w)) (hb : b < n) (he : Hid (ExprOk P V pe b)) :
    Calls Tryd.prog 81 #[.pointer (some ⟨P.b, 0, none⟩), .int .i64 (at_ : Nat)] w (Got P V w (pCat P.T pe at_ n) (vTree w)) := by
  have hlt := h.out.lt
  go_enter Tryd.func81, Tryd.ntmps81
  go_wp2_with fail
  refine (he.out.1 n w hb h).mono ?_
  intro e w1 hG
  rcases hG.elim with ⟨x, m, hN, hf, hs, rfl⟩ | ⟨a1, m1, v1, hN, hf, hs, rfl, hv⟩
  · have E1 := Lib.hid hN
    have F1 := Lib.hid hf
    have S1 := Lib.hid hs
    clear hN hf hs hG
    go_wp2_with fail
    refine ⟨rfl, ?_⟩
    exact got_bad (by simp only [pCat, E1.out, thn_err]) F1.out S1.out rfl
  obtain ⟨g1, rfl⟩ := ptr_ok hv
  have E1 := Lib.hid hN
  have F1 := Lib.hid hf
  have S1 := Lib.hid hs
  have T1 := Lib.hid hv
  have q1 : b < m1 := by have := he.out.2 _ _ _ hN; omega
  clear hN hf hs hG hv
  go_wp2_with fail
  refine (need_any P V m1 [44] w1 S1).mono ?_
  intro e w2 hG
  rcases hG.elim with ⟨x, m, hN, hf, hs, rfl⟩ | ⟨a2, m2, v2, hN, hf, hs, rfl, hv⟩
  · have E2 := Lib.hid hN
    have F2 := Lib.hid (F1.out.trans hf)
    have S2 := Lib.hid hs
    clear hN hf hs hG
    go_wp2_with fail
    refine ⟨rfl, ?_⟩
    exact got_bad (by simp only [pCat, E1.out, E2.out, thn_ok, thn_err]) F2.out S2.out rfl
  have E2 := Lib.hid hN
  have F2 := Lib.hid (F1.out.trans hf)
  have S2 := Lib.hid hs
  replace T1 := Lib.hid (T1.out.fr hf hlt)
  have q2 : b < m2 := by have := pNeed_ok hN; omega
  clear hN hf hs hG hv
  go_wp2_with fail
  refine (he.out.1 m2 w2 q2 S2).mono ?_
  intro e w3 hG
  rcases hG.elim with ⟨x, m, hN, hf, hs, rfl⟩ | ⟨a3, m3, v3, hN, hf, hs, rfl, hv⟩
  · have E3 := Lib.hid hN
    have F3 := Lib.hid (F2.out.trans hf)
    have S3 := Lib.hid hs
    clear hN hf hs hG
    go_wp2_with fail
    refine ⟨rfl, ?_⟩
    exact got_bad (by simp only [pCat, E1.out, E2.out, E3.out, thn_ok, thn_err]) F3.out S3.out rfl
  obtain ⟨g3, rfl⟩ := ptr_ok hv
  have E3 := Lib.hid hN
  have F3 := Lib.hid (F2.out.trans hf)
  have S3 := Lib.hid hs
  have T3 := Lib.hid (hv.older F2.out.size)
  replace T1 := Lib.hid (T1.out.fr hf hlt)
  have q3 : b < m3 := by have := he.out.2 _ _ _ hN; omega
  clear hN hf hs hG hv
  go_wp2_with fail
  refine (need_any P V m3 [125] w3 S3).mono ?_
  intro e w4 hG
  rcases hG.elim with ⟨x, m, hN, hf, hs, rfl⟩ | ⟨a4, m4, v4, hN, hf, hs, rfl, hv⟩
  · have E4 := Lib.hid hN
    have F4 := Lib.hid (F3.out.trans hf)
    have S4 := Lib.hid hs
    clear hN hf hs hG
    go_wp2_with fail
    refine ⟨rfl, ?_⟩
    exact got_bad (by simp only [pCat, E1.out, E2.out, E3.out, E4.out, thn_ok, thn_err]) F4.out S4.out rfl
  have E4 := Lib.hid hN
  have F4 := Lib.hid (F3.out.trans hf)
  have S4 := Lib.hid hs
  replace T1 := Lib.hid (T1.out.fr hf hlt)
  replace T3 := Lib.hid (T3.out.fr hf hlt)
  have q4 : b < m4 := by have := pNeed_ok hN; omega
  clear hN hf hs hG hv
  go_wp2_with fail
  refine (mk2 (at_ := at_) (op := 17) S4.out F4.out T1.out T3.out).mono ?_
  intro e w5 hG
  rcases hG.elim with ⟨x, m, hN, hf, hs, rfl⟩ | ⟨a5, m5, v5, hN, hf, hs, rfl, hv⟩
  · have E5 := Lib.hid hN
    have F5 := Lib.hid hf
    have S5 := Lib.hid hs
    clear hN hf hs hG
    go_wp2_with fail
    refine ⟨rfl, ?_⟩
    exact got_bad (by simp only [pCat, E1.out, E2.out, E3.out, E4.out, E5.out, thn_ok]) F5.out S5.out rfl
  obtain ⟨g5, rfl⟩ := ptr_ok hv
  have E5 := Lib.hid hN
  have F5 := Lib.hid hf
  have S5 := Lib.hid hs
  have T5 := Lib.hid hv
  clear hN hf hs hG hv
  go_wp2_with fail
  go_ret
  exact got_ok (by simp only [pCat, E1.out, E2.out, E3.out, E4.out, E5.out, thn_ok]) F5.out S5.out T5.out

set_option maxHeartbeats 1000000 in
theorem memoryWord_any (P : Pr) (V : Va) (pe : Nat → PR Ex) (b at_ n : Nat) (w : World) (h : Hid (St P V n w)) (hb : b < n) (he : Hid (ExprOk P V pe b)) :
    Calls Tryd.prog 82 #[.pointer (some ⟨P.b, 0, none⟩), .int .i64 (at_ : Nat)] w (Got P V w (pMem P.T pe at_ n) (vTree w)) := by
  have hlt := h.out.lt
  go_enter Tryd.func82, Tryd.ntmps82
  go_wp2_with fail
  refine (need_any P V n [40] w h).mono ?_
  intro e w1 hG
  rcases hG.elim with ⟨x, m, hN, hf, hs, rfl⟩ | ⟨a1, m1, v1, hN, hf, hs, rfl, hv⟩
  · have E1 := Lib.hid hN
    have F1 := Lib.hid hf
    have S1 := Lib.hid hs
    clear hN hf hs hG
    go_wp2_with fail
    refine ⟨rfl, ?_⟩
    exact got_bad (by simp only [pMem, E1.out, thn_err]) F1.out S1.out rfl
  have E1 := Lib.hid hN
  have F1 := Lib.hid hf
  have S1 := Lib.hid hs
  have q1 : b < m1 := by have := pNeed_ok hN; omega
  clear hN hf hs hG hv
  go_wp2_with fail
  refine (name_any P V m1 w1 S1).mono ?_
  intro e w2 hG
  rcases hG.elim with ⟨x, m, hN, hf, hs, rfl⟩ | ⟨a2, m2, v2, hN, hf, hs, rfl, hv⟩
  · have E2 := Lib.hid hN
    have F2 := Lib.hid (F1.out.trans hf)
    have S2 := Lib.hid hs
    clear hN hf hs hG
    go_wp2_with fail
    refine ⟨rfl, ?_⟩
    exact got_bad (by simp only [pMem, E1.out, E2.out, thn_ok, thn_err]) F2.out S2.out rfl
  unfold vStr at hv
  subst hv
  have E2 := Lib.hid hN
  have F2 := Lib.hid (F1.out.trans hf)
  have S2 := Lib.hid hs
  have q2 : b < m2 := by have := pName_ok hN; omega
  clear hN hf hs hG
  go_wp2_with fail
  refine (need_any P V m2 [44] w2 S2).mono ?_
  intro e w3 hG
  rcases hG.elim with ⟨x, m, hN, hf, hs, rfl⟩ | ⟨a3, m3, v3, hN, hf, hs, rfl, hv⟩
  · have E3 := Lib.hid hN
    have F3 := Lib.hid (F2.out.trans hf)
    have S3 := Lib.hid hs
    clear hN hf hs hG
    go_wp2_with fail
    refine ⟨rfl, ?_⟩
    exact got_bad (by simp only [pMem, E1.out, E2.out, E3.out, thn_ok, thn_err]) F3.out S3.out rfl
  have E3 := Lib.hid hN
  have F3 := Lib.hid (F2.out.trans hf)
  have S3 := Lib.hid hs
  have q3 : b < m3 := by have := pNeed_ok hN; omega
  clear hN hf hs hG hv
  go_wp2_with fail
  refine (he.out.1 m3 w3 q3 S3).mono ?_
  intro e w4 hG
  rcases hG.elim with ⟨x, m, hN, hf, hs, rfl⟩ | ⟨a4, m4, v4, hN, hf, hs, rfl, hv⟩
  · have E4 := Lib.hid hN
    have F4 := Lib.hid (F3.out.trans hf)
    have S4 := Lib.hid hs
    clear hN hf hs hG
    go_wp2_with fail
    refine ⟨rfl, ?_⟩
    exact got_bad (by simp only [pMem, E1.out, E2.out, E3.out, E4.out, thn_ok, thn_err]) F4.out S4.out rfl
  obtain ⟨g4, rfl⟩ := ptr_ok hv
  have E4 := Lib.hid hN
  have F4 := Lib.hid (F3.out.trans hf)
  have S4 := Lib.hid hs
  have T4 := Lib.hid (hv.older F3.out.size)
  have q4 : b < m4 := by have := he.out.2 _ _ _ hN; omega
  clear hN hf hs hG hv
  go_wp2_with fail
  refine (need_any P V m4 [41] w4 S4).mono ?_
  intro e w5 hG
  rcases hG.elim with ⟨x, m, hN, hf, hs, rfl⟩ | ⟨a5, m5, v5, hN, hf, hs, rfl, hv⟩
  · have E5 := Lib.hid hN
    have F5 := Lib.hid (F4.out.trans hf)
    have S5 := Lib.hid hs
    clear hN hf hs hG
    go_wp2_with fail
    refine ⟨rfl, ?_⟩
    exact got_bad (by simp only [pMem, E1.out, E2.out, E3.out, E4.out, E5.out, thn_ok, thn_err]) F5.out S5.out rfl
  have E5 := Lib.hid hN
  have F5 := Lib.hid (F4.out.trans hf)
  have S5 := Lib.hid hs
  replace T4 := Lib.hid (T4.out.fr hf hlt)
  have q5 : b < m5 := by have := pNeed_ok hN; omega
  clear hN hf hs hG hv
  go_wp2_with fail
  refine (mk1 (at_ := at_) (op := 19) S5.out F5.out T4.out).mono ?_
  intro e w6 hG
  rcases hG.elim with ⟨x, m, hN, hf, hs, rfl⟩ | ⟨a6, m6, v6, hN, hf, hs, rfl, hv⟩
  · have E6 := Lib.hid hN
    have F6 := Lib.hid hf
    have S6 := Lib.hid hs
    clear hN hf hs hG
    go_wp2_with fail
    refine ⟨rfl, ?_⟩
    exact got_bad (by simp only [pMem, E1.out, E2.out, E3.out, E4.out, E5.out, E6.out, thn_ok, thn_err]) F6.out S6.out rfl
  obtain ⟨g6, rfl⟩ := ptr_ok hv
  have E6 := Lib.hid hN
  have F6 := Lib.hid hf
  have S6 := Lib.hid hs
  have T6 := Lib.hid hv
  clear hN hf hs hG hv
  obtain ⟨d1, d2⟩ := read_cells E6.out T6.out
  go_wp2_with fail
  go_ret
  have R := set_read E6.out F6.out S6.out T6.out h.out.hB a2
  exact got_ok (a := setName a2 a6) (m := m6) (by simp only [pMem, E1.out, E2.out, E3.out, E4.out, E5.out, E6.out, thn_ok]) R.1 R.2.1 R.2.2

end Go.Proofs.YtccjbpghpoblhaaDoor

