/-
  ROWS THAT GROW IN A FIELD.
-/
import Derived.Test.YtccjbpghpoblhaaDoorK12
/-
  LISTS, READ BY A FUNCTION VALUE, WALKED.
-/
namespace Go.Proofs.YtccjbpghpoblhaaDoor
open Go.RowKit

/-- one more behind each comma, f of them at most -/
def pMore {σ : Type} (T : List LexM.Tk) (q : σ → Nat → PR σ) : Nat → σ → Nat → PR σ
  | 0, s, n => if tokIs T n [44] = true then .error (gu T (n + 1) 2) else .ok (s, n)
  | f + 1, s, n => if tokIs T n [44] = true then thn (q s (n + 1)) fun s' n' => pMore T q f s' n' else .ok (s, n)
def pList {σ : Type} (T : List LexM.Tk) (q : σ → Nat → PR σ) (most : Nat) (s : σ) (n : Nat) : PR σ := thn (q s n) fun s' n' => pMore T q (most - 1) s' n'

def vRep {σ : Type} (Rep : σ → World → Prop) (s : σ) (w : World) (v : Value) : Prop := v = .tuple #[] ∧ Rep s w

/-- the contract of a function value that reads one -/
def OneOk {σ : Type} (P : Pr) (V : Va) (w0 : World) (K : FuncId) (x y : Value) (Rep : σ → World → Prop) (q : σ → Nat → PR σ) (len : σ → Nat) : Prop :=
  ∀ s n w, len s ≤ 16 → Hid (St P V n w) → Hid (Fr P.b w0 w) → Hid (Rep s w) → Calls Tryd.prog K #[x, y] w (Got P V w0 (q s n) (vRep Rep))

def LsRel {σ : Type} (P : Pr) (V : Va) (w0 : World) (Rep : σ → World → Prop) (q : σ → Nat → PR σ) (len : σ → Nat) (most : Nat) (R : PR σ) (f : Nat) (k : Value) (wr : World) : Prop :=
  ∃ (s : σ) (m j : Nat), j + f = most ∧ 1 ≤ j ∧ Hid (len s = j) ∧ k = .int .i64 (j : Nat) ∧ Hid (Fr P.b w0 wr) ∧ Hid (St P V m wr) ∧ Hid (Rep s wr) ∧ Hid (pMore P.T q f s m = R)

set_option maxRecDepth 100000 in
set_option maxHeartbeats 1000000 in
theorem list_any {σ : Type} (P : Pr) (V : Va) (w0 : World) (K : FuncId) (x y : Value) (Rep : σ → World → Prop) (q : σ → Nat → PR σ) (len : σ → Nat) (most : Nat) (s : σ) (n : Nat) (w : World) (h0 : Hid (len s = 0)) (hinc : Hid (∀ s n s' n', q s n = .ok (s', n') → len s' = len s + 1)) (hm1 : 1 ≤ most) (hm : most ≤ 16) (hRep : ∀ s w w', Rep s w → Fr P.b w w' → Rep s w') (hcf : ∀ w, (callFunc K #[x, y]).run Tryd.prog w = .ok (.enter K #[x, y]) w)
    (h : Hid (St P V n w)) (hf0 : Hid (Fr P.b w0 w)) (hr : Hid (Rep s w)) (h1 : Hid (OneOk P V w0 K x y Rep q len)) :
    Calls Tryd.prog 57 #[.pointer (some ⟨P.b, 0, none⟩), .int .i64 (most : Nat), .func (.func K) #[] #[x, y]] w (Got P V w0 (pList P.T q most s n) (vRep Rep)) := by
  have HRep := Lib.hid hRep
  clear hRep
  go_enter Tryd.func57, Tryd.ntmps57
  go_wp2_with fail
  refine (h1.out s n w (by have := h0.out; omega) h hf0 hr).mono ?_
  intro e w1 hG
  rcases hG.elim with ⟨x', m, hN, hf, hs, rfl⟩ | ⟨s1, m1, v1, hN, hf, hs, rfl, hv⟩
  · have E1 := Lib.hid hN
    have F1 := Lib.hid hf
    have S1 := Lib.hid hs
    clear hN hf hs hG
    go_wp2_with fail
    refine ⟨rfl, ?_⟩
    exact got_bad (by simp only [pList, E1.out, thn_err]) F1.out S1.out rfl
  obtain ⟨rfl, hv⟩ := hv
  have E1 := Lib.hid hN
  have F1 := Lib.hid hf
  have S1 := Lib.hid hs
  have R1 := Lib.hid hv
  clear hN hf hs hG hv
  go_wp2_with fail
  go_loopg [6] (most - 1) (fun f k wr => LsRel P V w0 Rep q len most (pMore P.T q (most - 1) s1 m1) f k wr)
  case atStart => exact ⟨s1, m1, 1, by omega, Nat.le_refl _, Lib.hid (by rw [hinc.out _ _ _ _ E1.out, h0.out]), rfl, F1, S1, R1, Lib.hid rfl⟩
  case round =>
    obtain ⟨s, m, j, hjf, hj1, HL, rfl, FR, SR, RR, ER⟩ := hrel
    have HJ := Lib.hid hjf
    have hj16 : j ≤ 16 := by omega
    clear hjf
    by_cases hT : tokIs P.T m [44] = true
    · have hml := tokIs_lt hT
      go_wp2_with fail
      refine (take_yes P V m [44] wr SR hT).mono ?_
      rintro e w2 ⟨rfl, hf, hs⟩
      have F2 := Lib.hid (FR.out.trans hf)
      have S2 := Lib.hid hs
      have R2 := Lib.hid (HRep.out s _ _ RR.out hf)
      clear hf hs
      by_cases hjm : j = most
      · have hd : ((j : Int) == (most : Int)) = true := by simp; omega
        obtain rfl : gk = 0 := by have := HJ.out; omega
        have HJM := Lib.hid hjm
        clear hjm
        go_wp2_with fail
        refine (giveUp_any P V (m + 1) 2 w2 S2).mono ?_
        rintro e w3 ⟨rfl, hf, hs⟩
        have F3 := Lib.hid (F2.out.trans hf)
        have S3 := Lib.hid hs
        clear hf hs
        go_wp2_with fail
        refine ⟨rfl, ?_⟩
        exact got_bad (by simp only [pList, E1.out, thn_ok]; rw [← ER.out, pMore, if_pos hT]) F3.out S3.out rfl
      · have hd : ((j : Int) == (most : Int)) = false := by simp; omega
        obtain ⟨f, hf'⟩ : ∃ f, gk = f + 1 := ⟨gk - 1, by have := HJ.out; omega⟩
        subst hf'
        go_wp2_with fail
        refine (h1.out s (m + 1) w2 (by have := HL.out; omega) S2 F2 R2).mono ?_
        intro e w3 hG
        rcases hG.elim with ⟨x', m', hN, hf, hs, rfl⟩ | ⟨s3, m3, v3, hN, hf, hs, rfl, hv⟩
        · have E3 := Lib.hid hN
          have F3 := Lib.hid hf
          have S3 := Lib.hid hs
          clear hN hf hs hG
          go_wp2_with fail
          refine ⟨rfl, ?_⟩
          exact got_bad (by simp only [pList, E1.out, thn_ok]; rw [← ER.out, pMore, if_pos hT, E3.out, thn_err]) F3.out S3.out rfl
        obtain ⟨rfl, hv⟩ := hv
        have E3 := Lib.hid hN
        have F3 := Lib.hid hf
        have S3 := Lib.hid hs
        have R3 := Lib.hid hv
        clear hN hf hs hG hv
        go_wp2_with fail
        go_roundg f
        case measure => omega
        case rel =>
          refine ⟨s3, m3, j + 1, by have := HJ.out; omega, by omega, Lib.hid (by rw [hinc.out _ _ _ _ E3.out, HL.out]), by go_num, F3, S3, R3, Lib.hid ?_⟩
          rw [← ER.out, pMore, if_pos hT, E3.out, thn_ok]
    · have hT' : tokIs P.T m [44] = false := by simpa using hT
      go_wp2_with fail
      refine (take_no P V m [44] wr SR hT').mono ?_
      rintro e w2 ⟨rfl, hf, hs⟩
      have F2 := Lib.hid (FR.out.trans hf)
      have S2 := Lib.hid hs
      have R2 := Lib.hid (HRep.out s _ _ RR.out hf)
      clear hf hs
      go_wp2_with fail
      go_end0
      refine got_ok (a := s) (m := m) ?_ F2.out S2.out ⟨rfl, R2.out⟩
      simp only [pList, E1.out, thn_ok]
      rw [← ER.out]
      cases gk with
      | zero => rw [pMore, if_neg hT]
      | succ f => rw [pMore, if_neg hT]

theorem cf65 (x y : Value) (w : World) : (callFunc 65 #[x, y]).run Tryd.prog w = .ok (.enter 65 #[x, y]) w := by simp [go_sem]
end Go.Proofs.YtccjbpghpoblhaaDoor

namespace Go.Proofs.YtccjbpghpoblhaaDoor
open Go.RowKit

/-- blocks of other types than T and e are as they were -/
def TyFr (T e : TypeId) (w u : World) : Prop := ∀ (j : Nat) (c : Array Value) (ty : TypeId) (z : Nat × Nat), w.heap[j]? = some (.cells c ty z) → ty ≠ T → ty ≠ e → u.heap[j]? = some (.cells c ty z)
theorem RowAt.ty {w u : World} {F : Nat → Prop} {T e e' : TypeId} {size : Nat} {v : Value} {n : Nat} {xs : List Value} (h : RowAt w F e' size v n xs) (hk : TyFr T e w u) (h1 : e' ≠ T) (h2 : e' ≠ e) : RowAt u F e' size v n xs := by
  obtain ⟨⟨hl, k1⟩, k2⟩ := h
  refine ⟨⟨hl, ?_⟩, k2⟩
  rcases k1 with k1 | ⟨g', cap, cur, hv, hb, hh, r⟩
  · exact .inl k1
  · exact .inr ⟨g', cap, cur, hv, hb, hk g' _ _ _ hh h1 h2, r⟩
theorem ExAt.ty {w u : World} {F : Nat → Prop} {T e : TypeId} (hk : TyFr T e w u) (h1 : 57 ≠ T) (h2 : 57 ≠ e) : ∀ (t : Ex) (cs : List Value), ExAt w F t cs → ExAt u F t cs := by
  have kk : ∀ {v n xs}, KidsAt w F v n xs → KidsAt u F v n xs := fun {v n xs} h => RowAt.ty (e' := 57) (size := 11) h hk h1 h2
  intro t
  induction t with
  | n0 h => intro cs h; exact h
  | n1 h a ih => rintro cs ⟨v, ca, e, k1, k2⟩; exact ⟨v, ca, e, kk k1, ih ca k2⟩
  | n2 h a b ih1 ih2 => rintro cs ⟨v, ca, cb, e, k1, k2, k3⟩; exact ⟨v, ca, cb, e, kk k1, ih1 ca k2, ih2 cb k3⟩
  | n3 h a b c ih1 ih2 ih3 => rintro cs ⟨v, ca, cb, cc, e, k1, k2, k3, k4⟩; exact ⟨v, ca, cb, cc, e, kk k1, ih1 ca k2, ih2 cb k3, ih3 cc k4⟩

theorem row_form {w : World} {F : Nat → Prop} {e : TypeId} {size : Nat} {v : Value} {n : Nat} {xs : List Value} (h : RowAt w F e size v n xs) : ∃ A c, v = .slice A n c := own_form h.1

/-- behind an append, and the store of the new row into a field -/
theorem app_rep {P : Pr} {V : Va} {m : Nat} {w0 w3 w5 : World} {o : Obj} {gm off : Nat} {c : Array Value} {T e : TypeId} {size : Nat} {A : Option Addr} {k c0 g cap : Nat} {xs ys : List Value}
    (hs : St P V m w3) (hf : Fr P.b w0 w3) (hB : P.B ≤ w0.heap.size) (hgm : w0.heap.size ≤ gm) (hb : w3.heap[gm]? = some (.cells c T (0, 0))) (hTe : T ≠ e)
    (hrow : RowAt w3 (New w0) e size (.slice A k c0) k xs) (hgrow : (w3.alloc o).grownBy w5 (Value.slice A k c0).ownBlock)
    (hown : w5.ownsRow 0 e size (.slice (some ⟨g, 0, none⟩) (k + 1) cap) (k + 1) (xs ++ ys)) (hat : (Value.slice A k c0).ownBlock = some g ∨ g = w3.heap.size + 1) :
    Fr P.b w0 (w5.setCell ⟨gm, off, none⟩ (.slice (some ⟨g, 0, none⟩) (k + 1) cap)) ∧ St P V m (w5.setCell ⟨gm, off, none⟩ (.slice (some ⟨g, 0, none⟩) (k + 1) cap)) ∧
    (w5.setCell ⟨gm, off, none⟩ (.slice (some ⟨g, 0, none⟩) (k + 1) cap)).heap[gm]? = some (.cells (c.setIfInBounds off (.slice (some ⟨g, 0, none⟩) (k + 1) cap)) T (0, 0)) ∧
    RowAt (w5.setCell ⟨gm, off, none⟩ (.slice (some ⟨g, 0, none⟩) (k + 1) cap)) (New w0) e size (.slice (some ⟨g, 0, none⟩) (k + 1) cap) (k + 1) (xs ++ ys) ∧
    TyFr T e w3 (w5.setCell ⟨gm, off, none⟩ (.slice (some ⟨g, 0, none⟩) (k + 1) cap)) := by
  have hsz : (w3.alloc o).heap.size = w3.heap.size + 1 := by simp
  have hfs := hf.size
  have hlb := hs.lb
  -- the row's old block is of type e
  have hold : ∀ j, some j = (Value.slice A k c0).ownBlock → New w0 j ∧ ∃ c', w3.heap[j]? = some (.cells c' e (0, 0)) := by
    intro j hj
    refine ⟨hrow.2 j hj.symm, ?_⟩
    rcases hrow.1.2 with ⟨h1, _⟩ | ⟨g', cap', cur, hv, _, hh, _⟩
    · rw [h1] at hj; cases hj
    · rw [hv] at hj
      have : j = g' := Option.some.inj hj
      subst this
      exact ⟨cur, hh⟩
  have far : ∀ j, j < w3.heap.size → some j ≠ (Value.slice A k c0).ownBlock → w5.heap[j]? = w3.heap[j]? := fun j hj hne => (hgrow.block j (by omega) hne).trans (Below.heap_alloc _ _ _ hj)
  have hgmr : some gm ≠ (Value.slice A k c0).ownBlock := by
    intro h1
    obtain ⟨_, c', h2⟩ := hold gm h1
    rw [hb] at h2; injection h2 with h2; injection h2 with _ h2; exact hTe h2
  have hgmlt := heap_lt hb
  have hb5 : w5.heap[gm]? = some (.cells c T (0, 0)) := (far gm hgmlt hgmr).trans hb
  have hbelow : ∀ j, j < w0.heap.size → j ≠ gm ∧ w5.heap[j]? = w3.heap[j]? := fun j hj => ⟨by omega, far j (by omega) (fun h1 => by have := (hold j h1).1; unfold New at this; omega)⟩
  have hset : ∀ j, j ≠ gm → (w5.setCell ⟨gm, off, none⟩ (.slice (some ⟨g, 0, none⟩) (k + 1) cap)).heap[j]? = w5.heap[j]? := fun j hj => Below.heap_setCell _ _ _ _ hj
  have hsz5 : (w5.setCell ⟨gm, off, none⟩ (.slice (some ⟨g, 0, none⟩) (k + 1) cap)).heap.size = w5.heap.size := by simp [World.setCell]
  have hg5 := hgrow.size
  have hgne : g ≠ gm := by
    rcases hown.2 with ⟨h1, _⟩ | ⟨g', cap', cur, hv, _, hh, _⟩
    · cases h1
    · injection hv with e1 _ _; injection e1 with e1; injection e1 with e1
      subst e1
      intro h1; subst h1
      rw [hb5] at hh; injection hh with hh; injection hh with _ hh; exact hTe hh
  refine ⟨⟨hgrow.os.trans hf.os, hgrow.tape.trans hf.tape, hgrow.output.trans hf.output, by rw [hsz5]; omega, fun j hj hjb => ?_⟩, ?_, ?_, ⟨?_, ?_⟩, ?_⟩
  · rw [hset j (hbelow j hj).1, (hbelow j hj).2]; exact hf.block j hj hjb
  · have q : ∀ j, j < P.B → (w5.setCell ⟨gm, off, none⟩ (.slice (some ⟨g, 0, none⟩) (k + 1) cap)).heap[j]? = w3.heap[j]? := fun j hj => (hset j (by omega)).trans (hbelow j (by omega)).2
    exact ⟨(q _ hlb).trans hs.blk, hs.tok.same (fun j hj _ => q j hj), hs.opl.same (q 1 hs.ob.1), hs.ob, (q _ hs.rl.1).trans hs.rul, hs.rl, hs.rok, hs.lb, by rw [hsz5]; omega, hs.le, hs.bd, hs.tl⟩
  · simp only [World.setCell, Array.getElem?_modify, hb5]
    rfl
  · exact ownsRow_setCell_other hown (by intro h1; exact hgne (Option.some.inj h1)) _
  · intro j hj
    have : g = j := Option.some.inj hj
    subst this
    rcases hat with h1 | h1
    · exact hrow.2 g h1
    · unfold New; omega
  · intro j c' ty z hj h1 h2
    have hjg : j ≠ gm := by
      intro h3; subst h3
      rw [hb] at hj; injection hj with hj; injection hj with _ hj; exact h1 hj.symm
    rw [hset j hjg, far j (heap_lt hj) (fun h3 => by
      obtain ⟨_, c'', h4⟩ := hold j h3
      rw [hj] at h4; injection h4 with h4; injection h4 with _ h4; exact h2 h4)]
    exact hj

theorem app_cell {w0 w3 w5 : World} {o : Obj} {gm : Nat} {c : Array Value} {T e : TypeId} {size : Nat} {A : Option Addr} {k c0 : Nat} {xs : List Value} (hb : w3.heap[gm]? = some (.cells c T (0, 0))) (hTe : T ≠ e)
    (hrow : RowAt w3 (New w0) e size (.slice A k c0) k xs) (hgrow : (w3.alloc o).grownBy w5 (Value.slice A k c0).ownBlock) : w5.heap[gm]? = some (.cells c T (0, 0)) := by
  have hgmlt := heap_lt hb
  have hsz : (w3.alloc o).heap.size = w3.heap.size + 1 := by simp
  refine ((hgrow.block gm (by omega) ?_).trans (Below.heap_alloc _ _ _ hgmlt)).trans hb
  intro hj
  rcases hrow.1.2 with ⟨h1, _⟩ | ⟨g', cap', cur, hv, _, hh, _⟩
  · rw [h1] at hj; cases hj
  · rw [hv] at hj
    have : gm = g' := Option.some.inj hj
    subst this
    rw [hb] at hh; injection hh with hh; injection hh with _ hh; exact hTe hh

/-- a module's header -/
structure Mh where
  name : List UInt8
  params : List (List UInt8)
  ports : List (Bool × List UInt8 × Dm)

def portCells (p : Bool × List UInt8 × Dm) : List Value := [.bool p.1, .string (str p.2.1), .string (str p.2.2.1), .int .i64 (p.2.2.2 : Nat)]
def ParamsAt (w : World) (F : Nat → Prop) (ps : List (List UInt8)) (v : Value) : Prop := RowAt w F 9 1 v ps.length (ps.map fun l => Value.string (str l))
def PortsAt (w : World) (F : Nat → Prop) (ps : List (Bool × List UInt8 × Dm)) (v : Value) : Prop := RowAt w F 64 4 v ps.length (ps.flatMap portCells)
/-- the module that is being read: its block, and the parser's box -/
def MhRep (P : Pr) (w0 : World) (gm gp : Nat) (m : Mh) (w : World) : Prop :=
  w0.heap.size ≤ gm ∧ w0.heap.size ≤ gp ∧ w.heap[gp]? = some (.cells #[.pointer (some ⟨P.b, 0, none⟩)] 65 (0, 0)) ∧
  ∃ pv qv, w.heap[gm]? = some (.cells #[.string (str m.name), pv, qv, .slice none 0 0] 48 (0, 0)) ∧ ParamsAt w (New w0) m.params pv ∧ PortsAt w (New w0) m.ports qv
theorem MhRep.fr {P : Pr} {w0 w w' : World} {gm gp : Nat} {m : Mh} (h : MhRep P w0 gm gp m w) (hf : Fr P.b w w') (hlt : P.b < w0.heap.size) : MhRep P w0 gm gp m w' := by
  obtain ⟨h1, h2, h3, pv, qv, h4, h5, h6⟩ := h
  have hk : ∀ g o, New w0 g → w.heap[g]? = some o → w'.heap[g]? = some o := fun g o hg ho => hf.keep ho (by unfold New at hg; omega)
  exact ⟨h1, h2, hk _ _ h2 h3, pv, qv, hk _ _ h1 h4, h5.keep (fun _ h => h) hk, h6.keep (fun _ h => h) hk⟩

def qParam (T : List LexM.Tk) (m : Mh) (n : Nat) : PR Mh := thn (pName T n) fun l n1 => .ok ({ m with params := m.params ++ [l] }, n1)

theorem info9 : (Tryd.prog.info? 9).map (fun i => (i.zero, i.size, i.bytes)) = some (some (.string ⟨#[]⟩), 1, 16) := by kernel_rfl

theorem name_ok {P : Pr} {V : Va} {n m : Nat} {l : List UInt8} {w : World} (h : Hid (St P V n w)) (hd : pName P.T n = .ok (l, m)) :
    Calls Tryd.prog 55 #[.pointer (some ⟨P.b, 0, none⟩)] w fun e w' => e = .returned (.string (str l)) ∧ Fr P.b w w' ∧ St P V m w' :=
  (name_any P V n w h).mono fun e w' hG => by
    rw [hd] at hG
    obtain ⟨hf, hs, v, rfl, rfl⟩ := hG
    exact ⟨rfl, hf, hs⟩
theorem name_bad {P : Pr} {V : Va} {n : Nat} {x : Nat × Nat} {w : World} (h : Hid (St P V n w)) (hd : pName P.T n = .error x) :
    Calls Tryd.prog 55 #[.pointer (some ⟨P.b, 0, none⟩)] w fun e w' => e = panicV x.1 x.2 ∧ Fr P.b w w' ∧ ∃ m, St P V m w' :=
  (name_any P V n w h).mono fun e w' hG => by
    rw [hd] at hG
    obtain ⟨hf, hs, rfl⟩ := hG
    exact ⟨rfl, hf, hs⟩

set_option maxRecDepth 100000 in
set_option maxHeartbeats 2000000 in
theorem param_any (P : Pr) (V : Va) (w0 : World) (gm gp : Nat) (m : Mh) (n : Nat) (w : World) (hlt : P.b < w0.heap.size) (hB : P.B ≤ w0.heap.size) (hlen : m.params.length ≤ 16) (h : Hid (St P V n w)) (hf0 : Hid (Fr P.b w0 w)) (hr : Hid (MhRep P w0 gm gp m w)) :
    Calls Tryd.prog 58 #[.pointer (some ⟨gm, 0, none⟩), .pointer (some ⟨gp, 0, none⟩)] w (Got P V w0 (qParam P.T m n) (vRep (MhRep P w0 gm gp))) := by
  obtain ⟨i0, hi, hz0, hz1, hz2⟩ := info_parts info9
  have HI := Lib.hid (And.intro hi (And.intro hz0 (And.intro hz1 hz2)))
  clear hi hz0 hz1 hz2
  obtain ⟨r1, r2, r3, pv, qv, r4, r5, r6⟩ := hr.out
  obtain ⟨A, c0, rfl⟩ := row_form r5
  have b0 : w.cell? ⟨gp, 0, none⟩ = some (.pointer (some ⟨P.b, 0, none⟩)) := by rw [cell_at r3]; rfl
  have b1 : w.cell? ⟨gm, 1, none⟩ = some (.slice A m.params.length c0) := by rw [cell_at r4]; rfl
  have hgmb : gm ≠ P.b := by omega
  have hgpb : gp ≠ P.b := by omega
  have HR := Lib.hid (And.intro r3 (And.intro r4 (And.intro r5 r6)))
  clear r3 r4 r5 r6
  rcases hN : pName P.T n with x | ⟨l, n1⟩
  · have E1 := Lib.hid hN
    clear hN
    go_enter Tryd.func58, Tryd.ntmps58
    go_wp2_with fail
    refine wp_region_any (by kernel_rfl) ?_
    change wpAny _ _ _ _ _ _ _ (World.drew _)
    refine wpAny_take (i := 0) (v := .pointer (some ⟨gm, 1, none⟩)) rfl (by kernel_rfl) (by kernel_rfl) (by kernel_rfl) (fun _ _ _ h => h) (Or.inl ⟨by rfl, by intro w; go_simp⟩) ?_
    refine wpAny_ready (rs := [1, 2]) (by kernel_rfl) (by simp) ?_
    refine AllReady.cons rfl (fun K hK => ?_) (AllReady.cons rfl (fun K hK => ?_) AllReady.nil)
    · go_simp
      refine hK _ _ ?_
      clear hK K
      refine wpAny_ready (rs := [2]) (by kernel_rfl) (by simp) ?_
      refine AllReady.cons rfl (fun K hK => ?_) AllReady.nil
      go_simp
      refine hK _ _ ?_
      clear hK K
      refine wpAny_ready (rs := [3]) (by kernel_rfl) (by simp) ?_
      refine AllReady.cons rfl (fun K hK => ?_) AllReady.nil
      go_simp
      refine (name_bad (Lib.hid h.out.drew) E1.out).mono ?_
      rintro e w3 ⟨rfl, hf3, m4, hs4⟩
      go_simp
      refine ⟨rfl, ?_⟩
      exact got_bad (by unfold qParam; rw [E1.out, thn_err]) (hf0.out.draw.trans hf3) hs4 rfl
    · go_simp
      refine hK _ _ ?_
      clear hK K
      refine wpAny_ready (rs := [1, 3]) (by kernel_rfl) (by simp) ?_
      refine AllReady.cons rfl (fun K hK => ?_) (AllReady.cons rfl (fun K hK => ?_) AllReady.nil)
      · go_simp
        refine hK _ _ ?_
        clear hK K
        refine wpAny_ready (rs := [3]) (by kernel_rfl) (by simp) ?_
        refine AllReady.cons rfl (fun K hK => ?_) AllReady.nil
        go_simp
        refine (name_bad (Lib.hid h.out.drew) E1.out).mono ?_
        rintro e w3 ⟨rfl, hf3, m4, hs4⟩
        go_simp
        refine ⟨rfl, ?_⟩
        exact got_bad (by unfold qParam; rw [E1.out, thn_err]) (hf0.out.draw.trans hf3) hs4 rfl
      · go_simp
        refine (name_bad (Lib.hid h.out.drew) E1.out).mono ?_
        rintro e w3 ⟨rfl, hf3, m4, hs4⟩
        go_simp
        refine ⟨rfl, ?_⟩
        exact got_bad (by unfold qParam; rw [E1.out, thn_err]) (hf0.out.draw.trans hf3) hs4 rfl
  · have E1 := Lib.hid hN
    clear hN
    go_enter Tryd.func58, Tryd.ntmps58
    go_wp2_with fail
    go_region_law (first
      | ((refine step_append_lies _ (by rfl) _ _ _ (by rfl) 0 9 i0 _ 1 16 Tryd.underlying44 HI.out.1 HI.out.2.1 HI.out.2.2.1 HI.out.2.2.2 rfl (by omega) (.slice A m.params.length c0) m.params.length (m.params.map fun l => Value.string (str l)) (by rfl) (HO3.out.alloc _)
            ⟨w3.heap.size, 0, none⟩ 1 1 [.string (str l)] (by rfl) (by rfl) (World.news_of_block (cs := #[.string (str l)]) (t := 9) (fr := (0, 0)) (heap_alloc_new w3 _)) (by simp [Value.oneCell']) (by omega) (by unfold maxLen; omega) (by omega) (by simp) (w3.heap.size + 1) (by simp) ?_; intro g cap w5 hown5 hgrow5 hat5 hlt5;
          have R := Lib.hid (app_rep (off := 1) HS3.out HF3.out hB r1 HB3.out (by decide) HW3.out hgrow5 hown5 hat5); have K5 := app_cell HB3.out (by decide) HW3.out hgrow5; have k5 := cell_at (o := 1) K5; have z5 := frozen_at (o := 1) K5; clear K5))
      | ((go_simp; go_at_call 55; refine (name_ok (Lib.hid h.out.drew) E1.out).mono ?_; rintro e w3 ⟨rfl, hf3, hs3⟩;
          have HF3 := Lib.hid (hf0.out.draw.trans hf3); have HS3 := Lib.hid hs3; have HB3 := Lib.hid (hf3.keep (w := w.drew) HR.out.2.1 hgmb); have HW3 := Lib.hid (RowAt.keep (w := w) HR.out.2.2.1 (fun _ h => h) (fun g o hg ho => hf3.keep (w := w.drew) ho (by unfold New at hg; omega)));
          have HO3 := Lib.hid HW3.out.1; have d1 : w3.cell? ⟨gm, 1, none⟩ = some (.slice A m.params.length c0) := (by rw [cell_at HB3.out]; rfl); have hgl3 : gm < w3.heap.size := heap_lt HB3.out)))
    all_goals
      go_wp2_with fail
      go_end0
      refine got_ok (a := { m with params := m.params ++ [l] }) (m := n1) (by unfold qParam; rw [E1.out, thn_ok]) R.out.1 R.out.2.1 ⟨rfl, r1, r2, ?_, .slice (some ⟨g, 0, none⟩) (m.params.length + 1) cap, qv, ?_, ?_, ?_⟩
      · exact R.out.2.2.2.2 _ _ _ _ (hf3.keep (w := w.drew) HR.out.1 hgpb) (by decide) (by decide)
      · exact R.out.2.2.1
      · have := R.out.2.2.2.1
        unfold ParamsAt
        simpa using this
      · exact (RowAt.keep (w := w) HR.out.2.2.2 (fun _ h => h) (fun g o hg ho => hf3.keep (w := w.drew) ho (by unfold New at hg; omega))).ty R.out.2.2.2.2 (by decide) (by decide)

end Go.Proofs.YtccjbpghpoblhaaDoor

