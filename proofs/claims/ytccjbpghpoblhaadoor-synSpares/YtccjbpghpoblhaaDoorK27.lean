/-
  module, WALKED.
-/
import Derived.Test.YtccjbpghpoblhaaDoorK26
namespace Go.Proofs.YtccjbpghpoblhaaDoor
open Go.RowKit

def MoAt (w : World) (F : Nat → Prop) (m : Mo) (cs : List Value) : Prop := ∃ pv qv iv, cs = [.string (str m.name), pv, qv, iv] ∧ ParamsAt w F m.params pv ∧ PortsAt w F m.ports qv ∧ ItemsAt w F m.items iv
def vMod (w : World) (m : Mo) (w' : World) (v : Value) : Prop := ∃ cs, v = .agg cs.toArray ∧ MoAt w' (New w) m cs

abbrev zero48 : Array Value := #[.string ⟨#[]⟩, .slice none 0 0, .slice none 0 0, .slice none 0 0]

theorem st_mods {P : Pr} {V : Va} {n : Nat} {w : World} (h : St P V n w) (x : Int) (hx : x = ((V.mo + 1 : Nat) : Int)) : Fr P.b w (w.setCell ⟨P.b, 3, none⟩ (.int .i64 x)) ∧ St P { V with mo := V.mo + 1 } n (w.setCell ⟨P.b, 3, none⟩ (.int .i64 x)) := by
  subst hx
  refine ⟨Fr.set w ⟨P.b, 3, Option.none⟩ _, ?_, h.tok.same (fun g _ hb => Below.heap_setCell _ _ _ _ hb), h.opl.same (Below.heap_setCell _ _ _ _ h.ob.2), h.ob, (Below.heap_setCell _ _ _ _ h.rl.2).trans h.rul, h.rl, h.rok, h.lb, by simpa [World.setCell] using h.hB, h.le, h.bd, h.tl⟩
  simp only [World.setCell, Array.getElem?_modify, h.blk]
  rfl

theorem cf58 (x y : Value) (w : World) : (callFunc 58 #[x, y]).run Tryd.prog w = .ok (.enter 58 #[x, y]) w := by simp [go_sem]
theorem cf59 (x y : Value) (w : World) : (callFunc 59 #[x, y]).run Tryd.prog w = .ok (.enter 59 #[x, y]) w := by simp [go_sem]

theorem qParam_one {T : List LexM.Tk} {i i' : Mh} {n n' : Nat} (h : qParam T i n = .ok (i', n')) : i'.params.length = i.params.length + 1 ∧ i'.ports = i.ports := by
  unfold qParam at h
  rcases hp : pName T n with x | ⟨d, m⟩
  · rw [hp, thn_err] at h; cases h
  · rw [hp, thn_ok] at h; cases h; simp
theorem qPort_one {T : List LexM.Tk} {i i' : Mh} {n n' : Nat} (h : qPort T i n = .ok (i', n')) : i'.ports.length = i.ports.length + 1 := by
  unfold qPort at h
  rcases hp : pPort T n with x | ⟨d, m⟩
  · rw [hp, thn_err] at h; cases h
  · rw [hp, thn_ok] at h; cases h; simp
theorem pMore_ports {T : List LexM.Tk} : ∀ (f : Nat) (i i' : Mh) (n n' : Nat), pMore T (qParam T) f i n = .ok (i', n') → i'.ports = i.ports
  | 0, i, i', n, n', h => by
    unfold pMore at h
    split at h
    · cases h
    · cases h; rfl
  | f + 1, i, i', n, n', h => by
    unfold pMore at h
    split at h
    · rcases hp : qParam T i (n + 1) with x | ⟨d, m⟩
      · rw [hp, thn_err] at h; cases h
      · rw [hp, thn_ok] at h
        exact (pMore_ports f d i' m n' h).trans (qParam_one hp).2
    · cases h; rfl
theorem pList_ports {T : List LexM.Tk} {most : Nat} {i i' : Mh} {n n' : Nat} (h : pList T (qParam T) most i n = .ok (i', n')) : i'.ports = i.ports := by
  unfold pList at h
  rcases hp : qParam T i n with x | ⟨d, m⟩
  · rw [hp, thn_err] at h; cases h
  · rw [hp, thn_ok] at h
    exact (pMore_ports _ d i' m n' h).trans (qParam_one hp).2

/-- a name's params, if it has any -/
def pParams (T : List LexM.Tk) (l : List UInt8) (n : Nat) : PR Mh := if tokIs T n [60] = true then thn (pList T (qParam T) 4 ⟨l, [], []⟩ (n + 1)) fun m n2 => thn (pNeed T n2 [62]) fun _ n3 => .ok (m, n3) else .ok (⟨l, [], []⟩, n)
def pPorts (T : List LexM.Tk) (m : Mh) (n : Nat) : PR Mh := if tokIs T n [41] = true then .ok (m, n) else pList T (qPort T) 16 m n
theorem pHead_is (T : List LexM.Tk) (n : Nat) : pHead T n = thn (pName T n) fun l n1 => thn (pParams T l n1) fun m n4 => thn (pNeed T n4 [40]) fun _ n5 => thn (pPorts T m n5) fun m' n6 => thn (pNeed T n6 [41]) fun _ n7 => thn (pNeed T n7 [123]) fun _ n8 => .ok (m', n8) := rfl

/-- between two parts of a module -/
def CutM (P : Pr) (V : Va) (n : Nat) (w0 : World) (gp gr : Nat) (m : Mh) (s1 s2 s3 : Value) (wx : World) : Prop :=
  s1 = .pointer (some ⟨gp, 0, none⟩) ∧ s2 = .pointer (some ⟨gr, 0, none⟩) ∧ ∃ gm, s3 = .pointer (some ⟨gm, 0, none⟩) ∧ Fr P.b w0 wx ∧ St P V n wx ∧ MhRepB P w0 gm gp m wx

theorem TyFr.trans {T e : TypeId} {w u x : World} (h : TyFr T e w u) (k : TyFr T e u x) : TyFr T e w x := fun j c t z hj h1 h2 => k j c t z (h j c t z hj h1 h2) h1 h2
theorem tyfr_set {w : World} {g : Nat} {c : Array Value} {T : TypeId} {z : Nat × Nat} (o : Nat) (v : Value) (h : w.heap[g]? = some (.cells c T z)) : TyFr T T w (w.setCell ⟨g, o, none⟩ v) := fun j c' t z' hj h1 _ => by
  refine (Below.heap_setCell _ _ _ _ ?_).trans hj
  rintro rfl
  rw [h] at hj
  injection hj with hj
  injection hj with _ hj
  exact h1 hj.symm
theorem blk_set {w : World} {g : Nat} {c : Array Value} {T : TypeId} {z : Nat × Nat} (o : Nat) (v : Value) (h : w.heap[g]? = some (.cells c T z)) : (w.setCell ⟨g, o, none⟩ v).heap[g]? = some (.cells (c.setIfInBounds o v) T z) := by
  simp only [World.setCell, Array.getElem?_modify, h]
  rfl
theorem FQ.put {P : Pr} {w w' : World} (h : FQ P w w') (hB : P.B ≤ w.heap.size) {a : Addr} (ha : w.heap.size ≤ a.block) (u : Value) : FQ P w (w'.setCell a u) :=
  ⟨h.os, h.tape, h.output, by rw [setCell_size]; exact h.size, fun j hj hb => (Below.heap_setCell _ _ _ _ (by omega)).trans (h.low j hj hb), fun j c t z hj h1 h2 => (Below.heap_setCell _ _ _ _ (by have := heap_lt hj; omega)).trans (h.ty j c t z hj h1 h2)⟩
theorem ItemsAt.keep {w w' : World} {F F' : Nat → Prop} {is : List It} {v : Value} (h : ItemsAt w F is v) (hF : ∀ g, F g → F' g) (hk : ∀ g o, F g → w.heap[g]? = some o → w'.heap[g]? = some o) : ItemsAt w' F' is v := by
  obtain ⟨css, k1, k2, k3⟩ := h
  refine ⟨css, k1.keep hF hk, k2, fun j i hj => ?_⟩
  obtain ⟨cs, q1, q2⟩ := k3 j i hj
  exact ⟨cs, q1, q2.keep hF hk⟩

abbrev GotM (P : Pr) (T : List LexM.Tk) (mo : Nat) (fs : Fs) (n : Nat) (w : World) : Ending → World → Prop := GotQ P (pModule T mo fs n).2.2 w ((pModule T mo fs n).1, (pModule T mo fs n).2.1) (vMod w)

theorem gotm_bad {P : Pr} {T : List LexM.Tk} {mo n m : Nat} {fs fs' : Fs} {w w' : World} {V : Va} {x : Nat × Nat} {e : Ending} (hr : pModule T mo fs n = (.error x, fs', V.mo)) (hf : FQ P w w') (hs : St P V m w') (ha : FaAt P w' V.fa fs') (he : e = panicV x.1 x.2) : GotM P T mo fs n w e w' := by
  unfold GotM
  rw [hr]
  exact gotq_bad rfl rfl hf hs ha he

set_option maxRecDepth 100000 in
set_option maxHeartbeats 4000000 in
theorem module_any (P : Pr) (V : Va) (n : Nat) (fs : Fs) (w : World) (h : Hid (St P V n w)) (ha : Hid (FaAt P w V.fa fs)) (hl : fs.length ≤ 19) (hmo : V.mo ≤ 16) :
    Calls Tryd.prog 38 #[.pointer (some ⟨P.b, 0, none⟩)] w (GotM P P.T V.mo fs n w) := by
  have hmf : ∀ (fn : Fn) (first cap : Array Value) (w : World), (Instr.makeFunc fn first cap).run Tryd.prog w = .ok (.func fn first cap) w := fun _ _ _ _ => rfl
  have hltw := h.out.lt
  have hBw := h.out.hB
  have hbB := h.out.lb
  go_enter Tryd.func38, Tryd.ntmps38
  go_upto_region 1 with fail
  obtain ⟨W, eW, zW, FW, SW, AW, BW, RW⟩ : ∃ W, (w.alloc (.cells #[.pointer (some ⟨P.b, 0, none⟩)] 65)).alloc (.cells zero48 48) = W ∧ W.heap.size = w.heap.size + 2 ∧ Hid (Fr P.b w W) ∧ Hid (St P V n W) ∧ Hid (FaAt P W V.fa fs) ∧ Hid (W.heap[w.heap.size]? = some (.cells #[.pointer (some ⟨P.b, 0, none⟩)] 65 (0, 0))) ∧ Hid (W.heap[w.heap.size + 1]? = some (.cells zero48 48 (0, 0))) := by
    refine ⟨_, rfl, by simp, Lib.hid ((Fr.alloc _ _ _).more _), Lib.hid ((h.out.alloc _).alloc _), Lib.hid (ha.out.fr ((Fr.alloc _ _ _).more _) hbB), Lib.hid ?_, Lib.hid ?_⟩
    · exact (Below.heap_alloc _ _ _ (by simp)).trans (new_at w _)
    · have := new_at (w.alloc (.cells #[.pointer (some ⟨P.b, 0, none⟩)] 65)) (.cells zero48 48)
      simpa using this
  have hgp : w.heap.size ≠ P.b := by omega
  have bW : W.cell? ⟨w.heap.size, 0, none⟩ = some (.pointer (some ⟨P.b, 0, none⟩)) := by rw [cell_at BW.out]; rfl
  have HW := Lib.hid zW
  have hWne : W.heap.size ≠ w.heap.size := by omega
  have c3 := SW.out.c3
  have z3 := SW.out.fz 3
  rw [eW]
  clear eW zW
  have FWq := Lib.hid (FQ.of FW.out h.out)
  by_cases hT : tokIs P.T n wModule = true
  · by_cases h16 : V.mo = 16
    · have hd : ((V.mo : Int) == 16) = true := by simp; omega
      have H16 := Lib.hid h16
      clear h16
      go_wp2_with fail
      refine (is_s SW hT).mono ?_
      rintro e w1 ⟨rfl, hf, hs⟩
      have F1 := Lib.hid (FWq.out.trans (FQ.of hf SW.out))
      have A1 := Lib.hid (AW.out.fr hf hbB)
      have S1 := Lib.hid hs
      have b1 : w1.cell? ⟨w.heap.size, 0, none⟩ = some (.pointer (some ⟨P.b, 0, none⟩)) := by rw [cell_at (hf.keep BW.out hgp)]; rfl
      have d3 := hs.c3
      clear hf hs bW c3 z3
      go_wp2_with fail
      refine (giveUp_any P V n 2 w1 S1).mono ?_
      rintro e w2 ⟨rfl, hf, hs⟩
      have F2 := Lib.hid (F1.out.trans (FQ.of hf S1.out))
      have A2 := Lib.hid (A1.out.fr hf hbB)
      have S2 := Lib.hid hs
      clear hf hs
      go_wp2_with fail
      refine ⟨rfl, ?_⟩
      exact gotm_bad (by unfold pModule; rw [if_pos hT, if_pos H16.out]) F2.out S2.out A2.out rfl
    · have hd : ((V.mo : Int) == 16) = false := by simp; omega
      go_wp2_with fail
      refine (is_s SW hT).mono ?_
      rintro e w1 ⟨rfl, hf, hs⟩
      have F1 := Lib.hid (Fr.trans (Fr.refl P.b W) hf)
      have A1 := Lib.hid (AW.out.fr hf hbB)
      have S1 := Lib.hid hs
      have b1 : w1.cell? ⟨w.heap.size, 0, none⟩ = some (.pointer (some ⟨P.b, 0, none⟩)) := by rw [cell_at (hf.keep BW.out hgp)]; rfl
      have d3 := hs.c3
      clear hf hs bW c3 z3
      go_wp2_with fail
      refine (need_any P V n wModule w1 S1).mono ?_
      intro e w2 hG
      have hN : pNeed P.T n wModule = .ok ((), n + 1) := by unfold pNeed; rw [if_pos hT]
      rw [hN] at hG
      obtain ⟨hf, hs, v2, rfl, hv2⟩ := hG
      obtain rfl : v2 = _ := hv2
      have q := st_mods hs ((V.mo : Int) + 1) (by omega)
      have F2 := Lib.hid ((F1.out.trans hf).trans q.1)
      have A2 := Lib.hid ((A1.out.fr hf hbB).fr q.1 hbB)
      have S2 := Lib.hid q.2
      have d3 := hs.c3
      have z3 := hs.fz 3
      have hltW2 := hs.lt
      have b2 : w2.cell? ⟨w.heap.size, 0, none⟩ = some (.pointer (some ⟨P.b, 0, none⟩)) := by rw [cell_at ((F1.out.trans hf).keep BW.out hgp)]; rfl
      clear hf hs q hN b1
      go_wp2_with fail
      refine (name_any P { V with mo := V.mo + 1 } (n + 1) _ S2).mono ?_
      intro e w3 hG
      rcases hG.elim with ⟨x, m, hN, hf, hs, rfl⟩ | ⟨l, n1, v3, hN, hf, hs, rfl, hv⟩
      · have E3 := Lib.hid hN
        have F3 := Lib.hid (FWq.out.trans (FQ.of (F2.out.trans hf) SW.out))
        have A3 := Lib.hid (A2.out.fr hf hbB)
        have S3 := Lib.hid hs
        clear hN hf hs hG
        go_wp2_with fail
        refine ⟨rfl, ?_⟩
        exact gotm_bad (V := { V with mo := V.mo + 1 }) (by unfold pModule; rw [if_pos hT, if_neg h16, pHead_is, E3.out, thn_err]) F3.out S3.out A3.out rfl
      obtain rfl : v3 = _ := hv
      have E3 := Lib.hid hN
      have F3 := Lib.hid (F2.out.trans hf)
      have A3 := Lib.hid (A2.out.fr hf hbB)
      have S3 := Lib.hid hs
      have B3 := Lib.hid (F3.out.keep BW.out hgp)
      have b3 : w3.cell? ⟨w.heap.size, 0, none⟩ = some (.pointer (some ⟨P.b, 0, none⟩)) := by rw [cell_at B3.out]; rfl
      have hw3 := heap_lt B3.out
      have hne3 : w.heap.size ≠ w3.heap.size := by omega
      clear hN hf hs hG b2 d3 z3
      go_upto_region 6 with fail
      obtain ⟨gm, hgm⟩ : ∃ gm, gm = w3.heap.size := ⟨_, rfl⟩
      rw [← hgm]
      obtain ⟨X, eX, FX, SX, AX, RX⟩ : ∃ X, w3.alloc (.cells #[.string (str l), .slice none 0 0, .slice none 0 0, .slice none 0 0] 48) = X ∧ Hid (Fr P.b W X) ∧ Hid (St P { V with mo := V.mo + 1 } n1 X) ∧ Hid (FaAt P X V.fa fs) ∧ Hid (MhRepB P W gm w.heap.size ⟨l, [], []⟩ X) := by
        refine ⟨_, rfl, Lib.hid (F3.out.more _), Lib.hid (S3.out.alloc _), Lib.hid (A3.out.fr (Fr.alloc _ _ _) hbB), Lib.hid ⟨by rw [hgm]; exact F3.out.size, hgp, ?_, .slice none 0 0, .slice none 0 0, ?_, ?_, ?_⟩⟩
        · exact (Below.heap_alloc _ _ _ hw3).trans B3.out
        · rw [hgm]; exact new_at w3 _
        · exact ⟨World.ownsRow_nil _ _ _ _, fun g h => by cases h⟩
        · exact ⟨World.ownsRow_nil _ _ _ _, fun g h => by cases h⟩
      rw [eX]
      clear eX F3 S3 A3 B3 b3
      have bX := RX.out.pcell
      have hltW : P.b < W.heap.size := SW.out.lt
      have hBW : P.B ≤ W.heap.size := SW.out.hB
      obtain ⟨b, hT2⟩ : ∃ b, tokIs P.T n1 [60] = b := ⟨_, rfl⟩
      have HT2 := Lib.hid hT2
      clear hT2 hgm hw3 hne3
      go_wp2_with fail
      refine (take_b SX HT2.out).mono ?_
      rintro e w4 ⟨rfl, hf, hs⟩
      have F4 := Lib.hid (FX.out.trans hf)
      have A4 := Lib.hid (AX.out.fr hf hbB)
      have S4 := Lib.hid hs
      have R4 := Lib.hid (RX.out.fr hf hltW)
      have b4 := R4.out.pcell
      clear hf hs bX FX AX SX RX
      go_upto_if 28 with fail
      go_cut [1, 2, 3] (fun s1 s2 s3 wx => Hid (∃ m2 n2, pParams P.T l n1 = .ok (m2, n2) ∧ m2.ports = [] ∧ FaAt P wx V.fa fs ∧ CutM P { V with mo := V.mo + 1 } n2 W w.heap.size (w.heap.size + 1) m2 s1 s2 s3 wx))
      case first =>
        cases b with
        | true =>
          have hT2 := HT2.out
          have S4 : Hid (St P { V with mo := V.mo + 1 } (n1 + 1) w4) := Lib.hid S4.out
          go_wp2_with fail
          refine (list_any P { V with mo := V.mo + 1 } W 58 (.pointer (some ⟨gm, 0, none⟩)) (.pointer (some ⟨w.heap.size, 0, none⟩)) (MhRepB P W gm w.heap.size) (qParam P.T) (fun j => j.params.length) 4 ⟨l, [], []⟩ (n1 + 1) w4 (Lib.hid rfl) (Lib.hid (fun s n s' n' hq => (qParam_one hq).1)) (by omega) (by omega) (fun s u u' hr hf => hr.fr hf hltW) (fun u => cf58 _ _ u) S4 F4 R4 (Lib.hid (fun s n u hl hs hf hr => paramB_any P { V with mo := V.mo + 1 } W gm w.heap.size s n u hltW hBW hl hs hf hr))).mono ?_
          intro e w5 hG
          rcases hG.elim with ⟨x, m, hL, hf, hs, rfl⟩ | ⟨i5, m5, v5, hL, hf, hs, rfl, hv⟩
          · have E2 := Lib.hid hL
            have F5 := Lib.hid (FWq.out.trans (FQ.of hf SW.out))
            have A5 := Lib.hid (AW.out.fr hf hbB)
            have S5 := Lib.hid hs
            clear hL hf hs hG
            go_wp2_with fail
            refine ⟨rfl, ?_⟩
            exact gotm_bad (V := { V with mo := V.mo + 1 }) (by unfold pModule; rw [if_pos hT, if_neg h16, pHead_is, E3.out, thn_ok]; unfold pParams; rw [if_pos hT2, E2.out, thn_err, thn_err]) F5.out S5.out A5.out rfl
          obtain ⟨rfl, hv⟩ := hv
          have E2 := Lib.hid hL
          have F5 := Lib.hid hf
          have A5 := Lib.hid (AW.out.fr hf hbB)
          have S5 := Lib.hid hs
          have R5 := Lib.hid hv
          have b5 := R5.out.pcell
          clear hL hf hs hG hv b4
          go_wp2_with fail
          refine (need_any P { V with mo := V.mo + 1 } m5 [62] w5 S5).mono ?_
          intro e w6 hG
          rcases hG.elim with ⟨x, m, hL, hf, hs, rfl⟩ | ⟨a6, m6, v6, hL, hf, hs, rfl, hv⟩
          · have E6 := Lib.hid hL
            have F6 := Lib.hid (FWq.out.trans (FQ.of (F5.out.trans hf) SW.out))
            have A6 := Lib.hid (A5.out.fr hf hbB)
            have S6 := Lib.hid hs
            clear hL hf hs hG
            go_wp2_with fail
            refine ⟨rfl, ?_⟩
            exact gotm_bad (V := { V with mo := V.mo + 1 }) (by unfold pModule; rw [if_pos hT, if_neg h16, pHead_is, E3.out, thn_ok]; unfold pParams; rw [if_pos hT2, E2.out, thn_ok, E6.out, thn_err, thn_err]) F6.out S6.out A6.out rfl
          have E6 := Lib.hid hL
          have F6 := Lib.hid (F5.out.trans hf)
          have A6 := Lib.hid (A5.out.fr hf hbB)
          have S6 := Lib.hid hs
          have R6 := Lib.hid (R5.out.fr hf hltW)
          clear hL hf hs hG hv b5
          go_wp2_with fail
          go_meet
          exact Lib.hid ⟨i5, m6, by unfold pParams; rw [if_pos hT2, E2.out, thn_ok, E6.out, thn_ok], pList_ports E2.out, A6.out, rfl, rfl, gm, rfl, F6.out, S6.out, R6.out⟩
        | false =>
          have hT2 : ¬ tokIs P.T n1 [60] = true := by rw [HT2.out]; decide
          have S4 : Hid (St P { V with mo := V.mo + 1 } n1 w4) := Lib.hid S4.out
          go_wp2_with fail
          go_meet
          exact Lib.hid ⟨⟨l, [], []⟩, n1, by unfold pParams; rw [if_neg hT2], rfl, A4.out, rfl, rfl, gm, rfl, F4.out, S4.out, R4.out⟩
      case rest =>
        obtain ⟨m2, n2, E2, hp2, AY, rfl, rfl, gm, rfl, FY, SY, RY⟩ := hcut.out
        have E2 := Lib.hid E2
        have FY := Lib.hid FY
        have AY := Lib.hid AY
        have SY := Lib.hid SY
        have RY := Lib.hid RY
        have bY := RY.out.pcell
        clear hcut F4 A4 S4 R4 b4
        go_wp2_with fail
        refine (need_any P { V with mo := V.mo + 1 } n2 [40] _ SY).mono ?_
        intro e w5 hG
        rcases hG.elim with ⟨x, m, hL, hf, hs, rfl⟩ | ⟨a5, n5, v5, hL, hf, hs, rfl, hv⟩
        · have E5 := Lib.hid hL
          have F5 := Lib.hid (FWq.out.trans (FQ.of (FY.out.trans hf) SW.out))
          have A5 := Lib.hid (AY.out.fr hf hbB)
          have S5 := Lib.hid hs
          clear hL hf hs hG
          go_wp2_with fail
          refine ⟨rfl, ?_⟩
          exact gotm_bad (V := { V with mo := V.mo + 1 }) (by unfold pModule; rw [if_pos hT, if_neg h16, pHead_is, E3.out, thn_ok, E2.out, thn_ok, E5.out, thn_err]) F5.out S5.out A5.out rfl
        have E5 := Lib.hid hL
        have F5 := Lib.hid (FY.out.trans hf)
        have A5 := Lib.hid (AY.out.fr hf hbB)
        have S5 := Lib.hid hs
        have R5 := Lib.hid (RY.out.fr hf hltW)
        have b5 := R5.out.pcell
        clear hL hf hs hG hv bY
        obtain ⟨b, hT3⟩ : ∃ b, tokIs P.T n5 [41] = b := ⟨_, rfl⟩
        have HT3 := Lib.hid hT3
        clear hT3
        go_wp2_with fail
        refine (is_s S5 HT3.out).mono ?_
        rintro e w6 ⟨rfl, hf, hs⟩
        have F6 := Lib.hid (F5.out.trans hf)
        have A6 := Lib.hid (A5.out.fr hf hbB)
        have S6 := Lib.hid hs
        have R6 := Lib.hid (R5.out.fr hf hltW)
        have b6 := R6.out.pcell
        clear hf hs b5 F5 A5 S5 R5
        go_upto_if 38 with fail
        go_cut [1, 2, 3] (fun s1 s2 s3 wx => Hid (∃ m6 n6, pPorts P.T m2 n5 = .ok (m6, n6) ∧ FaAt P wx V.fa fs ∧ CutM P { V with mo := V.mo + 1 } n6 W w.heap.size (w.heap.size + 1) m6 s1 s2 s3 wx))
        case first =>
          cases b with
          | true =>
            have hT3 := HT3.out
            go_wp2_with fail
            go_meet
            exact Lib.hid ⟨m2, n5, by unfold pPorts; rw [if_pos hT3], A6.out, rfl, rfl, gm, rfl, F6.out, S6.out, R6.out⟩
          | false =>
            have hT3 : ¬ tokIs P.T n5 [41] = true := by rw [HT3.out]; decide
            go_wp2_with fail
            refine (list_any P { V with mo := V.mo + 1 } W 59 (.pointer (some ⟨gm, 0, none⟩)) (.pointer (some ⟨w.heap.size, 0, none⟩)) (MhRepB P W gm w.heap.size) (qPort P.T) (fun j => j.ports.length) 16 m2 n5 w6 (Lib.hid (by simp [hp2])) (Lib.hid (fun s n s' n' hq => qPort_one hq)) (by omega) (by omega) (fun s u u' hr hf => hr.fr hf hltW) (fun u => cf59 _ _ u) S6 F6 R6 (Lib.hid (fun s n u hl hs hf hr => portB_any P { V with mo := V.mo + 1 } W gm w.heap.size s n u hltW hBW hl hs hf hr))).mono ?_
            intro e w7 hG
            rcases hG.elim with ⟨x, m, hL, hf, hs, rfl⟩ | ⟨i7, m7, v7, hL, hf, hs, rfl, hv⟩
            · have E7 := Lib.hid hL
              have F7 := Lib.hid (FWq.out.trans (FQ.of hf SW.out))
              have A7 := Lib.hid (AW.out.fr hf hbB)
              have S7 := Lib.hid hs
              clear hL hf hs hG
              go_wp2_with fail
              refine ⟨rfl, ?_⟩
              exact gotm_bad (V := { V with mo := V.mo + 1 }) (by unfold pModule; rw [if_pos hT, if_neg h16, pHead_is, E3.out, thn_ok, E2.out, thn_ok, E5.out, thn_ok]; unfold pPorts; rw [if_neg hT3, E7.out, thn_err]) F7.out S7.out A7.out rfl
            obtain ⟨rfl, hv⟩ := hv
            have E7 := Lib.hid hL
            have F7 := Lib.hid hf
            have A7 := Lib.hid (AW.out.fr hf hbB)
            have S7 := Lib.hid hs
            have R7 := Lib.hid hv
            clear hL hf hs hG hv b6
            go_wp2_with fail
            go_meet
            exact Lib.hid ⟨i7, m7, by unfold pPorts; rw [if_neg hT3, E7.out], A7.out, rfl, rfl, gm, rfl, F7.out, S7.out, R7.out⟩
        case rest =>
          obtain ⟨m6, n6, E6, AZ, rfl, rfl, gm, rfl, FZ, SZ, RZ⟩ := hcut.out
          have E6 := Lib.hid E6
          have FZ := Lib.hid FZ
          have AZ := Lib.hid AZ
          have SZ := Lib.hid SZ
          have RZ := Lib.hid RZ
          have bZ := RZ.out.pcell
          clear hcut F6 A6 S6 R6 b6
          go_wp2_with fail
          refine (need_any P { V with mo := V.mo + 1 } n6 [41] _ SZ).mono ?_
          intro e w7 hG
          rcases hG.elim with ⟨x, m, hL, hf, hs, rfl⟩ | ⟨a7, n7, v7, hL, hf, hs, rfl, hv⟩
          · have E7 := Lib.hid hL
            have F7 := Lib.hid (FWq.out.trans (FQ.of (FZ.out.trans hf) SW.out))
            have A7 := Lib.hid (AZ.out.fr hf hbB)
            have S7 := Lib.hid hs
            clear hL hf hs hG
            go_wp2_with fail
            refine ⟨rfl, ?_⟩
            exact gotm_bad (V := { V with mo := V.mo + 1 }) (by unfold pModule; rw [if_pos hT, if_neg h16, pHead_is, E3.out, thn_ok, E2.out, thn_ok, E5.out, thn_ok, E6.out, thn_ok, E7.out, thn_err]) F7.out S7.out A7.out rfl
          have E7 := Lib.hid hL
          have F7 := Lib.hid (FZ.out.trans hf)
          have A7 := Lib.hid (AZ.out.fr hf hbB)
          have S7 := Lib.hid hs
          have R7 := Lib.hid (RZ.out.fr hf hltW)
          have b7 := R7.out.pcell
          clear hL hf hs hG hv bZ
          go_wp2_with fail
          refine (need_any P { V with mo := V.mo + 1 } n7 [123] _ S7).mono ?_
          intro e w8 hG
          rcases hG.elim with ⟨x, m, hL, hf, hs, rfl⟩ | ⟨a8, n8, v8, hL, hf, hs, rfl, hv⟩
          · have E8 := Lib.hid hL
            have F8 := Lib.hid (FWq.out.trans (FQ.of (F7.out.trans hf) SW.out))
            have A8 := Lib.hid (A7.out.fr hf hbB)
            have S8 := Lib.hid hs
            clear hL hf hs hG
            go_wp2_with fail
            refine ⟨rfl, ?_⟩
            exact gotm_bad (V := { V with mo := V.mo + 1 }) (by unfold pModule; rw [if_pos hT, if_neg h16, pHead_is, E3.out, thn_ok, E2.out, thn_ok, E5.out, thn_ok, E6.out, thn_ok, E7.out, thn_ok, E8.out, thn_err]) F8.out S8.out A8.out rfl
          have E8 := Lib.hid hL
          have F8 := Lib.hid (F7.out.trans hf)
          have A8 := Lib.hid (A7.out.fr hf hbB)
          have S8 := Lib.hid hs
          have R8 := Lib.hid (R7.out.fr hf hltW)
          have b8 := R8.out.pcell
          clear hL hf hs hG hv b7
          have EH : Hid (pHead P.T (n + 1) = .ok (m6, n8)) := Lib.hid (by rw [pHead_is, E3.out, thn_ok, E2.out, thn_ok, E5.out, thn_ok, E6.out, thn_ok, E7.out, thn_ok, E8.out, thn_ok])
          go_wp2_with fail
          refine (body_any P { V with mo := V.mo + 1 } n8 fs w8 S8 A8 hl).mono ?_
          rintro e w9 ⟨hq, hG⟩
          rcases hB : pBody P.T (P.T.length + 1) 0 [] fs n8 with ⟨r9, fs9⟩
          rw [hB] at hG
          have HB := Lib.hid hB
          clear hB
          have F9 := Lib.hid (FWq.out.trans ((FQ.of F8.out SW.out).trans hq))
          rcases r9 with x | ⟨is, n9⟩
          · obtain ⟨⟨V9, m9, hmo9, hs9, ha9⟩, rfl⟩ := hG
            have S9 := Lib.hid hs9
            have A9 := Lib.hid ha9
            clear hs9 ha9 hq
            go_wp2_with fail
            refine ⟨rfl, ?_⟩
            refine gotm_bad (V := V9) (fs' := fs9) ?_ F9.out S9.out A9.out rfl
            unfold pModule
            rw [if_pos hT, if_neg h16, EH.out]
            simp only []
            rw [HB.out, hmo9]
          · obtain ⟨⟨V9, hmo9, hs9, ha9⟩, v9, rfl, hv9⟩ := hG
            have S9 := Lib.hid hs9
            have A9 := Lib.hid ha9
            obtain ⟨r1, r2, r3, pv, qv, r4, r5, r6⟩ := R8.out
            have g4 := hq.ty _ _ _ _ r4 (by decide) (by decide)
            have p5 := RowAt.ty r5 hq.ty (by decide) (by decide)
            have p6 := RowAt.ty r6 hq.ty (by decide) (by decide)
            have gr9 := hq.ty _ _ _ _ (F8.out.keep RW.out (by omega)) (by decide) (by decide)
            have hgmr : gm ≠ w.heap.size + 1 := by have := HW.out; omega
            have hgmr' : w.heap.size + 1 ≠ gm := fun e => hgmr e.symm
            have x0 : w9.cell? ⟨gm, 0, none⟩ = some (.string (str m6.name)) := by rw [cell_at g4]; rfl
            have x1 : w9.cell? ⟨gm, 1, none⟩ = some pv := by rw [cell_at g4]; rfl
            have x2 : w9.cell? ⟨gm, 2, none⟩ = some qv := by rw [cell_at g4]; rfl
            have x3 : w9.cell? ⟨gm, 3, none⟩ = some (.slice none 0 0) := by rw [cell_at g4]; rfl
            have y0 : w9.cell? ⟨w.heap.size + 1, 0, none⟩ = some (.string ⟨#[]⟩) := by rw [cell_at gr9]; rfl
            have y1 : w9.cell? ⟨w.heap.size + 1, 1, none⟩ = some (.slice none 0 0) := by rw [cell_at gr9]; rfl
            have y2 : w9.cell? ⟨w.heap.size + 1, 2, none⟩ = some (.slice none 0 0) := by rw [cell_at gr9]; rfl
            have y3 : w9.cell? ⟨w.heap.size + 1, 3, none⟩ = some (.slice none 0 0) := by rw [cell_at gr9]; rfl
            have zg : ∀ o, w9.frozen? ⟨gm, o, none⟩ = false := fun o => frozen_at g4
            have zr : ∀ o, w9.frozen? ⟨w.heap.size + 1, o, none⟩ = false := fun o => frozen_at gr9
            have zg3 := zg 3
            have zr0 := zr 0
            have zr1 := zr 1
            have zr2 := zr 2
            have zr3 := zr 3
            obtain ⟨Ap, cp', hpv⟩ := row_form p5
            obtain ⟨Aq, cq', hqv⟩ := row_form p6
            obtain ⟨css9, hi9, _⟩ := id hv9
            obtain ⟨Ai, ci', hiv⟩ := row_form hi9
            have HV := Lib.hid (And.intro g4 (And.intro gr9 (And.intro p5 (And.intro p6 hv9))))
            have H8 := Lib.hid F8.out.size
            subst hpv hqv hiv
            clear g4 gr9 p5 p6 hv9 hs9 ha9 hq r3 r4 r5 r6 hi9 zg zr
            go_wp2_with fail
            refine bodyPost_ret (v := .agg #[.string (str m6.name), .slice Ap m6.params.length cp', .slice Aq m6.ports.length cq', .slice Ai is.length ci']) (by simp [results, Tryd.results38, go_sem, y0, y1, y2, y3]) rfl ?_
            have k1 := tyfr_set 3 (.slice Ai is.length ci') HV.out.1
            have g1 := (Below.heap_setCell w9 ⟨gm, 3, none⟩ (.slice Ai is.length ci') _ hgmr').trans HV.out.2.1
            have k2 := tyfr_set 0 (.string (str m6.name)) g1
            have g2 := blk_set 0 (.string (str m6.name)) g1
            have k3 := tyfr_set 1 (.slice Ap m6.params.length cp') g2
            have g3 := blk_set 1 (.slice Ap m6.params.length cp') g2
            have k4 := tyfr_set 2 (.slice Aq m6.ports.length cq') g3
            have g4 := blk_set 2 (.slice Aq m6.ports.length cq') g3
            have k5 := tyfr_set 3 (.slice Ai is.length ci') g4
            have K := (((k1.trans k2).trans k3).trans k4).trans k5
            have hwW := HW.out
            have h8 := H8.out
            refine gotq_ok (V := V9) (m := n9) (fs := fs9) (a := ⟨m6.name, m6.params, m6.ports, is⟩) ?_ ?_ ?_ ?_ ?_ ?_
            · unfold pModule
              rw [if_pos hT, if_neg h16, EH.out]
              simp only []
              rw [HB.out]
            · unfold pModule
              rw [if_pos hT, if_neg h16, EH.out]
              simp only []
              rw [HB.out, hmo9]
            · exact ((((F9.out.put hBw (a := ⟨gm, 3, none⟩) (by show _ ≤ gm; omega) _).put hBw (a := ⟨w.heap.size + 1, 0, none⟩) (by show _ ≤ w.heap.size + 1; omega) _).put hBw (a := ⟨w.heap.size + 1, 1, none⟩) (by show _ ≤ w.heap.size + 1; omega) _).put hBw (a := ⟨w.heap.size + 1, 2, none⟩) (by show _ ≤ w.heap.size + 1; omega) _).put hBw (a := ⟨w.heap.size + 1, 3, none⟩) (by show _ ≤ w.heap.size + 1; omega) _
            · exact ((((S9.out.put (a := ⟨gm, 3, none⟩) (by show _ ≤ gm; omega) _).put (a := ⟨w.heap.size + 1, 0, none⟩) (by show _ ≤ w.heap.size + 1; omega) _).put (a := ⟨w.heap.size + 1, 1, none⟩) (by show _ ≤ w.heap.size + 1; omega) _).put (a := ⟨w.heap.size + 1, 2, none⟩) (by show _ ≤ w.heap.size + 1; omega) _).put (a := ⟨w.heap.size + 1, 3, none⟩) (by show _ ≤ w.heap.size + 1; omega) _
            · exact RowAt.ty A9.out K (by decide) (by decide)
            · refine ⟨_, rfl, .slice Ap m6.params.length cp', .slice Aq m6.ports.length cq', .slice Ai is.length ci', rfl, ?_, ?_, ?_⟩
              · exact RowAt.ty (RowAt.keep HV.out.2.2.1 (F' := New w) (fun g hg => by unfold New at hg ⊢; omega) (fun _ _ _ h => h)) K (by decide) (by decide)
              · exact RowAt.ty (RowAt.keep HV.out.2.2.2.1 (F' := New w) (fun g hg => by unfold New at hg ⊢; omega) (fun _ _ _ h => h)) K (by decide) (by decide)
              · exact ItemsAt.ty (ItemsAt.keep HV.out.2.2.2.2 (F' := New w) (fun g hg => by unfold New at hg ⊢; omega) (fun _ _ _ h => h)) K (by decide) (by decide) (by decide)
  · have hT' : tokIs P.T n wModule = false := by simpa using hT
    go_wp2_with fail
    refine (is_s SW hT').mono ?_
    rintro e w1 ⟨rfl, hf, hs⟩
    have F1 := Lib.hid (FWq.out.trans (FQ.of hf SW.out))
    have A1 := Lib.hid (AW.out.fr hf hbB)
    have S1 := Lib.hid hs
    have b1 : w1.cell? ⟨w.heap.size, 0, none⟩ = some (.pointer (some ⟨P.b, 0, none⟩)) := by rw [cell_at (hf.keep BW.out hgp)]; rfl
    clear hf hs bW c3 z3
    go_wp2_with fail
    refine (need_any P V n wModule w1 S1).mono ?_
    intro e w2 hG
    have hN : pNeed P.T n wModule = .error (gu P.T n 20) := by unfold pNeed; rw [if_neg hT]
    rw [hN] at hG
    obtain ⟨hf, ⟨m, hs⟩, rfl⟩ := hG
    have F2 := Lib.hid (F1.out.trans (FQ.of hf S1.out))
    have A2 := Lib.hid (A1.out.fr hf hbB)
    have S2 := Lib.hid hs
    clear hf hs
    go_wp2_with fail
    refine ⟨rfl, ?_⟩
    exact gotm_bad (by unfold pModule; rw [if_neg hT]) F2.out S2.out A2.out rfl

end Go.Proofs.YtccjbpghpoblhaaDoor

