/-
  A RANGE OVER sim's cycles: what a caller owes.
-/
import Derived.Test.YtmnblcnhbafcpaaJ36
import Derived.RangeFuncNested
import Derived.RangeFuncBound
import Derived.RangeFuncCalls
import Derived.RangeFuncLeaves
import Derived.RangeFuncBox
import Derived.Shelf.Abstract
import Derived.Shelf.RegionOpen
import Derived.OwnWalkIn
import Derived.TacticsInMore
import Derived.LoopNIn
import Derived.LoopIn
import Derived.Sort.CutIn
import Derived.Stop.RegionWithIn
/-
  sim's cycles, the sequence that it tells, WALKED.
-/
namespace Go.Proofs.Ytmnblcnhbafcpaa
open Go.RowKit Go.Shelf
open NetM
open VecM
attribute [local go_sem] Oper.semAt_some

/-- a net, a trace, in two boxes, and all that lay in a world -/
def CycAt (w0 : World) (B1 B2 : Nat) (n : Nt) (A1 A2 A3 A4 A5 At : Option Addr) (c1 c2 c3 c4 c5 tl ct : Nat) (U : World) : Prop :=
  Gr w0 U ∧ BxAt U B1 n A1 A2 A3 A4 A5 c1 c2 c3 c4 c5 ∧ U.cell? ⟨B2, 0, none⟩ = some (.slice At tl ct)

set_option maxRecDepth 100000 in
set_option maxHeartbeats 4000000 in
theorem cycles_any (n : Nt) (A1 A2 A3 A4 A5 At : Option Addr) (c1 c2 c3 c4 c5 tl ct : Nat) (w : World) :
    Calls Try.prog 34 #[ntV A1 A2 A3 A4 A5 n.nodes.length n.ins.length n.cells.length n.props.length n.names.length c1 c2 c3 c4 c5, .slice At tl ct] w fun e w' => e = .returned (.func (.func 50) #[] #[.pointer (some ⟨w.heap.size, 0, none⟩), .pointer (some ⟨w.heap.size + 1, 0, none⟩)]) ∧ (w.alloc (.cells (bxC n A1 A2 A3 A4 A5 c1 c2 c3 c4 c5) 27)).alloc (.cells #[.slice At tl ct] 28) = w' := by
  go_enter Try.func34, Try.ntmps34
  go_wp2
  go_ret
  exact ⟨rfl, rfl⟩

set_option maxRecDepth 100000 in
set_option maxHeartbeats 4000000 in
theorem cycles1_any (m : Nat) (hm : 3 ≤ m) (l : Nat) (n : Nt) (t : List (List Nat)) (A1 A2 A3 A4 A5 At : Option Addr) (c1 c2 c3 c4 c5 ct B1 B2 : Nat) (w0 W : World) (hs : Sz n) (hR : NRight n) (ht : TrOk n t) (htl : t.length ≤ 64)
    (hn : Hid (NtAt w0 n (ntV A1 A2 A3 A4 A5 n.nodes.length n.ins.length n.cells.length n.props.length n.names.length c1 c2 c3 c4 c5))) (htv : Hid (RwsP w0 At (t.map ofN)))
    (J Jx : Nat → World → Prop) (hJg : Hid (∀ k U, J k U → CycAt w0 B1 B2 n A1 A2 A3 A4 A5 At c1 c2 c3 c4 c5 t.length ct U)) (hJa : Hid (∀ k U U', J k U → Gr U U' → J k U'))
    (hY : Hid (∀ k r sv rv Wp U, t[k]? = some r → J k Wp → Gr Wp U → (∀ b, sv.ownBlock = some b → Wp.heap.size ≤ b) → IntR U sv (ofN (stAt n t k)) → IntR U rv (ofN r) → YieldAt Fence.wide (m - 1) Try.prog l #[sv, rv] U fun e U' => (e = .returned (.bool true) ∧ J (k + 1) U' ∧ IntR U' sv (ofN (stAt n t k))) ∨ (e = .returned (.bool false) ∧ Jx (k + 1) U')))
    (h0 : Hid (J 0 W)) :
    CallsIn Fence.wide m Try.prog 50 (#[.func (.yield l) #[] #[]] ++ #[.pointer (some ⟨B1, 0, none⟩), .pointer (some ⟨B2, 0, none⟩)]) W fun e U => (∃ v, e = .returned v) ∧ (J t.length U ∨ ∃ k, k ≤ t.length ∧ Jx k U) := by
  have HV := Lib.hid (fun (u : World) (hu : Gr w0 u) => hn.out.gr hu)
  have FI := Lib.hid (fun (u : World) (hu : Gr w0 u) => First_any n _ u hs (Lib.hid (HV.out u hu)))
  simp only [ofN_first hR] at FI
  have AF := Lib.hid (fun (k : Nat) (r : List Nat) (hk : t[k]? = some r) (s rv : Value) (u : World) (hu : Gr w0 u) (hsr : IntR u s (ofN (stAt n t k))) (hrr : IntR u rv (ofN r)) => by
    have hkl := (List.getElem?_eq_some_iff.1 hk).1
    obtain ⟨hrl, hrk⟩ := ht r (List.mem_of_getElem? hk)
    have hok := ok_at hR ht k (by omega)
    have hz := hs
    unfold Sz at hz
    have hA := After_any n _ s rv (ofN (evAll n (stAt n t k) r)) u hs (Lib.hid (HV.out u hu)) (by rw [ofN_len]; unfold evAll; rw [evL_len _ _ _ _ (Nat.le_refl _)]; omega)
      (Lib.hid fun u2 hu2 => Eval_any n _ s rv (stAt n t k) r u2 hs (Lib.hid (HV.out u2 (Gr.trans hu hu2))) hR.1 (by rw [stAt_len]; omega) (by omega) (Lib.hid (hsr.gr hu2)) (Lib.hid (hrr.gr hu2)) (Lib.hid (evL_lim hR hok hrk)))
    rw [ofN_next, ← stAt_succ hk] at hA
    exact hA)
  clear HV
  have HF := Lib.hid (fun (k : Nat) => firstS_len n)
  obtain ⟨g0, ⟨e0, e1, e2, e3, e4⟩, f0⟩ := hJg.out _ _ h0.out
  have HG0 := Lib.hid g0
  clear g0
  refine callsIn_of_wp Try.func50 rfl trivial ?_ rfl
  simp only [Try.ntmps50, List.size_toArray, List.length_cons, List.length_nil, Nat.reduceAdd, Nat.reduceSub, Array.replicate_succ, Array.replicate_zero, List.push_toArray, List.append_toArray, List.nil_append, List.cons_append]
  gi_wp2_with (refine ⟨trivial, fun _ => by omega, (callsIn_wide.2 (FI.out _ HG0.out)).mono ?_⟩; rintro e w1 ⟨v1, rfl, hi1, hg1, hf1⟩; have HI1 := Lib.hid (And.intro hi1 (And.intro hg1 hf1)); clear hi1 hg1 hf1 e0 e1 e2 e3 e4 f0; obtain ⟨-, -, f0⟩ := hJg.out _ _ (hJa.out _ _ _ h0.out HI1.out.2.1))
  clear f0
  gi_loopw [4, 11] (fun s i wr => ∃ k : Nat, k ≤ t.length ∧ i = .int .i64 (k : Nat) ∧ Hid (∃ Wp, J k Wp ∧ Gr Wp wr ∧ IntR wr s (ofN (stAt n t k)) ∧ ∀ b, s.ownBlock = some b → Wp.heap.size ≤ b)) (fun _ i _ => t.length - (intOf i).toNat)
  case atStart => exact ⟨0, Nat.zero_le _, rfl, Lib.hid ⟨W, h0.out, HI1.out.2.1, HI1.out.1, HI1.out.2.2⟩⟩
  case round =>
    obtain ⟨k, hk, rfl, HR⟩ := hrel
    obtain ⟨Wp, hJ, hG, hI, hF⟩ := HR.out
    have HJ := Lib.hid (hJa.out _ _ _ hJ hG)
    have HP := Lib.hid (And.intro hJ (And.intro hG (And.intro hI hF)))
    clear hJ hG hI hF
    obtain ⟨g0, ⟨e0, e1, e2, e3, e4⟩, f0⟩ := hJg.out _ _ HJ.out
    have HG := Lib.hid g0
    clear g0
    by_cases hlt : k < t.length
    · have hri : t[k]? = some t[k] := List.getElem?_eq_getElem hlt
      generalize t[k] = r at hri
      obtain ⟨bl, ol, rv, rfl, hbl, f1, hrr⟩ := htv.out k (ofN r) (by rw [List.getElem?_map, hri]; rfl)
      replace f1 := cell_up HG.out hbl f1
      have HRR := Lib.hid hrr
      have HRI := Lib.hid hri
      have j1 : (k : Int) < (t.length : Int) := by omega
      have j2 : (0 : Int) ≤ (k : Int) := by omega
      obtain ⟨fn, tmps, assign, body, hy, hR2⟩ := hY.out k r _ rv _ _ HRI.out HP.out.1 HP.out.2.1 HP.out.2.2.2 HP.out.2.2.1 (HRR.out.gr HG.out)
      have HR2 := Lib.hid hR2
      clear hri hrr hR2 hbl
      gi_wp2
      refine ⟨fun _ => by omega, HR2.out.mono ?_⟩
      rintro e W3 (⟨rfl, hJ3, hi3⟩ | ⟨rfl, hJx3⟩)
      · have H3 := Lib.hid (And.intro hJ3 hi3)
        clear hJ3 hi3 e0 e1 e2 e3 e4 f0 f1 hy
        obtain ⟨g0, ⟨e0, e1, e2, e3, e4⟩, f0⟩ := hJg.out _ _ H3.out.1
        have HG3 := Lib.hid g0
        clear g0
        gi_wp2_with (refine ⟨trivial, fun _ => by omega, (callsIn_wide.2 (AF.out k r HRI.out _ rv _ HG3.out H3.out.2 (HRR.out.gr HG3.out))).mono ?_⟩; rintro e w5 ⟨v5, rfl, hi5, hg5, hf5⟩; have HI5 := Lib.hid (And.intro hi5 (And.intro hg5 hf5)); clear hi5 hg5 hf5)
        go_roundw
        case rel => exact ⟨k + 1, by omega, by go_num, Lib.hid ⟨W3, H3.out.1, HI5.out.2.1, HI5.out.1, HI5.out.2.2⟩⟩
        case measure => simp [intOf]; omega
      · have H3 := Lib.hid hJx3
        clear hJx3 hy
        gi_wp2
        refine bodyPost_ret (results_none rfl _ _ _) rfl ?_
        exact ⟨⟨_, rfl⟩, .inr ⟨k + 1, by omega, H3.out⟩⟩
    · obtain rfl : k = t.length := by omega
      have hd1 : ¬ ((t.length : Int) < (t.length : Int)) := by omega
      gi_wp2
      go_end0
      exact ⟨⟨_, rfl⟩, .inl HJ.out⟩
end Go.Proofs.Ytmnblcnhbafcpaa

namespace Go.Proofs.Ytmnblcnhbafcpaa
open Go.RowKit Go.Shelf
open NetM
open VecM

theorem grew {W U : World} (h : Gr W U) : W.grownBy U none := ⟨h.os, h.tape, h.output, h.size, fun i hi _ => h.block i hi⟩
theorem OwnFrom.gr {β : Type} {B : Nat} {I : β → World → Prop} (h : OwnFrom B I) {s : β} {W U : World} (hs : I s W) (hg : Gr W U) : I s U := h s W U none hs (grew hg) (fun r e => by cases e)
/-- whatever cells were there are there as they were -/
def Kc (W U : World) : Prop := W.heap.size ≤ U.heap.size ∧ ∀ (b o : Nat) (v : Value), W.cell? ⟨b, o, none⟩ = some v → U.cell? ⟨b, o, none⟩ = some v
theorem Kc.refl (W : World) : Kc W W := ⟨Nat.le_refl _, fun _ _ _ h => h⟩
theorem Kc.trans {A B C : World} (h : Kc A B) (k : Kc B C) : Kc A C := ⟨Nat.le_trans h.1 k.1, fun b o v hv => k.2 b o v (h.2 b o v hv)⟩
theorem Kc.of_gr {W U : World} (h : Gr W U) : Kc W U := ⟨h.size, fun b o v hv => cell_up h (World.block_lt_of_cell? _ _ hv) hv⟩
theorem Kc.put {W : World} {l : Nat} {o : Obj} (o' : Obj) (hl : W.heap[l]? = some o) (ho : o.isCells = false) : Kc W (W.putObj l o') :=
  ⟨by simp, fun _ _ _ hv => cell_kept hv (grownBy_putObj' W l o') (fun r e => by cases e; exact ⟨o, hl, ho⟩)⟩
theorem intr_kc {W U : World} {v : Value} {l : List Int} (h : IntR W v l) (hk : Kc W U) : IntR U v l := by
  obtain ⟨A, c, e, hc, hi⟩ := h
  refine ⟨A, c, e, hc, fun i s hs => ?_⟩
  obtain ⟨b, off, e2, hb, hv⟩ := hi i s hs
  exact ⟨b, off, e2, Nat.lt_of_lt_of_le hb hk.1, hk.2 _ _ _ hv⟩

/-- how a round may be left -/
def cycPost (B : Nat) (I : Nat → World → Prop) (Ix : Code → Nat → World → Prop) (G : World → Prop) (k : Nat) (W : World) : Exit → Act → World → Prop
  | .normal, _, U => KeepsFrom B W U ∧ G U ∧ I k U
  | .ret, _, U => KeepsFrom B W U ∧ Ix .ret k U
  | .exit i, _, U => KeepsFrom B W U ∧ Ix (.exit i) k U
  | .goto i, _, U => KeepsFrom B W U ∧ Ix (.goto i) k U
  | .panic _, _, _ => False
  | .outgrown, _, _ => False

/-- the record of a loop -/
def rcOf (fn : FuncId) (a : Act) (ps : Array Tmp) (assign body : Code) (D : Nat) (st : LoopState) (pe : Option Code) : Obj :=
  .loop { state := st, pending := pe, fn := fn, tmps := a.tmps, params := ps, assign := assign, body := body, defers := D }

set_option maxHeartbeats 2000000 in
theorem cyc_range (m : Nat) (hm : 5 ≤ m) (n : Nt) (t : List (List Nat)) (A1 A2 A3 A4 A5 At : Option Addr) (c1 c2 c3 c4 c5 ct B1 B2 : Nat) (w0 : World) (hs : Sz n) (hR : NRight n) (ht : TrOk n t) (htl : t.length ≤ 64)
    (hn : Hid (NtAt w0 n (ntV A1 A2 A3 A4 A5 n.nodes.length n.ins.length n.cells.length n.props.length n.names.length c1 c2 c3 c4 c5))) (htv : Hid (RwsP w0 At (t.map ofN)))
    {g : Operand} {ps : Array Tmp} {assign body : Code} {Q : Exit → Act → World → Prop} {a : Act} {w : World}
    (hg : a.eval g = .func (.func 50) #[] #[.pointer (some ⟨B1, 0, none⟩), .pointer (some ⟨B2, 0, none⟩)]) (hps : ps.size = 2)
    (I : Nat → World → Prop) (Ix : Code → Nat → World → Prop) (hI : OwnFrom w.heap.size I) (hIx : ∀ c, OwnFrom w.heap.size (Ix c))
    (hIg : ∀ k U, I k U → CycAt w0 B1 B2 n A1 A2 A3 A4 A5 At c1 c2 c3 c4 c5 t.length ct U) (h0 : I 0 w) (a₁ : Value → Value → Act)
    (hassign : ∀ (l : Nat) (sv rv : Value) (W : World) (K : Act → World → Prop), K (a₁ sv rv) W →
      assign.wpIn (Fence.wide.inRound l) (m - 1 - 1) Try.prog (Exit.then K (fun _ _ _ => False)) { tmps := (ps.zip #[sv, rv]).foldl (fun t (p, v) => t.setIfInBounds p v) a.tmps, defers := [] } W)
    (hbody : ∀ (l k : Nat) (r : List Nat) (sv rv : Value) (Wp W : World), t[k]? = some r → w.heap.size ≤ l → I k Wp → I k W → Kc Wp W → (∀ b, sv.ownBlock = some b → Wp.heap.size ≤ b) → IntR W sv (ofN (stAt n t k)) → IntR W rv (ofN r) →
      body.wpIn (Fence.wide.inRound l) (m - 1 - 1) Try.prog (cycPost w.heap.size I Ix (fun U => IntR U sv (ofN (stAt n t k))) (k + 1) W) (a₁ sv rv) W)
    (hdone : ∀ (D : Nat) (W : World), w.heap.size ≤ D → I t.length W → W.heap[D]? = some (.deferred (some [])) → Q .normal { a with defers := { target := .collected D, args := #[] } :: a.defers } W)
    (hstop : ∀ (D : Nat) (c : Code) (k : Nat) (W : World), w.heap.size ≤ D → k ≤ t.length → Ix c k W → W.heap[D]? = some (.deferred (some [])) → c.wpIn Fence.wide m Try.prog Q { a with defers := { target := .collected D, args := #[] } :: a.defers } W) :
    (Code.rangeFunc g ps assign body).wpIn Fence.wide m Try.prog Q a w := by
  refine wpIn_rangeFunc fun fn hfn => ?_
  have hrun := run_enterLoop_outer (P := Try.prog) (w := w) fn a.tmps ps assign body
  have q1 : (w.alloc (.deferred (some []))).heap[w.heap.size]? = some (.deferred (some [])) := World.alloc_heap_new w _
  have g1 : Gr w (w.alloc (.deferred (some []))) := bel_alloc _ _
  obtain ⟨W1, e1⟩ : ∃ W1, (w.alloc (.deferred (some []))).alloc (rcOf fn a ps assign body w.heap.size .ready none) = W1 := ⟨_, rfl⟩
  have q2 : W1.heap[w.heap.size]? = some (.deferred (some [])) := by rw [← e1]; exact (Below.heap_alloc _ _ _ (by simp)).trans q1
  have q3 : W1.heap[w.heap.size + 1]? = some (rcOf fn a ps assign body w.heap.size .ready none) := by
    rw [← e1]
    have h := World.alloc_heap_new (w.alloc (.deferred (some []))) (rcOf fn a ps assign body w.heap.size .ready none)
    rwa [World.size_alloc] at h
  have g2 : Gr w W1 := by rw [← e1]; exact Gr.trans g1 (bel_alloc _ _)
  refine ⟨w.heap.size + 1, [{ target := .collected w.heap.size, args := #[] }], W1, { target := .fn (.func 50) #[.pointer (some ⟨B1, 0, none⟩), .pointer (some ⟨B2, 0, none⟩)], args := #[.func (.yield (w.heap.size + 1)) #[] #[]] }, W1, 50,
    #[.func (.yield (w.heap.size + 1)) #[] #[]] ++ #[.pointer (some ⟨B1, 0, none⟩), .pointer (some ⟨B2, 0, none⟩)], W1, by rw [← e1]; exact hrun, ?_, fun _ _ => trivial, ?_, fun _ => by omega, ?_⟩
  · simp only [resolve, hg]
    simp [go_sem]
  · simp [invoke, go_sem]
  refine (cycles1_any (m - 1) (by omega) (w.heap.size + 1) n t A1 A2 A3 A4 A5 At c1 c2 c3 c4 c5 ct B1 B2 w0 W1 hs hR ht htl hn htv
    (fun k U => I k U ∧ U.heap[w.heap.size + 1]? = some (rcOf fn a ps assign body w.heap.size .ready none) ∧ U.heap[w.heap.size]? = some (.deferred (some [])))
    (fun k U => ∃ c, Ix c k U ∧ U.heap[w.heap.size + 1]? = some (rcOf fn a ps assign body w.heap.size .done (some c)) ∧ U.heap[w.heap.size]? = some (.deferred (some [])))
    (Lib.hid fun k U h => hIg k U h.1)
    (Lib.hid fun k U U' h hg => ⟨OwnFrom.gr hI h.1 hg, (hg.block _ (hlt h.2.1)).trans h.2.1, (hg.block _ (hlt h.2.2)).trans h.2.2⟩)
    (Lib.hid ?round) (Lib.hid ⟨OwnFrom.gr hI h0 g2, q3, q2⟩)).mono ?back
  case back =>
    rintro e U ⟨⟨v, rfl⟩, (⟨hi, hl, hd⟩ | ⟨k, hk, c, hi, hl, hd⟩)⟩
    · exact ⟨none, _, run_endLoop hl (by simp), hdone _ _ (Nat.le_refl _) (hI.putObj _ hi (by omega) hl rfl) ((World.putObj_heap_other (by omega)).trans hd)⟩
    · exact ⟨some c, _, run_endLoop hl (by simp), hstop _ c k _ (Nat.le_refl _) hk ((hIx c).putObj _ hi (by omega) hl rfl) ((World.putObj_heap_other (by omega)).trans hd)⟩
  case round =>
    rintro k r sv rv Wp U hk ⟨hp, hl0, hd0⟩ hpu hfr hsv hrv
    have hiU : I k U := OwnFrom.gr hI hp hpu
    have hl : U.heap[w.heap.size + 1]? = some (rcOf fn a ps assign body w.heap.size .ready none) := (hpu.block _ (hlt hl0)).trans hl0
    have hd : U.heap[w.heap.size]? = some (.deferred (some [])) := (hpu.block _ (hlt hd0)).trans hd0
    have hlU := hlt hl
    have hy := run_yield (P := Try.prog) (args := #[sv, rv]) hl (by simp [hps])
    refine ⟨fn, _, assign, body, hy, roundIn_of_wpIn hfn (hassign _ sv rv U _ ?_)⟩
    clear hy
    refine ⟨_, run_beginRound hl rfl, ?_⟩
    obtain ⟨V, eV⟩ : ∃ V, U.putObj (w.heap.size + 1) (rcOf fn a ps assign body w.heap.size .busy none) = V := ⟨_, rfl⟩
    have hkV : Kc U V := by rw [← eV]; exact Kc.put _ hl rfl
    have hiV : I k V := by rw [← eV]; exact hI.putObj _ hiU (by omega) hl rfl
    have hlV : V.heap[w.heap.size + 1]? = some (rcOf fn a ps assign body w.heap.size .busy none) := by rw [← eV]; exact World.putObj_heap_same hlU
    have hdV : V.heap[w.heap.size]? = some (.deferred (some [])) := by rw [← eV]; exact (World.putObj_heap_other (by omega)).trans hd
    have hB := hbody (w.heap.size + 1) k r sv rv Wp V hk (by omega) hp hiV (Kc.trans (Kc.of_gr hpu) hkV) hfr (intr_kc hsv hkV) (intr_kc hrv hkV)
    have eW : U.putObj (w.heap.size + 1) (.loop { state := .busy, pending := none, fn := fn, tmps := a.tmps, params := ps, assign := assign, body := body, defers := w.heap.size }) = V := eV
    show body.wpIn _ _ _ _ _ (U.putObj (w.heap.size + 1) (.loop { state := .busy, pending := none, fn := fn, tmps := a.tmps, params := ps, assign := assign, body := body, defers := w.heap.size }))
    rw [eW]
    refine wpIn_mono hB ?_
    have fin : ∀ (j : Option Code) (X : World), KeepsFrom w.heap.size V X →
        (Instr.endRound (w.heap.size + 1) j).run Try.prog X = .ok (.bool j.isNone) (X.putObj (w.heap.size + 1) (rcOf fn a ps assign body w.heap.size (if j.isNone then .ready else .done) j)) ∧
        (X.heap[w.heap.size + 1]? = some (rcOf fn a ps assign body w.heap.size .busy none)) ∧
        ((X.putObj (w.heap.size + 1) (rcOf fn a ps assign body w.heap.size (if j.isNone then .ready else .done) j)).heap[w.heap.size + 1]? = some (rcOf fn a ps assign body w.heap.size (if j.isNone then .ready else .done) j)) ∧
        ((X.putObj (w.heap.size + 1) (rcOf fn a ps assign body w.heap.size (if j.isNone then .ready else .done) j)).heap[w.heap.size]? = some (.deferred (some []))) := fun j X hX => by
      have h1 := hX.same _ _ (by omega) hlV rfl
      exact ⟨run_endRound (P := Try.prog) j h1, h1, World.putObj_heap_same (hlt h1), (World.putObj_heap_other (by omega)).trans (hX.same _ _ (Nat.le_refl _) hdV rfl)⟩
    rintro e a3 X hp
    cases e with
    | normal =>
      obtain ⟨hX, hg3, hi3⟩ := hp
      obtain ⟨hr, hl3, hl4, hd4⟩ := fin none X hX
      exact ⟨_, _, hr, .inl ⟨rfl, ⟨hI.putObj _ hi3 (by omega) hl3 rfl, hl4, hd4⟩, intr_kc hg3 (Kc.put _ hl3 rfl)⟩⟩
    | ret =>
      obtain ⟨hX, hi3⟩ := hp
      obtain ⟨hr, hl3, hl4, hd4⟩ := fin (some .ret) X hX
      exact ⟨_, _, hr, .inr ⟨rfl, .ret, (hIx _).putObj _ hi3 (by omega) hl3 rfl, hl4, hd4⟩⟩
    | exit i =>
      obtain ⟨hX, hi3⟩ := hp
      obtain ⟨hr, hl3, hl4, hd4⟩ := fin (some (.exit i)) X hX
      exact ⟨_, _, hr, .inr ⟨rfl, .exit i, (hIx _).putObj _ hi3 (by omega) hl3 rfl, hl4, hd4⟩⟩
    | goto i =>
      obtain ⟨hX, hi3⟩ := hp
      obtain ⟨hr, hl3, hl4, hd4⟩ := fin (some (.goto i)) X hX
      exact ⟨_, _, hr, .inr ⟨rfl, .goto i, (hIx _).putObj _ hi3 (by omega) hl3 rfl, hl4, hd4⟩⟩
    | panic c => exact hp.elim
    | outgrown => exact hp.elim
end Go.Proofs.Ytmnblcnhbafcpaa
