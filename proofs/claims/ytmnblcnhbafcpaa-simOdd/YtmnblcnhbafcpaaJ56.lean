/-
  WHAT THE LAWS OF LAYER 11 HAVE IN COMMON.
-/
import Derived.Test.YtmnblcnhbafcpaaJ55
import Derived.Test.YtmnblcnhbafcpaaJ49
import Derived.Test.YtmnblcnhbafcpaaJ28
/-
  WHAT THE HEAD OF LAYER 11's LAWS ASKS, PLAIN.
-/
namespace Go.Proofs.Ytmnblcnhbafcpaa
open Go.RowKit
open NetM
open VecM

def tB : List (List Nat) := List.replicate 13 [1]
theorem tb_ins : baseN.ins.length = 1 := by decide +kernel
theorem tb_w : ∀ q ∈ baseN.ins, (widA baseN.nodes q.node).toNat = 1 := by decide +kernel
theorem tb_ok : TrOk baseN tB := fun r hr => by
  obtain rfl : r = [1] := (List.mem_replicate.1 hr).2
  refine ⟨tb_ins.symm, fun i p hp => ?_⟩
  have h0 := (List.getElem?_eq_some_iff.1 hp).1
  rw [tb_ins] at h0
  obtain rfl : i = 0 := by omega
  rw [tb_w p (List.mem_of_getElem? hp)]
  decide
theorem tb_len : tB.length = 13 := by decide +kernel
theorem tb_two : ¬ TrRight baseN [[2]] := fun h => by
  have hp : baseN.ins[0]? = some baseN.ins[0] := rfl
  have h3 := ((h.2 0 [2] rfl).2 0 2 _ rfl hp).2
  rw [tb_w _ (List.mem_of_getElem? hp)] at h3
  omega
theorem tb_none : ¬ TrRight baseN [[]] := fun h => by
  have h1 := (h.2 0 [] rfl).1
  rw [tb_ins] at h1
  simp at h1
theorem tb_11 : stAt baseN tB 11 = [11] := by decide +kernel
theorem tb_12 : stAt baseN tB 12 = [0] := by decide +kernel
theorem tb_13 : stAt baseN tB 13 = [1] := by decide +kernel
theorem tb_b11 : bitsAt baseN tB 11 = [true, true] := by decide +kernel
theorem tb_b12 : ∃ b, bitsAt baseN tB 12 = [b, false] := by decide +kernel
theorem tb_h0 : (hitOf baseN tB 0).2 = false := by decide +kernel
theorem tb_h1 : hitOf baseN tB 1 = (11, true) := by decide +kernel
theorem tb_h2 : (hitOf baseN tB 2).2 = false := by decide +kernel
theorem ofN_tB (j : Nat) (h : j = 13) : List.replicate j (ofN [1]) = tB.map ofN := by
  subst h
  decide +kernel
end Go.Proofs.Ytmnblcnhbafcpaa

namespace Go.Proofs.Ytmnblcnhbafcpaa
open Go.RowKit
open NetM
open VecM

theorem rws_get {w : World} {A : Option Addr} {ll : List (List Int)} {i : Nat} {l : List Int} (h : RwsP w A ll) (hi : ll[i]? = some l) : ∃ b off X c, A = some ⟨b, off, none⟩ ∧ b < w.heap.size ∧ w.cell? ⟨b, off + i, none⟩ = some (.slice X l.length c) ∧ IntR w (.slice X l.length c) l := by
  obtain ⟨b, off, x, e, hb, hc, hr⟩ := h i l hi
  obtain ⟨X, c, rfl, -⟩ := id hr
  exact ⟨b, off, X, c, e, hb, hc, hr⟩
theorem bws_get {w : World} {A : Option Addr} {ll : List (List Bool)} {i : Nat} {l : List Bool} (h : BwsP w A ll) (hi : ll[i]? = some l) : ∃ b off X c, A = some ⟨b, off, none⟩ ∧ b < w.heap.size ∧ w.cell? ⟨b, off + i, none⟩ = some (.slice X l.length c) ∧ BoolR w (.slice X l.length c) l := by
  obtain ⟨b, off, x, e, hb, hc, hr⟩ := h i l hi
  obtain ⟨X, c, rfl, -⟩ := id hr
  exact ⟨b, off, X, c, e, hb, hc, hr⟩
theorem rws_at {w : World} {b off : Nat} {ll : List (List Int)} {i : Nat} {l : List Int} (h : RwsP w (some ⟨b, off, none⟩) ll) (hi : ll[i]? = some l) : ∃ X c, w.cell? ⟨b, off + i, none⟩ = some (.slice X l.length c) ∧ IntR w (.slice X l.length c) l := by
  obtain ⟨b2, off2, X, c, e, -, h1, h2⟩ := rws_get h hi
  simp only [Option.some.injEq, Addr.mk.injEq, and_true] at e
  obtain ⟨rfl, rfl⟩ := e
  exact ⟨X, c, h1, h2⟩
theorem bws_at {w : World} {b off : Nat} {ll : List (List Bool)} {i : Nat} {l : List Bool} (h : BwsP w (some ⟨b, off, none⟩) ll) (hi : ll[i]? = some l) : ∃ X c, w.cell? ⟨b, off + i, none⟩ = some (.slice X l.length c) ∧ BoolR w (.slice X l.length c) l := by
  obtain ⟨b2, off2, X, c, e, -, h1, h2⟩ := bws_get h hi
  simp only [Option.some.injEq, Addr.mk.injEq, and_true] at e
  obtain ⟨rfl, rfl⟩ := e
  exact ⟨X, c, h1, h2⟩
theorem int_get {w : World} {X : Option Addr} {c k i : Nat} {l : List Int} {x : Int} (h : IntR w (.slice X k c) l) (hi : l[i]? = some x) : ∃ b off, X = some ⟨b, off, none⟩ ∧ w.cell? ⟨b, off + i, none⟩ = some (.int .i64 x) := by
  obtain ⟨A, c', e, -, h1⟩ := h
  simp only [Value.slice.injEq] at e
  obtain ⟨rfl, -, rfl⟩ := e
  obtain ⟨b, off, e2, -, h2⟩ := h1 i x hi
  exact ⟨b, off, e2, h2⟩
theorem bool_get {w : World} {X : Option Addr} {c k i : Nat} {l : List Bool} {x : Bool} (h : BoolR w (.slice X k c) l) (hi : l[i]? = some x) : ∃ b off, X = some ⟨b, off, none⟩ ∧ w.cell? ⟨b, off + i, none⟩ = some (.bool x) := by
  obtain ⟨A, c', e, -, h1⟩ := h
  simp only [Value.slice.injEq] at e
  obtain ⟨rfl, -, rfl⟩ := e
  obtain ⟨b, off, e2, -, h2⟩ := h1 i x hi
  exact ⟨b, off, e2, h2⟩
theorem sm_eval (n : Nt) (v sv rv : Value) (t : List (List Nat)) (k : Nat) (r : List Nat) (u : World) (hs : Sz n) (hn : Hid (NtAt u n v)) (hR : NRight n) (ht : TrOk n t) (hk : t[k]? = some r) (hsv : Hid (IntR u sv (ofN (stAt n t k)))) (hrv : Hid (IntR u rv (ofN r))) :
    Calls Try.prog 26 #[v, sv, rv] u (RowRet u (ofN (valAt n t k))) := by
  have hkl := (List.getElem?_eq_some_iff.1 hk).1
  obtain ⟨hrl, hrk⟩ := ht r (List.mem_of_getElem? hk)
  have hok := ok_at hR ht k (by omega)
  have hz := hs
  unfold Sz at hz
  have e : valAt n t k = evAll n (stAt n t k) r := by unfold valAt; rw [hk]; rfl
  rw [e]
  exact Eval_any n v sv rv (stAt n t k) r u hs hn hR.1 (by rw [stAt_len]; omega) (by omega) hsv hrv (Lib.hid (evL_lim hR hok hrk))
theorem sm_after (n : Nt) (v sv rv : Value) (t : List (List Nat)) (k : Nat) (r : List Nat) (u : World) (hs : Sz n) (hn : Hid (NtAt u n v)) (hR : NRight n) (ht : TrOk n t) (hk : t[k]? = some r) (hsv : Hid (IntR u sv (ofN (stAt n t k)))) (hrv : Hid (IntR u rv (ofN r))) :
    Calls Try.prog 25 #[v, sv, rv] u (RowRet u (ofN (stAt n t (k + 1)))) := by
  have hkl := (List.getElem?_eq_some_iff.1 hk).1
  obtain ⟨hrl, hrk⟩ := ht r (List.mem_of_getElem? hk)
  have hok := ok_at hR ht k (by omega)
  have hz := hs
  unfold Sz at hz
  have hA := After_any n v sv rv (ofN (evAll n (stAt n t k) r)) u hs hn (by rw [ofN_len]; unfold evAll; rw [evL_len _ _ _ _ (Nat.le_refl _)]; omega)
    (Lib.hid fun u2 hu2 => Eval_any n v sv rv (stAt n t k) r u2 hs (Lib.hid (hn.out.gr hu2)) hR.1 (by rw [stAt_len]; omega) (by omega) (Lib.hid (hsv.out.gr hu2)) (Lib.hid (hrv.out.gr hu2)) (Lib.hid (evL_lim hR hok hrk)))
  rw [ofN_next, ← stAt_succ hk] at hA
  exact hA
end Go.Proofs.Ytmnblcnhbafcpaa
