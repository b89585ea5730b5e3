/-
  A NAME THAT STANDS TWICE, PLAIN.
-/
import Derived.Test.YtjkaeabnjkhllaaScChm
namespace Go.Proofs.Ytjkaeabnjkhllaa
open Go.RowKit

def reName (x : It) (s : ByteArray) : It := ⟨x.kind, s, x.wid, x.val, x.mod, x.args, x.binds, x.e, x.at_, x.if_⟩
def reItem (m : Mo) (k : Nat) (x : It) (s : ByteArray) : Mo := ⟨m.name, m.params, m.ports, m.items.set k (reName x s)⟩
theorem ahead_set (m : Mo) (k : Nat) (x : It) (s : ByteArray) : aheadNames (reItem m k x s) k = aheadNames m k := by
  unfold aheadNames headNames reItem
  simp only [List.take_set]
  rw [List.set_eq_of_length_le (by rw [List.length_take]; omega)]
theorem twice_set {m : Mo} {k : Nat} {x : It} {s : ByteArray} (hn : named x.kind = true) (hs : s ∈ aheadNames m k) : twiceAt (reItem m k x s) k (reName x s) = true := by
  unfold twiceAt
  rw [ahead_set]
  show (named x.kind && (aheadNames m k).contains s) = true
  rw [hn, has_iff.2 hs]
  rfl
theorem iout_has {ms : List Mo} {i : Nat} {m : Mo} {n : Nat} {out : List Ft} (h : IOut ms i m n out) {k : Nat} {x : It} (hx : m.items[k]? = some x) (ht : twiceAt m k x = true) (hk : k < n) : (50, i, (k : Int)) ∈ out := by
  induction h with
  | nil => omega
  | step k0 r y out h hy hr ih =>
    by_cases e : k = k0
    · subst e
      obtain rfl : x = y := Option.some.inj (hx.symm.trans hy)
      obtain rfl := hr.1 ht
      exact List.mem_append_right _ (by simp)
    · exact List.mem_append_left _ (ih (by omega))
theorem mout_has {ms : List Mo} {n : Nat} {fs : List Ft} (h : MOut ms n fs) {i : Nat} {m : Mo} (hm : ms[i]? = some m) {k : Nat} {x : It} (hx : m.items[k]? = some x) (ht : twiceAt m k x = true) (hi : i < n) : (50, i, (k : Int)) ∈ fs := by
  induction h with
  | nil => omega
  | step i0 m0 out o2 h hm0 h2 ih =>
    by_cases e : i = i0
    · subst e
      obtain rfl : m = m0 := Option.some.inj (hm.symm.trans hm0)
      exact List.mem_append_right _ (List.mem_append_right _ (iout_has h2 hx ht (List.getElem?_eq_some_iff.1 hx).1))
    · exact List.mem_append_left _ (ih (by omega))
theorem itok_re {x : It} {s : ByteArray} (h : ItOk x) : ItOk (reName x s) := ⟨h.names, h.sizes, h.binds⟩
theorem dsok_set {ms : List Mo} (h : DsOk ms) {i : Nat} {m : Mo} (hm : ms[i]? = some m) {k : Nat} {x : It} (hx : m.items[k]? = some x) (s : ByteArray) : DsOk (ms.set i (reItem m k x s)) := by
  have hmem := List.mem_of_getElem? hm
  refine ⟨by rw [List.length_set]; exact h.len, fun y hy => ?_, fun y hy => ?_, fun y hy z hz => ?_⟩
  · rcases List.mem_or_eq_of_mem_set hy with h1 | rfl
    · exact h.heads y h1
    · exact h.heads m hmem
  · rcases List.mem_or_eq_of_mem_set hy with h1 | rfl
    · exact h.items y h1
    · show (m.items.set k (reName x s)).length ≤ 100
      rw [List.length_set]
      exact h.items m hmem
  · rcases List.mem_or_eq_of_mem_set hy with h1 | rfl
    · exact h.its y h1 z hz
    · rcases List.mem_or_eq_of_mem_set (show z ∈ m.items.set k (reName x s) from hz) with h2 | rfl
      · exact h.its m hmem z h2
      · exact itok_re (h.its m hmem x (List.mem_of_getElem? hx))
theorem mout_set {ms : List Mo} {i : Nat} {m : Mo} (hm : ms[i]? = some m) {k : Nat} {x : It} (hx : m.items[k]? = some x) {s : ByteArray} (hn : named x.kind = true) (hs : s ∈ aheadNames m k) {fs : List Ft} (h : MOut (ms.set i (reItem m k x s)) (ms.set i (reItem m k x s)).length fs) : (50, i, (k : Int)) ∈ fs := by
  have hi := (List.getElem?_eq_some_iff.1 hm).1
  have hk := (List.getElem?_eq_some_iff.1 hx).1
  exact mout_has h (List.getElem?_set_self hi) (show (m.items.set k (reName x s))[k]? = some (reName x s) from List.getElem?_set_self hk) (twice_set hn hs) (by rw [List.length_set]; exact hi)
theorem ahead_pos (m : Mo) (k : Nat) : aheadNames m k = m.params ++ m.ports.map (·.2.1) ++ ((m.items.take k).filter (fun x => named x.kind)).map (·.name) := rfl
end Go.Proofs.Ytjkaeabnjkhllaa
