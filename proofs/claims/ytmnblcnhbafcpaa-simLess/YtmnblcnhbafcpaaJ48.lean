/-
  AN ASSUMPTION THAT IS NEVER SO, PLAIN.
-/
import Derived.Test.YtmnblcnhbafcpaaJ47
/-
  WITHOUT ASSUMPTIONS, PLAIN.
-/
namespace Go.Proofs.Ytmnblcnhbafcpaa
open NetM

/-- a net with other properties -/
def withP (n : Nt) (ps : List Pr) : Nt := ⟨n.nodes, n.ins, n.cells, ps, n.names⟩
theorem stAt_withP (n : Nt) (ps : List Pr) (t : List (List Nat)) : ∀ k, stAt (withP n ps) t k = stAt n t k
  | 0 => rfl
  | k + 1 => by
    rw [stAt, stAt, stAt_withP n ps t k]
    rfl
theorem valAt_withP (n : Nt) (ps : List Pr) (t : List (List Nat)) (k : Nat) : valAt (withP n ps) t k = valAt n t k := by
  unfold valAt
  rw [stAt_withP]
  rfl
/-- an assumption is no more than shown -/
def coverP (p : Pr) : Pr := if p.kind = 9 then ⟨10, p.s, p.node⟩ else p
theorem coverP_node (p : Pr) : (coverP p).node = p.node := by
  unfold coverP
  split <;> rfl
theorem bits_cover (n : Nt) (t : List (List Nat)) (k : Nat) : bitsAt (withP n (n.props.map coverP)) t k = bitsAt n t k := by
  unfold bitsAt
  rw [valAt_withP]
  unfold prB withP
  rw [List.map_map]
  refine List.map_congr_left fun p _ => ?_
  simp only [Function.comp, coverP_node]
theorem legL_cover (ps : List Pr) (bs : List Bool) : legL (ps.map coverP) bs = true := by
  refine legL_all fun j p hp hk => ?_
  rw [List.getElem?_map] at hp
  obtain ⟨p', _, rfl⟩ := Option.map_eq_some_iff.1 hp
  unfold coverP at hk
  split at hk
  · simp at hk
  · exact absurd hk (by assumption)
/-- with assumptions left out a property is hit no later -/
theorem hitF_cover {n : Nt} {t : List (List Nat)} {p : Pr} {pi m k : Nat} (hk : p.kind ≠ 9) (h : hitF n t p pi 0 m = (k, true)) : hitF (withP n (n.props.map coverP)) t (coverP p) pi 0 m = (k, true) := by
  obtain ⟨h1, h2, h3, h4, h5⟩ := hitF_spec h
  have e : coverP p = p := by
    unfold coverP
    rw [if_neg hk]
  have hh : ∀ j, htA (withP n (n.props.map coverP)) t (coverP p) pi j = htA n t p pi j := fun j => by
    unfold htA
    rw [bits_cover, e]
  refine hitF_mk h1 h2 (fun j _ _ => legL_cover _ _) (fun j q1 q2 => ?_) ?_
  · rw [hh]
    exact h4 j q1 q2
  · rw [hh]
    exact h5
/-- with one that is never so it is hit nowhere -/
theorem hitF_never {n : Nt} {t : List (List Nat)} {p : Pr} {pi m : Nat} (h : ∀ j, j < m → lgA n t j = false) : (hitF n t p pi 0 m).2 = false := by
  cases m with
  | zero => rfl
  | succ m => exact hitF_stop (k := 0) (Nat.le_refl _) (by omega) (fun j _ q => by omega) (h 0 (by omega))
end Go.Proofs.Ytmnblcnhbafcpaa

namespace Go.Proofs.Ytmnblcnhbafcpaa
open NetM

/-- a node that is 0, put behind, of one bit -/
def zeroNd : Nd := ⟨1, 1, 0, 0, 0, 0, 0⟩
/-- a net with an assumption on it -/
def withZ (n : Nt) (s : ByteArray) : Nt := ⟨n.nodes ++ [zeroNd], n.ins, n.cells, n.props ++ [⟨9, s, (n.nodes.length : Nat)⟩], n.names⟩
theorem ev_zero (nodes : List Nd) (st ins : List Nat) (k : Nat) (made : List Nat) : ev1 nodes st ins k made zeroNd = 0 := by
  unfold ev1 zeroNd
  simp [doV]
theorem lg_withZ (n : Nt) (s : ByteArray) (t : List (List Nat)) (j : Nat) : lgA (withZ n s) t j = false := by
  unfold lgA
  refine legL_none (j := n.props.length) (p := ⟨9, s, (n.nodes.length : Nat)⟩) (by simp [withZ]) rfl ?_
  unfold bitsAt prB
  rw [List.getElem?_map]
  have h1 : (withZ n s).props[n.props.length]? = some ⟨9, s, (n.nodes.length : Nat)⟩ := by simp [withZ]
  rw [h1]
  have h2 : (withZ n s).nodes[n.nodes.length]? = some zeroNd := by simp [withZ]
  have h3 : (withZ n s).nodes.length = n.nodes.length + 1 := by simp [withZ]
  have h4 : (valAt (withZ n s) t j)[n.nodes.length]? = some 0 := by
    unfold valAt evAll
    rw [h3, evL_step h2, ev_zero]
    have h5 := evL_len (withZ n s).nodes (stAt (withZ n s) t j) (t[j]?.getD []) n.nodes.length (by omega)
    rw [List.getElem?_append_right (by omega), h5, Nat.sub_self]
    rfl
  simp only [Option.map_some, Option.some.injEq]
  rw [getN_nat, h4]
  decide
/-- with it no property is hit -/
theorem hitF_withZ (n : Nt) (s : ByteArray) (t : List (List Nat)) (p : Pr) (pi m : Nat) : (hitF (withZ n s) t p pi 0 m).2 = false := hitF_never fun j _ => lg_withZ n s t j
end Go.Proofs.Ytmnblcnhbafcpaa
