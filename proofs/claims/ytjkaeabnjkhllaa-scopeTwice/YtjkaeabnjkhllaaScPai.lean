/-
  THE LAWS' PAIR OF MODULES: what is told of it.
-/
import Derived.Test.YtjkaeabnjkhllaaScChm
import Derived.Test.YtjkaeabnjkhllaaScPaa
namespace Go.Proofs.Ytjkaeabnjkhllaa
open Go.RowKit

theorem cl_leaf {h : Hd} (hc : h.cl = true) : ExAll IsCl (.mk h []) := .mk h [] hc (fun k hk => by cases hk)
theorem small_leaf {h : Hd} (hc : h.name.size < 4294967281) : ExAll SmallName (.mk h []) := .mk h [] hc (fun k hk => by cases hk)
/-- names of a few bytes -/
def Few (s : ByteArray) : Prop := s.size < 4294967281
theorem pair_ok {wn s0 bp n2 s2 : ByteArray} (h0 : Few s0) (h2 : Few s2) : DsOk (pairMs wn s0 bp n2 s2) := by
  have hz : ByteArray.empty.size < 4294967281 := by decide
  refine ⟨by show (2 : Nat) ≤ 100; decide, fun m hm => ?_, fun m hm => ?_, fun m hm x hx => ?_⟩
  · simp only [pairMs, List.mem_cons, List.not_mem_nil, or_false] at hm
    rcases hm with rfl | rfl <;> simp [uMo, tMo]
  · simp only [pairMs, List.mem_cons, List.not_mem_nil, or_false] at hm
    rcases hm with rfl | rfl <;> simp [uMo, tMo]
  · have one : ∀ (x : It) (h : Hd), exprsOf x = [.mk h []] → h.name.size < 4294967281 → x.binds.length ≤ 1000 → ItOk x := fun x h he hn hb => ⟨fun t ht => by
      rw [he] at ht
      obtain rfl := List.mem_singleton.1 ht
      exact small_leaf hn, fun t ht => by
      rw [he] at ht
      obtain rfl := List.mem_singleton.1 ht
      simp [exSize, exsSize], hb⟩
    simp only [pairMs, List.mem_cons, List.not_mem_nil, or_false] at hm
    rcases hm with rfl | rfl
    · simp only [uMo, List.mem_cons, List.not_mem_nil, or_false] at hx
      subst hx
      exact one _ (hdZ 2 ⟨#[97]⟩) rfl (by decide) (by simp [itU])
    · simp only [tMo, List.mem_cons, List.not_mem_nil, or_false] at hx
      rcases hx with rfl | rfl | rfl
      · exact one _ (hdZ 2 s0) rfl h0 (by simp [itW])
      · exact one _ hd1 rfl hz (by simp [itV])
      · exact one _ (hdZ 2 s2) rfl h2 (by simp [itP])
theorem pair_cl (wn s0 bp n2 s2 : ByteArray) : ∀ m ∈ pairMs wn s0 bp n2 s2, ∀ x ∈ m.items, ItCl x := fun m hm x hx t ht => by
  simp only [pairMs, List.mem_cons, List.not_mem_nil, or_false] at hm
  rcases hm with rfl | rfl
  · simp only [uMo, List.mem_cons, List.not_mem_nil, or_false] at hx
    subst hx
    obtain rfl := List.mem_singleton.1 (show t ∈ [refX ⟨#[97]⟩] from ht)
    exact cl_leaf rfl
  · simp only [tMo, List.mem_cons, List.not_mem_nil, or_false] at hx
    rcases hx with rfl | rfl | rfl
    · obtain rfl := List.mem_singleton.1 (show t ∈ [refX s0] from ht)
      exact cl_leaf rfl
    · obtain rfl := List.mem_singleton.1 (show t ∈ [oneX] from ht)
      exact cl_leaf rfl
    · obtain rfl := List.mem_singleton.1 (show t ∈ [refX s2] from ht)
      exact cl_leaf rfl
/-- what is told of the laws' three pairs -/
theorem pair_a : checkOut (pairMs ⟨#[110]⟩ ⟨#[118, 46, 98]⟩ ⟨#[97]⟩ ⟨#[112]⟩ ⟨#[119]⟩) = [] := by kernel_rfl
theorem pair_b : checkOut (pairMs ⟨#[110]⟩ ⟨#[118, 46, 97]⟩ ⟨#[97]⟩ ⟨#[112]⟩ ⟨#[118]⟩) = [(51, 1, 0), (52, 1, 2)] := by kernel_rfl
theorem pair_c : checkOut (pairMs ⟨#[109]⟩ ⟨#[118, 46, 98]⟩ ⟨#[98]⟩ ⟨#[119]⟩ ⟨#[119]⟩) = [(40, 0, -1), (53, 1, 1), (50, 1, 2)] := by kernel_rfl
theorem kind_b : kindOf (uMo ⟨#[110]⟩) ⟨#[98]⟩ = (3, 1) := by kernel_rfl
theorem kind_v : kindOf (tMo ⟨#[118, 46, 97]⟩ ⟨#[97]⟩ ⟨#[112]⟩ ⟨#[118]⟩) ⟨#[118]⟩ = (7, 1) := by kernel_rfl
theorem kind_p : kindOf (tMo ⟨#[118, 46, 97]⟩ ⟨#[97]⟩ ⟨#[112]⟩ ⟨#[118]⟩) ⟨#[112]⟩ = (0, 0) := by kernel_rfl
end Go.Proofs.Ytjkaeabnjkhllaa
