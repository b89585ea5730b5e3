/-
  The document's Same on two rows of the same faults.
-/
import Derived.Test.YtjkaeabnjkhllaaScChm
namespace Go.Proofs.Ytjkaeabnjkhllaa
open Go.RowKit

theorem ft_row {w : World} {A : Option Addr} {n c : Nat} {fs : List Ft} (h : RowC w 4 (.slice A n c) (fs.map ftCells)) {k : Nat} {f : Ft} (hf : fs[k]? = some f) : ∃ g o, A = some ⟨g, o, none⟩ ∧ g < w.heap.size ∧ w.cell? ⟨g, o + k * 4, none⟩ = some (.int .i64 (f.1 : Nat)) ∧ w.cell? ⟨g, o + k * 4 + 1, none⟩ = some (.int .i64 0) ∧ w.cell? ⟨g, o + k * 4 + 2, none⟩ = some (.int .i64 (f.2.1 : Nat)) ∧ w.cell? ⟨g, o + k * 4 + 3, none⟩ = some (.int .i64 f.2.2) := by
  obtain ⟨g, o, e, hg, hr⟩ := h.at (j := k) (c := ftCells f) (by rw [List.getElem?_map, hf]; rfl)
  have h0 := hr 0 _ rfl
  rw [Nat.add_zero] at h0
  exact ⟨g, o, e, hg, h0, hr 1 _ rfl, hr 2 _ rfl, hr 3 _ rfl⟩
set_option maxRecDepth 100000 in
set_option maxHeartbeats 4000000 in
theorem RSame_yes (fs : List Ft) (A1 A2 : Option Addr) (d1 d2 : Nat) (w : World) (hl : fs.length ≤ 60000) (h1 : Hid (RowC w 4 (.slice A1 fs.length d1) (fs.map ftCells))) (h2 : Hid (RowC w 4 (.slice A2 fs.length d2) (fs.map ftCells))) :
    Calls Try.prog 13 #[.slice A1 fs.length d1, .slice A2 fs.length d2] w fun e w' => e = .returned (.bool true) ∧ Gr w w' := by
  have q0 : ((fs.length : Int) != (fs.length : Int)) = false := by simp
  go_enter Try.func13, Try.ntmps13
  go_wp2_with fail
  go_loopg [5] fs.length (fun g i wr => ∃ k : Nat, k + g = fs.length ∧ i = .int .i64 k ∧ Hid (Gr w wr))
  case atStart => exact ⟨0, by omega, rfl, Lib.hid (Gr.refl _)⟩
  case round =>
    obtain ⟨k, hkg, rfl, HG⟩ := hrel
    have HJ := Lib.hid hkg
    have hkl : k ≤ fs.length := by omega
    clear hkg
    by_cases hlt : k < fs.length
    · obtain ⟨⟨fe, fm, fi⟩, hf⟩ : ∃ f, fs[k]? = some f := ⟨_, List.getElem?_eq_getElem hlt⟩
      obtain ⟨g, o, rfl, -, a0, a1, a2, a3⟩ := ft_row (h1.out.gr HG.out) hf
      obtain ⟨g', o', rfl, -, b0, b1, b2, b3⟩ := ft_row (h2.out.gr HG.out) hf
      have i1 : (k : Int) < (fs.length : Int) := by omega
      have i2 : (0 : Int) ≤ (k : Int) := by omega
      clear hf
      go_wp2_with fail
      go_quiet (fail)
      go_wp2_with fail
      go_roundg (gk - 1)
      case measure => have := HJ.out; omega
      case rel => exact ⟨k + 1, by have := HJ.out; omega, by go_num, Lib.hid (HG.out.trans (Gr.drewN _ _))⟩
    · have hkn : k = fs.length := by omega
      subst hkn
      have i1 : ¬ (fs.length : Int) < (fs.length : Int) := by omega
      go_wp2_with fail
      go_ret
      exact ⟨rfl, HG.out⟩
end Go.Proofs.Ytjkaeabnjkhllaa
