/-
  The document's Props, WALKED.
-/
import Derived.Test.YtmnblcnhbafcpaaJ39
namespace Go.Proofs.Ytmnblcnhbafcpaa
open Go.RowKit
open NetM
open VecM

theorem prb_step {n : Nt} {v : List Nat} {j : Nat} {p : Pr} (h : n.props[j]? = some p) : (n.props.take (j + 1)).map (fun p => decide (getN v p.node = 1)) = (n.props.take j).map (fun p => decide (getN v p.node = 1)) ++ [decide (getN v p.node = 1)] := by
  rw [List.take_add_one, h]
  simp
set_option maxRecDepth 100000 in
set_option maxHeartbeats 8000000 in
theorem RProps_any (n : Nt) (v : Value) (Av : Option Addr) (cv : Nat) (vals : List Nat) (w : World) (hs : Sz n) (hn : Hid (NtAt w n v)) (hvl : vals.length ≤ 400) (hpr : ∀ p ∈ n.props, 0 ≤ p.node ∧ p.node < (vals.length : Int)) (hv : Hid (Ints w w.heap.size Av (ofN vals))) :
    Calls Try.prog 41 #[v, .slice Av vals.length cv] w (BitRet w (prB n vals)) := by
  obtain ⟨z1, z2, z3, z4, z5⟩ := hs
  obtain ⟨A1, A2, A3, A4, A5, c1, c2, c3, c4, c5, rfl, hc1, h1, h2, h3, h4, h5⟩ := hn.out
  have H4 := Lib.hid h4
  clear h1 h2 h3 h4 h5
  obtain ⟨W0, eW, BW, KEEP⟩ : ∃ W0, w.alloc (.cells (bxC n A1 A2 A3 A4 A5 c1 c2 c3 c4 c5) 27) = W0 ∧ Hid (Gr w W0) ∧ Hid (∀ u, Gr W0 u → BxAt u w.heap.size n A1 A2 A3 A4 A5 c1 c2 c3 c4 c5) :=
    ⟨_, rfl, Lib.hid (bel_alloc _ _), Lib.hid fun u hu => bx_gr (bx_new w n A1 A2 A3 A4 A5 c1 c2 c3 c4 c5) (by simp) hu⟩
  obtain ⟨e0, e1, e2, e3, e4⟩ := KEEP.out W0 (Gr.refl _)
  obtain ⟨i0, hi, hz0, hz1, hz2⟩ := info_parts info4
  have HI := Lib.hid (And.intro hi (And.intro hz0 (And.intro hz1 hz2)))
  clear hi hz0 hz1 hz2
  go_enter Try.func41, Try.ntmps41
  go_wp2_with fail
  try rw [eW]
  clear eW e0 e1 e2 e3 e4
  go_loopg [5, 6] n.props.length (fun g s5 i wr => ∃ (o : Value) (j : Nat), o = s5 ∧ j + g = n.props.length ∧ i = .int .i64 j ∧ Hid (wr.ownsRow W0.heap.size 4 1 o j (bcells ((n.props.take j).map fun p => decide (getN vals p.node = 1)))) ∧ Hid (Gr W0 wr))
  case atStart => exact ⟨_, 0, rfl, by omega, rfl, Lib.hid (World.ownsRow_nil _ _ _ _), Lib.hid (Gr.refl _)⟩
  case round =>
    obtain ⟨o, j, rfl, hjg, rfl, HO, HW⟩ := hrel
    have HJ := Lib.hid hjg
    have hjl : j ≤ n.props.length := by omega
    clear hjg
    obtain ⟨e0, e1, e2, e3, e4⟩ := KEEP.out _ HW.out
    by_cases hlt : j < n.props.length
    · have hn1 : n.props[j]? = some n.props[j] := List.getElem?_eq_getElem hlt
      generalize n.props[j] = p at hn1
      have HS := Lib.hid (prb_step (v := vals) hn1)
      obtain ⟨k0, k1⟩ := hpr p (List.mem_of_getElem? hn1)
      obtain ⟨k, hk⟩ : ∃ k : Nat, p.node = k := ⟨p.node.toNat, by omega⟩
      obtain ⟨bp, op, rfl, -, d0, d1, d2⟩ := (H4.out.gr (Gr.trans BW.out HW.out)) j p hn1
      have hkl : k < vals.length := by omega
      obtain ⟨bv, ov, rfl, -, f0⟩ := (hv.out.gr (Gr.trans BW.out HW.out)) k (getN vals (k : Nat) : Nat) (ofN_at (by rw [getN_nat, List.getElem?_eq_getElem hkl]; rfl))
      rw [hk] at d2 HS
      generalize getN vals (k : Nat) = x at f0 HS
      have i1 : (j : Int) < (n.props.length : Int) := by omega
      have i2 : (0 : Int) ≤ (j : Int) := by omega
      have i3 : (k : Int) < (vals.length : Int) := by omega
      have i4 : (0 : Int) ≤ (k : Int) := by omega
      obtain ⟨q, hq⟩ : ∃ q : Bool, decide (x = 1) = q := ⟨_, rfl⟩
      rw [hq] at HS
      have hx : ((x : Int) == 1) = q := by
        rw [← hq]
        by_cases h : x = 1
        · simp [h]
        · have : ¬ (x : Int) = 1 := by omega
          simp [h, this]
      clear hn1 hk k0 k1 hq
      go_wp2_with (at_builtin; (try rw [hx]); refine wpList_append_own _ rfl _ _ 44 rfl W0.heap.size 4 i0 (.bool false) 1 1 Try.underlying44 HI.out.1 HI.out.2.1 HI.out.2.2.1 HI.out.2.2.2 rfl (by decide) _ _ _ rfl (HO.out.alloc _) ⟨wr.heap.size, 0, none⟩ 1 1 [.bool q] rfl rfl (fun j' u hj => by have h := World.news_of_block (heap_new' wr (.cells #[.bool q] 4)) j' u hj; exact h) (fun u hu => by obtain rfl := List.mem_singleton.1 hu; rfl) (by unfold maxLen; omega) (by omega) (by have := HW.out.size; simp; omega) ?_; intro v' w3 hown' hgrow3 hnil3; have HO3 := Lib.hid hown'; have HB3 := Lib.hid (app_row HO.out HW.out hgrow3); clear hown' hgrow3 hnil3)
      go_roundg (gk - 1)
      case measure => have := HJ.out; omega
      case rel =>
        refine ⟨_, j + 1, rfl, by have := HJ.out; omega, by go_num, Lib.hid ?_, HB3⟩
        rw [HS.out, bcells_snoc]
        exact HO3.out
    · obtain rfl : j = n.props.length := by omega
      have j1 : ¬ (n.props.length : Int) < (n.props.length : Int) := by omega
      have HE := Lib.hid (show BoolR wr o (prB n vals) from by
        have h := HO.out
        rw [List.take_length] at h
        exact bools_of_own h (by unfold prB; rw [List.length_map]))
      have HFR := Lib.hid HO.out.lt
      go_wp2_with fail
      go_ret
      exact ⟨_, rfl, HE.out, Gr.trans BW.out HW.out, fun b hb => Nat.le_trans BW.out.size (HFR.out b hb).1⟩
end Go.Proofs.Ytmnblcnhbafcpaa
