/-
  THE DOCUMENT'S pins, WALKED.
-/
import Derived.Test.YtmnblcnhbafcpaaJ16
namespace Go.Proofs.Ytmnblcnhbafcpaa
open Go.RowKit
open NetM

theorem places_split (l : List Nd) (op : Int) (j : Nat) : ∃ r, places l op = places (l.take j) op ++ r := by
  refine ⟨placesF op (l.drop j) (0 + (l.take j).length), ?_⟩
  unfold places
  rw [← placesF_append, List.take_append_drop]
theorem places_idx {l : List Nd} {op : Int} {j : Nat} {x : Nd} (h : l[j]? = some x) (ho : x.op = op) : (places l op)[cnt op (l.take j)]? = some (j : Int) := by
  obtain ⟨r, hr⟩ := places_split l op (j + 1)
  rw [hr, places_step h, if_pos ho]
  unfold cnt
  simp
theorem map_idx {α : Type} {f : α → Int} {l : List α} {i : Nat} {y : Int} (h : (l.map f)[i]? = some y) : ∃ p, l[i]? = some p ∧ f p = y := by
  rw [List.getElem?_map] at h
  exact Option.map_eq_some_iff.1 h
def PinsOk (n : Nt) : Prop := n.ins.map Pn.node = places n.nodes 21 ∧ n.cells.map Ce.node = places n.nodes 22
set_option maxRecDepth 100000 in
set_option maxHeartbeats 4000000 in
theorem pins_any (n : Nt) (v : Value) (w : World) (hs : Sz n) (hn : Hid (NtAt w n v)) (b : Bool) (hb : Hid (b = true ↔ PinsOk n)) :
    Calls Try.prog 30 #[v] w fun e w' => e = .returned (.bool b) ∧ Gr w w' := by
  obtain ⟨z1, z2, z3, z4, z5⟩ := hs
  obtain ⟨A1, A2, A3, A4, A5, c1, c2, c3, c4, c5, rfl, hc1, h1, h2, h3, h4, h5⟩ := hn.out
  have H1 := Lib.hid h1
  have H2 := Lib.hid h2
  have H3 := Lib.hid h3
  have H4 := Lib.hid h4
  have H5 := Lib.hid h5
  clear h1 h2 h3 h4 h5
  obtain ⟨W0, eW, BW, KEEP⟩ : ∃ W0, w.alloc (.cells (bxC n A1 A2 A3 A4 A5 c1 c2 c3 c4 c5) 27) = W0 ∧ Hid (Gr w W0) ∧ Hid (∀ u, Gr W0 u → BxAt u w.heap.size n A1 A2 A3 A4 A5 c1 c2 c3 c4 c5) :=
    ⟨_, rfl, Lib.hid (bel_alloc _ _), Lib.hid fun u hu => bx_gr (bx_new w n A1 A2 A3 A4 A5 c1 c2 c3 c4 c5) (by simp) hu⟩
  obtain ⟨e0, e1, e2, e3, e4⟩ := KEEP.out W0 (Gr.refl _)
  have R1 := Lib.hid (H1.out.gr BW.out)
  have R2 := Lib.hid (H2.out.gr BW.out)
  have R3 := Lib.hid (H3.out.gr BW.out)
  go_enter Try.func30, Try.ntmps30
  go_wp2_with fail
  try rw [eW]
  clear eW
  go_loopg [3, 4, 5] n.nodes.length (fun g pv cv i wr => ∃ j p q : Nat, j + g = n.nodes.length ∧ i = .int .i64 j ∧ pv = .int .i64 p ∧ cv = .int .i64 q ∧ p ≤ n.ins.length ∧ q ≤ n.cells.length ∧
    Hid (cnt 21 (n.nodes.take j) = p ∧ (n.ins.take p).map Pn.node = places (n.nodes.take j) 21) ∧ Hid (cnt 22 (n.nodes.take j) = q ∧ (n.cells.take q).map Ce.node = places (n.nodes.take j) 22) ∧ W0 = wr)
  case atStart => exact ⟨0, 0, 0, by omega, rfl, rfl, rfl, by omega, by omega, Lib.hid ⟨rfl, rfl⟩, Lib.hid ⟨rfl, rfl⟩, rfl⟩
  case round =>
    obtain ⟨j, p, q, hjg, rfl, rfl, rfl, hp, hq, HP, HQ, rfl⟩ := hrel
    have HJ := Lib.hid hjg
    have hjl : j ≤ n.nodes.length := by omega
    clear hjg
    by_cases hlt : j < n.nodes.length
    · have hs : n.nodes[j]? = some n.nodes[j] := List.getElem?_eq_getElem hlt
      generalize n.nodes[j] = x at hs
      have HS := Lib.hid hs
      have P1 := Lib.hid (places_step (op := 21) hs)
      have P2 := Lib.hid (places_step (op := 22) hs)
      have C1 := Lib.hid (cnt_step (op := 21) hs)
      have C2 := Lib.hid (cnt_step (op := 22) hs)
      obtain ⟨bb, off, rfl, -, d0, d1, d2, d3, d4, d5, d6⟩ := R1.out j x hs
      clear hs
      have hi1 : (j : Int) < (n.nodes.length : Int) := by omega
      have hi0 : (0 : Int) ≤ (j : Int) := by omega
      have hp0 : (0 : Int) ≤ (p : Int) := by omega
      have hq0 : (0 : Int) ≤ (q : Int) := by omega
      by_cases h21 : x.op = 21
      · have t1 : (x.op == 21) = true := by simp [h21]
        have t2 : (x.op == 22) = false := by simp [h21]
        have IX := Lib.hid (places_idx (op := 21) HS.out h21)
        rw [if_pos h21] at P1 C1
        rw [if_neg (by omega)] at P2 C2
        clear h21
        by_cases hpl : p < n.ins.length
        · have hpi : (p : Int) < (n.ins.length : Int) := by omega
          have hs2 : n.ins[p]? = some n.ins[p] := List.getElem?_eq_getElem hpl
          generalize n.ins[p] = y at hs2
          have HS2 := Lib.hid hs2
          obtain ⟨cb, coff, rfl, -, y0, y1⟩ := R2.out p y hs2
          clear hs2
          by_cases hy : y.node = (j : Int)
          · have t3 : (y.node != (j : Int)) = false := by simp [hy]
            have MS := Lib.hid (map_step (f := Pn.node) HS2.out)
            rw [hy] at MS
            clear hy
            go_wp2_with fail
            go_roundg (gk - 1)
            case measure => have := HJ.out; omega
            case rel => exact ⟨j + 1, p + 1, q, by have := HJ.out; omega, by go_num, by go_num, rfl, by omega, by omega, Lib.hid ⟨by rw [C1.out, HP.out.1], by rw [MS.out, P1.out, HP.out.2]⟩, Lib.hid ⟨by rw [C2.out, HQ.out.1, Nat.add_zero], by rw [P2.out, HQ.out.2, List.append_nil]⟩, rfl⟩
          · have t3 : (y.node != (j : Int)) = true := by simpa using hy
            have HR := Lib.hid (bool_no hb.out fun h => by
              have h2 := IX.out
              rw [HP.out.1, ← h.1] at h2
              obtain ⟨y', e1, e2⟩ := map_idx h2
              rw [HS2.out] at e1
              obtain rfl := Option.some.inj e1
              exact hy e2)
            clear hy
            go_wp2_with fail
            go_ret
            exact ⟨by rw [HR.out]; rfl, BW.out⟩
        · have hpi : (n.ins.length : Int) ≤ (p : Int) := by omega
          have HR := Lib.hid (bool_no hb.out fun h => by
            have h2 := IX.out
            rw [HP.out.1, ← h.1] at h2
            obtain ⟨y', e1, e2⟩ := map_idx h2
            have := (List.getElem?_eq_some_iff.1 e1).1
            omega)
          go_wp2_with fail
          go_ret
          exact ⟨by rw [HR.out]; rfl, BW.out⟩
      have t1 : (x.op == 21) = false := by simp [h21]
      by_cases h22 : x.op = 22
      · have t2 : (x.op == 22) = true := by simp [h22]
        have IX := Lib.hid (places_idx (op := 22) HS.out h22)
        rw [if_neg h21] at P1 C1
        rw [if_pos h22] at P2 C2
        clear h21 h22
        by_cases hpl : q < n.cells.length
        · have hpi : (q : Int) < (n.cells.length : Int) := by omega
          have hs2 : n.cells[q]? = some n.cells[q] := List.getElem?_eq_getElem hpl
          generalize n.cells[q] = y at hs2
          have HS2 := Lib.hid hs2
          obtain ⟨cb, coff, rfl, -, y0, y1, y2, y3⟩ := R3.out q y hs2
          clear hs2
          by_cases hy : y.node = (j : Int)
          · have t3 : (y.node != (j : Int)) = false := by simp [hy]
            have MS := Lib.hid (map_step (f := Ce.node) HS2.out)
            rw [hy] at MS
            clear hy
            go_wp2_with fail
            go_roundg (gk - 1)
            case measure => have := HJ.out; omega
            case rel => exact ⟨j + 1, p, q + 1, by have := HJ.out; omega, by go_num, rfl, by go_num, by omega, by omega, Lib.hid ⟨by rw [C1.out, HP.out.1, Nat.add_zero], by rw [P1.out, HP.out.2, List.append_nil]⟩, Lib.hid ⟨by rw [C2.out, HQ.out.1], by rw [MS.out, P2.out, HQ.out.2]⟩, rfl⟩
          · have t3 : (y.node != (j : Int)) = true := by simpa using hy
            have HR := Lib.hid (bool_no hb.out fun h => by
              have h2 := IX.out
              rw [HQ.out.1, ← h.2] at h2
              obtain ⟨y', e1, e2⟩ := map_idx h2
              rw [HS2.out] at e1
              obtain rfl := Option.some.inj e1
              exact hy e2)
            clear hy
            go_wp2_with fail
            go_ret
            exact ⟨by rw [HR.out]; rfl, BW.out⟩
        · have hpi : (n.cells.length : Int) ≤ (q : Int) := by omega
          have HR := Lib.hid (bool_no hb.out fun h => by
            have h2 := IX.out
            rw [HQ.out.1, ← h.2] at h2
            obtain ⟨y', e1, e2⟩ := map_idx h2
            have := (List.getElem?_eq_some_iff.1 e1).1
            omega)
          go_wp2_with fail
          go_ret
          exact ⟨by rw [HR.out]; rfl, BW.out⟩
      have t2 : (x.op == 22) = false := by simp [h22]
      rw [if_neg h21] at P1 C1
      rw [if_neg h22] at P2 C2
      clear h21 h22
      go_wp2_with fail
      go_roundg (gk - 1)
      case measure => have := HJ.out; omega
      case rel => exact ⟨j + 1, p, q, by have := HJ.out; omega, by go_num, rfl, rfl, by omega, by omega, Lib.hid ⟨by rw [C1.out, HP.out.1, Nat.add_zero], by rw [P1.out, HP.out.2, List.append_nil]⟩, Lib.hid ⟨by rw [C2.out, HQ.out.1, Nat.add_zero], by rw [P2.out, HQ.out.2, List.append_nil]⟩, rfl⟩
    · have hjn : j = n.nodes.length := by omega
      have HA := Lib.hid (show cnt 21 n.nodes = p ∧ (n.ins.take p).map Pn.node = places n.nodes 21 by have h := HP.out; rwa [hjn, List.take_length] at h)
      have HB := Lib.hid (show cnt 22 n.nodes = q ∧ (n.cells.take q).map Ce.node = places n.nodes 22 by have h := HQ.out; rwa [hjn, List.take_length] at h)
      clear hjn
      by_cases e1 : p = n.ins.length
      · have t1 : ((p : Int) == (n.ins.length : Int)) = true := by simp; omega
        by_cases e2 : q = n.cells.length
        · have t2 : ((q : Int) == (n.cells.length : Int)) = true := by simp; omega
          have HR := Lib.hid (hb.out.2 ⟨by have h := HA.out.2; rwa [e1, List.take_length] at h, by have h := HB.out.2; rwa [e2, List.take_length] at h⟩)
          clear e1 e2
          go_wp2_with fail
          go_ret
          exact ⟨by rw [HR.out]; first | rfl | (show Ending.returned (.bool _) = _; rw [t2]), BW.out⟩
        · have t2 : ((q : Int) == (n.cells.length : Int)) = false := by simp; omega
          have HR := Lib.hid (bool_no hb.out fun h => e2 (by have := HB.out.1; unfold cnt at this; rw [← h.2, List.length_map] at this; omega))
          clear e1 e2
          go_wp2_with fail
          go_ret
          exact ⟨by rw [HR.out]; first | rfl | (show Ending.returned (.bool _) = _; rw [t2]), BW.out⟩
      · have t1 : ((p : Int) == (n.ins.length : Int)) = false := by simp; omega
        have HR := Lib.hid (bool_no hb.out fun h => e1 (by have := HA.out.1; unfold cnt at this; rw [← h.1, List.length_map] at this; omega))
        clear e1
        go_wp2_with fail
        go_ret
        exact ⟨by rw [HR.out]; rfl, BW.out⟩
end Go.Proofs.Ytmnblcnhbafcpaa
