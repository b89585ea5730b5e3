/-
  THE DOCUMENT'S First, After, Eval, WALKED.
-/
import Derived.Test.YtmnblcnhbafcpaaJ27
import Derived.Test.YtmnblcnhbafcpaaJ28
import Derived.StillTailTactics
namespace Go.Proofs.Ytmnblcnhbafcpaa
open Go.RowKit
open NetM

set_option maxRecDepth 100000 in
set_option maxHeartbeats 4000000 in
theorem RFirst_any (n : Nt) (v : Value) (w : World) (hs : Sz n) (hn : Hid (NtAt w n v)) :
    Calls Try.prog 38 #[v] w (RowRet w (n.cells.map Ce.reset)) := by
  obtain ⟨z1, z2, z3, z4, z5⟩ := hs
  obtain ⟨A1, A2, A3, A4, A5, c1, c2, c3, c4, c5, rfl, hc1, h1, h2, h3, h4, h5⟩ := hn.out
  have H1 := Lib.hid h1
  have H2 := Lib.hid h2
  have H3 := Lib.hid h3
  have H4 := Lib.hid h4
  have H5 := Lib.hid h5
  clear h1 h2 h3 h4 h5
  obtain ⟨W0, eW, BW, KEEP⟩ : ∃ W0, w.alloc (.cells (bxC n A1 A2 A3 A4 A5 c1 c2 c3 c4 c5) 27) = W0 ∧ Hid (Gr w W0) ∧ Hid (∀ u, Gr W0 u → BxAt u w.heap.size n A1 A2 A3 A4 A5 c1 c2 c3 c4 c5) :=
    ⟨_, rfl, Lib.hid (bel_alloc _ _), Lib.hid fun u hu => bx_gr (bx_new w n A1 A2 A3 A4 A5 c1 c2 c3 c4 c5) (by simp) hu⟩
  obtain ⟨e0, e1, e2, e3, e4⟩ := KEEP.out W0 (Gr.refl _)
  obtain ⟨i0, hi, hz0, hz1, hz2⟩ := info_parts info3
  have HI := Lib.hid (And.intro hi (And.intro hz0 (And.intro hz1 hz2)))
  clear hi hz0 hz1 hz2
  go_enter Try.func38, Try.ntmps38
  go_wp2_with fail
  try rw [eW]
  clear eW
  go_loopg [3, 4] n.cells.length (fun g v i wr => ∃ j : Nat, j + g = n.cells.length ∧ i = .int .i64 j ∧ Hid (wr.ownsRow W0.heap.size 3 1 v j (icells ((n.cells.take j).map Ce.reset))) ∧ Hid (Gr W0 wr))
  case atStart => exact ⟨0, by omega, rfl, Lib.hid (World.ownsRow_nil _ _ _ _), Lib.hid (Gr.refl _)⟩
  case round =>
    obtain ⟨j, hjg, rfl, HO, HW⟩ := hrel
    have HJ := Lib.hid hjg
    have hjl : j ≤ n.cells.length := by omega
    clear hjg
    obtain ⟨e0, e1, e2, e3, e4⟩ := KEEP.out _ HW.out
    by_cases hlt : j < n.cells.length
    · have hsx : n.cells[j]? = some n.cells[j] := List.getElem?_eq_getElem hlt
      generalize n.cells[j] = x at hsx
      have HS := Lib.hid (map_step (f := Ce.reset) hsx)
      obtain ⟨bb, off, rfl, -, d0, d1, d2, d3⟩ := (H3.out.gr (Gr.trans BW.out HW.out)) j x hsx
      clear hsx
      have hi1 : (j : Int) < (n.cells.length : Int) := by omega
      have hi0 : (0 : Int) ≤ (j : Int) := by omega
      have hws := HW.out.size
      go_wp2_with (at_builtin; refine wpList_append_own _ rfl _ _ 42 rfl W0.heap.size 3 i0 (.int .i64 0) 1 8 Try.underlying42 HI.out.1 HI.out.2.1 HI.out.2.2.1 HI.out.2.2.2 rfl (by decide) _ _ _ rfl (HO.out.alloc _) ⟨wr.heap.size, 0, none⟩ 1 1 [.int .i64 (x.reset)] rfl rfl (fun j' u hj => by have := int_new wr (.int .i64 (x.reset)) 3 j' u hj; simpa using this) (fun x hx => by simp at hx; subst hx; rfl) (by unfold maxLen; omega) (by omega) (by simp; omega) ?_; intro v' w3 hown' hgrow3 hnil3; have HO3 := Lib.hid hown'; have HB3 := Lib.hid (app_row HO.out HW.out hgrow3); clear hown' hgrow3 hnil3)
      go_roundg (gk - 1)
      case measure => have := HJ.out; omega
      case rel => exact ⟨j + 1, by have := HJ.out; omega, by go_num, Lib.hid (by rw [HS.out, icells_snoc]; exact HO3.out), HB3⟩
    · have hjn : j = n.cells.length := by omega
      subst hjn
      have HFR := Lib.hid HO.out.lt
      have hrow := ints_of_own HO.out (by rw [List.length_map, List.length_take]; omega)
      rw [List.take_length] at hrow
      have HR := Lib.hid hrow
      clear hrow HO
      go_wp2_with fail
      go_ret
      exact ⟨_, rfl, HR.out, Gr.trans BW.out HW.out, fun b hb => Nat.le_trans BW.out.size (HFR.out b hb).1⟩
set_option maxRecDepth 100000 in
set_option maxHeartbeats 4000000 in
theorem RAfter_any (n : Nt) (v sv iv : Value) (ma : List Int) (w : World) (hs : Sz n) (hn : Hid (NtAt w n v)) (hma : ma.length ≤ 4000) (hin : ∀ c ∈ n.cells, 0 ≤ c.next ∧ c.next < (ma.length : Int))
    (hev : Hid (∀ u, Gr w u → Calls Try.prog 42 #[v, sv, iv] u (RowRet u ma))) :
    Calls Try.prog 39 #[v, sv, iv] w (RowRet w (n.cells.map (fun c : Ce => getA ma c.next))) := by
  obtain ⟨z1, z2, z3, z4, z5⟩ := hs
  obtain ⟨A1, A2, A3, A4, A5, c1, c2, c3, c4, c5, rfl, hc1, h1, h2, h3, h4, h5⟩ := hn.out
  have H1 := Lib.hid h1
  have H2 := Lib.hid h2
  have H3 := Lib.hid h3
  have H4 := Lib.hid h4
  have H5 := Lib.hid h5
  clear h1 h2 h3 h4 h5
  obtain ⟨W0, eW, BW, KEEP⟩ : ∃ W0, w.alloc (.cells (bxC n A1 A2 A3 A4 A5 c1 c2 c3 c4 c5) 27) = W0 ∧ Hid (Gr w W0) ∧ Hid (∀ u, Gr W0 u → BxAt u w.heap.size n A1 A2 A3 A4 A5 c1 c2 c3 c4 c5) :=
    ⟨_, rfl, Lib.hid (bel_alloc _ _), Lib.hid fun u hu => bx_gr (bx_new w n A1 A2 A3 A4 A5 c1 c2 c3 c4 c5) (by simp) hu⟩
  obtain ⟨e0, e1, e2, e3, e4⟩ := KEEP.out W0 (Gr.refl _)
  obtain ⟨i0, hi, hz0, hz1, hz2⟩ := info_parts info3
  have HI := Lib.hid (And.intro hi (And.intro hz0 (And.intro hz1 hz2)))
  clear hi hz0 hz1 hz2
  have EV := Lib.hid (hev.out _ BW.out)
  clear hev
  go_enter Try.func39, Try.ntmps39
  go_wp2_with fail
  try rw [eW]
  refine EV.out.mono ?_
  rintro e w1 ⟨v1, rfl, hi1, hg1, -⟩
  obtain ⟨Am, cm, rfl, -, him⟩ := hi1
  have HM := Lib.hid him
  have HG := Lib.hid hg1
  clear him hg1 eW e0 e1 e2 e3 e4
  go_wp2_with fail
  go_loopg [8, 9] n.cells.length (fun g v i wr => ∃ j : Nat, j + g = n.cells.length ∧ i = .int .i64 j ∧ Hid (wr.ownsRow w1.heap.size 3 1 v j (icells ((n.cells.take j).map (fun c : Ce => getA ma c.next)))) ∧ Hid (Gr w1 wr))
  case atStart => exact ⟨0, by omega, rfl, Lib.hid (World.ownsRow_nil _ _ _ _), Lib.hid (Gr.refl _)⟩
  case round =>
    obtain ⟨j, hjg, rfl, HO, HW⟩ := hrel
    have HJ := Lib.hid hjg
    have hjl : j ≤ n.cells.length := by omega
    clear hjg
    obtain ⟨e0, e1, e2, e3, e4⟩ := KEEP.out _ (Gr.trans HG.out HW.out)
    by_cases hlt : j < n.cells.length
    · have hsx : n.cells[j]? = some n.cells[j] := List.getElem?_eq_getElem hlt
      generalize n.cells[j] = x at hsx
      have HS := Lib.hid (map_step (f := (fun c : Ce => getA ma c.next)) hsx)
      obtain ⟨bb, off, rfl, -, d0, d1, d2, d3⟩ := (H3.out.gr (Gr.trans BW.out (Gr.trans HG.out HW.out))) j x hsx
      obtain ⟨hn0, hn1⟩ := hin x (List.mem_of_getElem? hsx)
      clear hsx
      obtain ⟨k, hk⟩ : ∃ k : Nat, x.next = k := ⟨x.next.toNat, by omega⟩
      have hkl : k < ma.length := by omega
      have hsm : ma[k]? = some ma[k] := List.getElem?_eq_getElem hkl
      generalize ma[k] = r at hsm
      rw [show getA ma x.next = r by rw [hk, getA_some hsm]] at HS
      obtain ⟨b2, o2, rfl, -, g0⟩ := (HM.out.gr HW.out) k r hsm
      rw [hk] at d2
      have hi1 : (j : Int) < (n.cells.length : Int) := by omega
      have hi0 : (0 : Int) ≤ (j : Int) := by omega
      have hk1 : (k : Int) < (ma.length : Int) := by omega
      have hk0 : (0 : Int) ≤ (k : Int) := by omega
      have hws := HW.out.size
      clear hk hsm hn0 hn1
      go_wp2_with (at_builtin; refine wpList_append_own _ rfl _ _ 42 rfl w1.heap.size 3 i0 (.int .i64 0) 1 8 Try.underlying42 HI.out.1 HI.out.2.1 HI.out.2.2.1 HI.out.2.2.2 rfl (by decide) _ _ _ rfl (HO.out.alloc _) ⟨wr.heap.size, 0, none⟩ 1 1 [.int .i64 (r)] rfl rfl (fun j' u hj => by have := int_new wr (.int .i64 (r)) 3 j' u hj; simpa using this) (fun x hx => by simp at hx; subst hx; rfl) (by unfold maxLen; omega) (by omega) (by simp; omega) ?_; intro v' w3 hown' hgrow3 hnil3; have HO3 := Lib.hid hown'; have HB3 := Lib.hid (app_row HO.out HW.out hgrow3); clear hown' hgrow3 hnil3)
      go_roundg (gk - 1)
      case measure => have := HJ.out; omega
      case rel => exact ⟨j + 1, by have := HJ.out; omega, by go_num, Lib.hid (by rw [HS.out, icells_snoc]; exact HO3.out), HB3⟩
    · have hjn : j = n.cells.length := by omega
      subst hjn
      have HFR := Lib.hid HO.out.lt
      have hrow := ints_of_own HO.out (by rw [List.length_map, List.length_take]; omega)
      rw [List.take_length] at hrow
      have HR := Lib.hid hrow
      clear hrow HO
      go_wp2_with fail
      go_ret
      exact ⟨_, rfl, HR.out, Gr.trans BW.out (Gr.trans HG.out HW.out), fun b hb => Nat.le_trans (Gr.trans BW.out HG.out).size (HFR.out b hb).1⟩
theorem cell_gr {w u : World} {b o : Nat} {v : Value} (hu : Gr w u) (hv : w.cell? ⟨b, o, none⟩ = some v) : u.cell? ⟨b, o, none⟩ = some v := by
  have hlt : b < w.heap.size := by
    rcases Nat.lt_or_ge b w.heap.size with h | h
    · exact h
    · simp [World.cell?, Array.getElem?_eq_none h] at hv
  rw [hu.cell (p := ⟨b, o, none⟩) hlt]
  exact hv
/-- an append of one number onto a row of one's own that is there: what the row held stays where it was -/
theorem append_keeps {w w' : World} {base n cap g : Nat} {xs : List Value} {v' : Value} {i0 : TypeInfo} {ad : Addr} {r : Value} (ty : TypeId) (hi : Try.prog.info? 3 = some i0) (hz : i0.zero = some (.int .i64 0)) (hsz : i0.size = 1) (hby : i0.bytes = 8)
    (hown : w.ownsRow base 3 1 (.slice (some ⟨g, 0, none⟩) n cap) n xs) (hnews : ∀ j u, [r][j]? = some u → w.cell? (ad.add j) = some u) (h1 : r.oneCell' = true) (hn : n ≤ 4000)
    (hr : (Builtin.append_ #[42, 42] ty #[.slice (some ⟨g, 0, none⟩) n cap, .slice (some ad) 1 1]).run Try.prog w = .ok v' w') : ∀ i u, xs[i]? = some u → w'.cell? ⟨g, i, none⟩ = some u := by
  intro i u hu
  have hin : i < n := by have := (List.getElem?_eq_some_iff.1 hu).1; rw [hown.1] at this; omega
  rcases hown.2 with ⟨h0, _⟩ | ⟨g', cap', cur, h0, hb, hg, hnc, hcm, hcs, ht⟩
  · simp at h0
  · simp only [Value.slice.injEq, Option.some.injEq, Addr.mk.injEq, and_true, true_and] at h0
    obtain ⟨rfl, rfl⟩ := h0
    by_cases hroom : n + 1 ≤ cap
    · have h2 := run_append_room (P := Try.prog) w 42 ty 3 i0 Try.underlying42 hi g n cap cur hg ad 1 1 [r] (by rw [hsz]; rfl) hnews (by intro u hu; simp at hu; subst hu; exact h1) hroom (by rw [hsz, hcs]; simp; omega)
      rw [hr] at h2
      injection h2 with _ h3
      subst h3
      rw [cellAt (setRow_heap w g cur _ 3 _ hg), List.getElem?_toArray, List.append_assoc, hsz, ht, List.getElem?_append_left (by rw [hown.1]; omega)]
      exact hu
    · have holds : ∀ j u, xs[j]? = some u → w.cell? ((⟨g, 0, none⟩ : Addr).add j) = some u := hown.cells (g := g) rfl
      have h2 := run_append_grow (P := Try.prog) w 42 ty 3 i0 (.int .i64 0) Try.underlying42 hi hz ⟨g, 0, none⟩ n cap xs (by rw [hsz]; exact hown.1) holds ad 1 1 [r] (by rw [hsz]; rfl) hnews (by omega) (by omega) (growslice_fits (by omega) (by rw [hby]; omega))
      rw [hr] at h2
      injection h2 with _ h3
      subst h3
      have h4 := holds i u hu
      have hadd : (⟨g, 0, none⟩ : Addr).add i = ⟨g, i, none⟩ := by
        by_cases hq : i = 0
        · subst hq; rfl
        · simp [Addr.add, hq]
      rw [hadd] at h4
      exact cell_gr (Gr.trans (Gr.drew w) (bel_alloc _ _)) h4
theorem step_keeps {ops : Array Oper} {o : Oper} {a : Act} {K : Act → World → Prop} {Q : Exit → Act → World → Prop} {E : Prop} {w : World} (hgd : o.guard = none) (s x : Operand) (ho : o.op = .call { callee := .builtin .append, args := #[s, x], argTypes := #[42, 42] })
    {base n cap g : Nat} {xs : List Value} {i0 : TypeInfo} {ad : Addr} {r : Value} (hi : Try.prog.info? 3 = some i0) (hz : i0.zero = some (.int .i64 0)) (hsz : i0.size = 1) (hby : i0.bytes = 8) (hs : a.eval s = .slice (some ⟨g, 0, none⟩) n cap)
    (hown : w.ownsRow base 3 1 (.slice (some ⟨g, 0, none⟩) n cap) n xs) (hx : a.eval x = .slice (some ad) 1 1) (hnews : ∀ j u, [r][j]? = some u → w.cell? (ad.add j) = some u) (h1 : r.oneCell' = true) (hn : n ≤ 4000) (hbase : base ≤ w.heap.size)
    (h : ∀ v' w', w'.ownsRow base 3 1 v' (n + 1) (xs ++ [r]) → w.grownBy w' (some g) → (∀ i u, xs[i]? = some u → w'.cell? ⟨g, i, none⟩ = some u) → K (a.put o.dst v') w') :
    if Region.wanted o (yielded ops a.tmps) = true then Oper.wp Try.prog o a w K Q else E := by
  have hw : Region.wanted o (yielded ops a.tmps) = true := by simp [Region.wanted, hgd]
  rw [if_pos hw]
  obtain ⟨v', w', hr, h2, h3, -⟩ := run_append_own (P := Try.prog) w base 42 o.type 3 i0 (.int .i64 0) 1 8 Try.underlying42 hi hz hsz hby rfl (by decide) _ n xs hown ad 1 1 [r] rfl hnews (fun u hu => by simp at hu; subst hu; exact h1) (by unfold maxLen; omega) (by omega) hbase
  have hk := append_keeps o.type hi hz hsz hby hown hnews h1 hn hr
  unfold Oper.wp execOp
  simp only [ho, resolve, invoke, builtin, Sem.run_bind, Sem.run_pure, Result.andThen_ok, List.map_toArray, List.map_cons, List.map_nil, hs, hx, hr]
  exact h v' w' h2 h3 hk
theorem val_at {l : List Nat} {i : Nat} (h : i < l.length) : l[i]? = some (getN l (i : Nat)) := by
  rw [getN_nat, List.getElem?_eq_getElem h]
  rfl
set_option maxHeartbeats 2000000 in
/-- what the document's Do asks of a node -/
theorem node_ref {n : Nt} (hR : NdsOk n.nodes) (hC : n.cells.map Ce.node = places n.nodes 22) (hI : n.ins.map Pn.node = places n.nodes 21) {st ins : List Nat} (hst : StOk n st) (hin : InOk n ins) {j : Nat} {x : Nd} (hx : n.nodes[j]? = some x) (h1 : x.op ≠ 1) (h21 : x.op ≠ 21) (h22 : x.op ≠ 22) :
    ∃ op W N Lo a b c : Nat, ∃ y : Nd, x.op = (op : Int) ∧ x.w = (W : Int) ∧ x.n = (N : Int) ∧ x.lo = (Lo : Int) ∧ x.a = (a : Int) ∧ x.b = (b : Int) ∧ x.c = (c : Int) ∧ a < j ∧ b < j ∧ c < j ∧ n.nodes[b]? = some y ∧ isOp op ∧ W ≤ 16 ∧ Lo ≤ 16 ∧
      rOk op W N Lo (getN (evL n.nodes st ins j) (a : Nat)) (getN (evL n.nodes st ins j) (b : Nat)) := by
  have hjl := (List.getElem?_eq_some_iff.1 hx).1
  have hok := hR j x hx
  have hwt : WOk (n.nodes.take j) := fun y hy => wok_of hR y (List.mem_of_mem_take hy)
  obtain ⟨op, W, N, Lo, x1, x2, x3, x4, ho, hW1, hW, hLo⟩ := node_nat hwt hok h21 h22
  obtain ⟨hw1, hw2, k, bn, bl, f, hr, ha, hb, hc, hF⟩ := (node_iff hwt).1 hok
  unfold FOk at hF
  obtain ⟨g1, g2, g3, g4, g5, g6, g7, g8, g9⟩ := hF
  have hro := rule_ops hr
  have hlen := evL_len n.nodes st ins j (by omega)
  have pos : ∀ i, opd (n.nodes.take j) x i ≠ 0 → ∃ q : Nat, plc x i = (q : Int) ∧ q < j := fun i hi => by
    unfold opd at hi
    obtain ⟨q, y, e, _, hq⟩ := opd_pos hi
    exact ⟨q, e, by rw [List.length_take] at hq; omega⟩
  have hA : opd (n.nodes.take j) x 0 ≠ 0 := by omega
  obtain ⟨a, ea, haj⟩ := pos 0 hA
  obtain ⟨kk, _, _, _, _, _, _, hre, _⟩ := hok
  have hB : ∃ b : Nat, x.b = (b : Int) ∧ b < j := by
    by_cases hz : kk ≤ 1
    · exact ⟨0, (hre 1 (by decide)).1 hz, by omega⟩
    · exact pos 1 ((hre 1 (by decide)).2 (by omega))
  obtain ⟨b, eb, hbj⟩ := hB
  have hCc : ∃ c : Nat, x.c = (c : Int) ∧ c < j := by
    by_cases hz : kk ≤ 2
    · exact ⟨0, (hre 2 (by decide)).1 hz, by omega⟩
    · exact pos 2 ((hre 2 (by decide)).2 (by omega))
  obtain ⟨c, ec, hcj⟩ := hCc
  have vlt : ∀ q, q < j → ∀ y, n.nodes[q]? = some y → getN (evL n.nodes st ins j) (q : Nat) < 2 ^ y.w.toNat := fun q hq y hy => evL_lt hR hC hI hst hin j (by omega) q y _ (val_at (by omega)) hy
  have hya : n.nodes[a]? = some n.nodes[a] := List.getElem?_eq_getElem (by omega)
  have hyb : n.nodes[b]? = some n.nodes[b] := List.getElem?_eq_getElem (by omega)
  have oa : opd (n.nodes.take j) x 0 = n.nodes[a].w := by
    show widA (n.nodes.take j) (plc x 0) = _
    rw [ea]
    exact widA_some (by rw [List.getElem?_take_of_lt haj]; exact hya)
  have ob : opd (n.nodes.take j) x 1 = n.nodes[b].w := by
    show widA (n.nodes.take j) x.b = _
    rw [eb]
    exact widA_some (by rw [List.getElem?_take_of_lt hbj]; exact hyb)
  have va := vlt a haj _ hya
  have vb := vlt b hbj _ hyb
  refine ⟨op, W, N, Lo, a, b, c, _, x1, x2, x3, x4, ea, eb, ec, haj, hbj, hcj, hyb, ho, hW, hLo, fun h => ?_, fun h => ?_, fun h => ?_⟩
  · have e : opd (n.nodes.take j) x 0 = x.w := by
      by_cases h3 : x.op = 3
      · exact (g3 h3).2.2
      · exact (g5 (by omega)).2.2.1
    rw [← oa, e, x2, Int.toNat_natCast] at va
    exact va
  · have e : opd (n.nodes.take j) x 1 = x.w := (g5 (by omega)).2.2.2
    rw [← ob, e, x2, Int.toNat_natCast] at vb
    exact vb
  · have := g9 (by omega)
    omega
set_option maxRecDepth 100000 in
set_option maxHeartbeats 8000000 in
theorem REval_any (n : Nt) (v sv iv : Value) (st ins : List Nat) (w : World) (hs : Sz n) (hn : Hid (NtAt w n v)) (hR : NdsOk n.nodes) (hC : n.cells.map Ce.node = places n.nodes 22) (hI : n.ins.map Pn.node = places n.nodes 21) (hst : StOk n st) (hin : InOk n ins) (hsl : st.length = n.cells.length) (hil : ins.length = n.ins.length)
    (hsv : Hid (IntR w sv (ofN st))) (hiv : Hid (IntR w iv (ofN ins))) :
    Calls Try.prog 42 #[v, sv, iv] w (RowRet w (ofN (evAll n st ins))) := by
  obtain ⟨z1, z2, z3, z4, z5⟩ := hs
  obtain ⟨As, cs, rfl, -, hss⟩ := hsv.out
  obtain ⟨Ai, ci, rfl, -, hii⟩ := hiv.out
  have HS0 := Lib.hid hss
  have HI0 := Lib.hid hii
  clear hss hii hsv hiv
  rw [ofN_len, hsl, ofN_len, hil]
  obtain ⟨A1, A2, A3, A4, A5, c1, c2, c3, c4, c5, rfl, hc1, h1, h2, h3, h4, h5⟩ := hn.out
  have H1 := Lib.hid h1
  have H2 := Lib.hid h2
  have H3 := Lib.hid h3
  have H4 := Lib.hid h4
  have H5 := Lib.hid h5
  clear h1 h2 h3 h4 h5
  obtain ⟨W0, eW, BW, KEEP⟩ : ∃ W0, w.alloc (.cells (bxC n A1 A2 A3 A4 A5 c1 c2 c3 c4 c5) 27) = W0 ∧ Hid (Gr w W0) ∧ Hid (∀ u, Gr W0 u → BxAt u w.heap.size n A1 A2 A3 A4 A5 c1 c2 c3 c4 c5) :=
    ⟨_, rfl, Lib.hid (bel_alloc _ _), Lib.hid fun u hu => bx_gr (bx_new w n A1 A2 A3 A4 A5 c1 c2 c3 c4 c5) (by simp) hu⟩
  obtain ⟨e0, e1, e2, e3, e4⟩ := KEEP.out W0 (Gr.refl _)
  obtain ⟨i0, hi, hz0, hz1, hz2⟩ := info_parts info3
  have HI := Lib.hid (And.intro hi (And.intro hz0 (And.intro hz1 hz2)))
  clear hi hz0 hz1 hz2
  have hwok := wok_of hR
  have HLM : Hid (∀ k z, k ≤ n.nodes.length → z ∈ evL n.nodes st ins k → z < 65536) := Lib.hid fun k z hk hz => by
    obtain ⟨i, hi⟩ := List.mem_iff_getElem?.1 hz
    have hik : i < k := by have := (List.getElem?_eq_some_iff.1 hi).1; rw [evL_len _ _ _ _ hk] at this; exact this
    have hx : n.nodes[i]? = some n.nodes[i] := List.getElem?_eq_getElem (by omega)
    have h1 := evL_lt hR hC hI hst hin k hk i _ z hi hx
    have h2 := (hwok _ (List.mem_of_getElem? hx)).2
    exact Nat.lt_of_lt_of_le h1 (Nat.pow_le_pow_right (n := 2) (i := (n.nodes[i]).w.toNat) (j := 16) (by decide) (by omega))
  have hWsz : w.heap.size + 1 ≤ W0.heap.size := by rw [← eW]; simp
  have PB := Lib.hid (And.intro hR (And.intro hC (And.intro hI (And.intro hst hin))))
  clear hst hin
  go_enter Try.func42, Try.ntmps42
  go_wp2_with fail
  try rw [eW]
  clear eW
  go_loopg [7, 8, 9, 10] n.nodes.length (fun g mv pv cv i wr => ∃ j : Nat, j + g = n.nodes.length ∧ i = .int .i64 j ∧ Hid (pv = .int .i64 (cnt 21 (n.nodes.take j) : Nat)) ∧ Hid (cv = .int .i64 (cnt 22 (n.nodes.take j) : Nat)) ∧ Hid (wr.ownsRow W0.heap.size 3 1 mv j (icells (ofN (evL n.nodes st ins j)))) ∧ Hid (Gr W0 wr))
  case atStart => exact ⟨0, by omega, rfl, Lib.hid rfl, Lib.hid rfl, Lib.hid (World.ownsRow_nil _ _ _ _), Lib.hid (Gr.refl _)⟩
  case round =>
    obtain ⟨j, hjg, rfl, HPV, HCV, HO, HW⟩ := hrel
    obtain rfl := HPV.out
    obtain rfl := HCV.out
    have HJ := Lib.hid hjg
    have hjl : j ≤ n.nodes.length := by omega
    clear hjg HPV HCV
    obtain ⟨e0, e1, e2, e3, e4⟩ := KEEP.out _ HW.out
    by_cases hlt : j < n.nodes.length
    · have hsx : n.nodes[j]? = some n.nodes[j] := List.getElem?_eq_getElem hlt
      generalize n.nodes[j] = x at hsx
      have HS := Lib.hid hsx
      have HES := Lib.hid (evL_step (st := st) (ins := ins) hsx)
      have HC1 := Lib.hid (cnt_step (op := 21) hsx)
      have HC2 := Lib.hid (cnt_step (op := 22) hsx)
      have hml : (ofN (evL n.nodes st ins j)).length = j := by rw [ofN_len, evL_len _ _ _ _ hjl]
      obtain ⟨Am, cm, rfl, -, him⟩ := ints_of_own HO.out hml
      have HM0 := Lib.hid him
      clear him
      rw [hml] at HO ⊢
      clear hml
      obtain ⟨p1, hp1⟩ : ∃ p, cnt 21 (n.nodes.take j) = p := ⟨_, rfl⟩
      obtain ⟨p2, hp2⟩ : ∃ p, cnt 22 (n.nodes.take j) = p := ⟨_, rfl⟩
      rw [hp1] at HC1 ⊢
      rw [hp2] at HC2 ⊢
      obtain ⟨bb, off, rfl, -, d0, d1, d2, d3, d4, d5, d6⟩ := (H1.out.gr (Gr.trans BW.out HW.out)) j x hsx
      have hi1 : (j : Int) < (n.nodes.length : Int) := by omega
      have hi0 : (0 : Int) ≤ (j : Int) := by omega
      have HWX := Lib.hid (Gr.trans HW.out (bel_alloc wr (.cells #[.int .i64 x.op, .int .i64 x.w, .int .i64 x.a, .int .i64 x.b, .int .i64 x.c, .int .i64 x.n, .int .i64 x.lo] 53)))
      have HOX := Lib.hid (HO.out.alloc (.cells #[.int .i64 x.op, .int .i64 x.w, .int .i64 x.a, .int .i64 x.b, .int .i64 x.c, .int .i64 x.n, .int .i64 x.lo] 53))
      have hwx := HWX.out.size
      have hws := HW.out.size
      by_cases h21 : x.op = 21
      · have q : (x.op == 21) = true := by simp [h21]
        have hidx := places_idx hsx h21
        rw [← hI, hp1] at hidx
        obtain ⟨pn, hpn, -⟩ := map_idx hidx
        have hpl : p1 < n.ins.length := (List.getElem?_eq_some_iff.1 hpn).1
        have hev : ev1 n.nodes st ins j (evL n.nodes st ins j) x = getN ins (p1 : Nat) := by unfold ev1; rw [if_pos h21, hp1]
        rw [hev] at HES
        rw [if_pos h21] at HC1
        rw [if_neg (by omega)] at HC2
        obtain ⟨b2, o2, rfl, -, g0⟩ := (HI0.out.gr (Gr.trans BW.out HWX.out)) p1 _ (ofN_at (val_at (by omega)))
        generalize getN ins (p1 : Nat) = r at g0 HES
        have hk1 : (p1 : Int) < (n.ins.length : Int) := by omega
        have hk0 : (0 : Int) ≤ (p1 : Int) := by omega
        clear h21 hev hsx hp1 hp2 hidx hpn
        go_wp2_with (at_builtin; refine wpList_append_own _ rfl _ _ 42 rfl W0.heap.size 3 i0 (.int .i64 0) 1 8 Try.underlying42 HI.out.1 HI.out.2.1 HI.out.2.2.1 HI.out.2.2.2 rfl (by decide) _ _ _ rfl (HOX.out.alloc _) ⟨wr.heap.size + 1, 0, none⟩ 1 1 [.int .i64 ((r : Nat))] rfl rfl (fun j' u hj => by have := int_new (wr.alloc (.cells #[.int .i64 x.op, .int .i64 x.w, .int .i64 x.a, .int .i64 x.b, .int .i64 x.c, .int .i64 x.n, .int .i64 x.lo] 53)) (.int .i64 ((r : Nat))) 3 j' u hj; simpa using this) (fun x hx => by simp at hx; subst hx; rfl) (by unfold maxLen; omega) (by omega) (by simp; omega) ?_; intro v' w3 hown' hgrow3 hnil3; have HO3 := Lib.hid hown'; have HB3 := Lib.hid (app_row HOX.out HWX.out hgrow3); clear hown' hgrow3 hnil3)
        go_roundg (gk - 1)
        case measure => have := HJ.out; omega
        case rel => exact ⟨j + 1, by have := HJ.out; omega, by go_num, Lib.hid (by rw [HC1.out]; first | rfl | go_num), Lib.hid (by rw [HC2.out]; rfl), Lib.hid (by rw [HES.out, ofN_snoc, icells_snoc]; exact HO3.out), HB3⟩
      by_cases h22 : x.op = 22
      · have q : (x.op == 21) = false := by simp [h21]
        have q2 : (x.op == 22) = true := by simp [h22]
        have hidx := places_idx hsx h22
        rw [← hC, hp2] at hidx
        obtain ⟨pn, hpn, -⟩ := map_idx hidx
        have hpl : p2 < n.cells.length := (List.getElem?_eq_some_iff.1 hpn).1
        have hev : ev1 n.nodes st ins j (evL n.nodes st ins j) x = getN st (p2 : Nat) := by unfold ev1; rw [if_neg h21, if_pos h22, hp2]
        rw [hev] at HES
        rw [if_neg h21] at HC1
        rw [if_pos h22] at HC2
        obtain ⟨b2, o2, rfl, -, g0⟩ := (HS0.out.gr (Gr.trans BW.out HWX.out)) p2 _ (ofN_at (val_at (by omega)))
        generalize getN st (p2 : Nat) = r at g0 HES
        have hk1 : (p2 : Int) < (n.cells.length : Int) := by omega
        have hk0 : (0 : Int) ≤ (p2 : Int) := by omega
        clear h21 h22 hev hsx hp1 hp2 hidx hpn
        go_wp2_with (at_builtin; refine wpList_append_own _ rfl _ _ 42 rfl W0.heap.size 3 i0 (.int .i64 0) 1 8 Try.underlying42 HI.out.1 HI.out.2.1 HI.out.2.2.1 HI.out.2.2.2 rfl (by decide) _ _ _ rfl (HOX.out.alloc _) ⟨wr.heap.size + 1, 0, none⟩ 1 1 [.int .i64 ((r : Nat))] rfl rfl (fun j' u hj => by have := int_new (wr.alloc (.cells #[.int .i64 x.op, .int .i64 x.w, .int .i64 x.a, .int .i64 x.b, .int .i64 x.c, .int .i64 x.n, .int .i64 x.lo] 53)) (.int .i64 ((r : Nat))) 3 j' u hj; simpa using this) (fun x hx => by simp at hx; subst hx; rfl) (by unfold maxLen; omega) (by omega) (by simp; omega) ?_; intro v' w3 hown' hgrow3 hnil3; have HO3 := Lib.hid hown'; have HB3 := Lib.hid (app_row HOX.out HWX.out hgrow3); clear hown' hgrow3 hnil3)
        go_roundg (gk - 1)
        case measure => have := HJ.out; omega
        case rel => exact ⟨j + 1, by have := HJ.out; omega, by go_num, Lib.hid (by rw [HC1.out]; rfl), Lib.hid (by rw [HC2.out]; first | rfl | go_num), Lib.hid (by rw [HES.out, ofN_snoc, icells_snoc]; exact HO3.out), HB3⟩
      have q : (x.op == 21) = false := by simp [h21]
      have q2 : (x.op == 22) = false := by simp [h22]
      rw [if_neg h21] at HC1
      rw [if_neg h22] at HC2
      by_cases h1 : x.op = 1
      · have q3 : (x.op == 1) = true := by simp [h1]
        obtain ⟨op, W, N, Lo, x1, x2, x3, x4, ho, -⟩ := node_nat (fun y hy => hwok y (List.mem_of_mem_take hy)) (hR j x hsx) h21 h22
        have hev : ev1 n.nodes st ins j (evL n.nodes st ins j) x = N := by
          unfold ev1
          rw [if_neg h21, if_neg h22, x3, h1]
          rfl
        rw [hev] at HES
        have HXN := Lib.hid x3
        clear h21 h22 h1 hev hsx hp1 hp2 x1 x2 x3 x4 ho
        go_wp2_with (at_builtin; refine wpList_append_own _ rfl _ _ 42 rfl W0.heap.size 3 i0 (.int .i64 0) 1 8 Try.underlying42 HI.out.1 HI.out.2.1 HI.out.2.2.1 HI.out.2.2.2 rfl (by decide) _ _ _ rfl (HOX.out.alloc _) ⟨wr.heap.size + 1, 0, none⟩ 1 1 [.int .i64 (x.n)] rfl rfl (fun j' u hj => by have := int_new (wr.alloc (.cells #[.int .i64 x.op, .int .i64 x.w, .int .i64 x.a, .int .i64 x.b, .int .i64 x.c, .int .i64 x.n, .int .i64 x.lo] 53)) (.int .i64 (x.n)) 3 j' u hj; simpa using this) (fun x hx => by simp at hx; subst hx; rfl) (by unfold maxLen; omega) (by omega) (by simp; omega) ?_; intro v' w3 hown' hgrow3 hnil3; have HO3 := Lib.hid hown'; have HB3 := Lib.hid (app_row HOX.out HWX.out hgrow3); clear hown' hgrow3 hnil3)
        rw [HXN.out] at HO3
        go_roundg (gk - 1)
        case measure => have := HJ.out; omega
        case rel => exact ⟨j + 1, by have := HJ.out; omega, by go_num, Lib.hid (by rw [HC1.out]; rfl), Lib.hid (by rw [HC2.out]; rfl), Lib.hid (by rw [HES.out, ofN_snoc, icells_snoc]; exact HO3.out), HB3⟩
      have q3 : (x.op == 1) = false := by simp [h1]
      obtain ⟨op, W, N, Lo, xa, xb, xc, yb, x1, x2, x3, x4, x5, x6, x7, haj, hbj, hcj, hyb, ho, hW, hLo, hrok⟩ := node_ref PB.out.1 PB.out.2.1 PB.out.2.2.1 PB.out.2.2.2.1 PB.out.2.2.2.2 hsx h1 h21 h22
      have hlen := evL_len n.nodes st ins j hjl
      have hget : ∀ q, q < j → getN (evL n.nodes st ins j) (q : Nat) < 65536 := fun q hq => HLM.out j _ hjl (List.mem_of_getElem? (val_at (by omega)))
      obtain ⟨b1, o1, rfl, -, ga⟩ := (HM0.out.gr (bel_alloc wr (.cells #[.int .i64 x.op, .int .i64 x.w, .int .i64 x.a, .int .i64 x.b, .int .i64 x.c, .int .i64 x.n, .int .i64 x.lo] 53))) xa _ (ofN_at (val_at (by omega)))
      obtain ⟨b2, o2, ee, -, gb⟩ := (HM0.out.gr (bel_alloc wr (.cells #[.int .i64 x.op, .int .i64 x.w, .int .i64 x.a, .int .i64 x.b, .int .i64 x.c, .int .i64 x.n, .int .i64 x.lo] 53))) xb _ (ofN_at (val_at (by omega)))
      obtain ⟨rfl, rfl⟩ : b1 = b2 ∧ o1 = o2 := by simpa using ee
      clear ee
      obtain ⟨b2, o2, ee, -, gc⟩ := (HM0.out.gr (bel_alloc wr (.cells #[.int .i64 x.op, .int .i64 x.w, .int .i64 x.a, .int .i64 x.b, .int .i64 x.c, .int .i64 x.n, .int .i64 x.lo] 53))) xc _ (ofN_at (val_at (by omega)))
      obtain ⟨rfl, rfl⟩ : b1 = b2 ∧ o1 = o2 := by simpa using ee
      clear ee
      obtain ⟨b2, o2, ee, -, y0, y1, y2, y3, y4, y5, y6⟩ := (H1.out.gr (Gr.trans BW.out HWX.out)) xb yb hyb
      obtain ⟨rfl, rfl⟩ : bb = b2 ∧ off = o2 := by simpa using ee
      clear ee y0 y2 y3 y4 y5 y6
      obtain ⟨hb1lo, hb1hi⟩ := HO.out.lt b1 rfl
      obtain rfl : o1 = 0 := by
        rcases HO.out.2 with ⟨h0, _⟩ | ⟨g', cap', cur, h0, _⟩
        · simp at h0
        · simp at h0; exact h0.1.2
      rw [Nat.zero_add] at ga gb gc
      obtain ⟨b2, o2, ee, hbbw, -⟩ := H1.out j x hsx
      obtain ⟨rfl, rfl⟩ : bb = b2 ∧ off = o2 := by simpa using ee
      clear ee
      have hW0s : w.heap.size + 1 ≤ W0.heap.size := hWsz
      have NE := Lib.hid (show (some wr.heap.size ≠ some b1) ∧ (some w.heap.size ≠ some b1) ∧ (some bb ≠ some b1) ∧ W0.heap.size ≤ b1 from ⟨by simp; omega, by simp; omega, by simp; omega, hb1lo⟩)
      have IC := Lib.hid (fun (q : Nat) (hq : q < j) => show (icells (ofN (evL n.nodes st ins j)))[q]? = some (.int .i64 (getN (evL n.nodes st ins j) (q : Nat) : Nat)) from by
        unfold icells
        rw [List.getElem?_map, ofN_at (val_at (by omega))]
        rfl)
      have IA := Lib.hid (IC.out xa haj)
      have IB := Lib.hid (IC.out xb hbj)
      have IG := Lib.hid (IC.out xc hcj)
      clear IC hb1lo hb1hi hbbw hW0s
      have hwy := hwok yb (List.mem_of_getElem? hyb)
      obtain ⟨wb, hwb⟩ : ∃ m : Nat, yb.w = m := ⟨yb.w.toNat, by omega⟩
      have hxl : xb < n.nodes.length := by omega
      have hwid : (widA n.nodes x.b).toNat = wb := by rw [x6, widA_some hyb, hwb, Int.toNat_natCast]
      rw [hwb] at y1
      obtain ⟨va, hva⟩ : ∃ z, getN (evL n.nodes st ins j) (xa : Nat) = z := ⟨_, rfl⟩
      obtain ⟨vb, hvb⟩ : ∃ z, getN (evL n.nodes st ins j) (xb : Nat) = z := ⟨_, rfl⟩
      obtain ⟨vc, hvc⟩ : ∃ z, getN (evL n.nodes st ins j) (xc : Nat) = z := ⟨_, rfl⟩
      have hga := hget xa haj
      have hgb := hget xb hbj
      rw [hva] at ga hrok hga IA
      rw [hvb] at gb hrok hgb IB
      rw [hvc] at gc IG
      obtain ⟨r, hr⟩ : ∃ r, doV op W N Lo va vb vc wb = r := ⟨_, rfl⟩
      have hev : ev1 n.nodes st ins j (evL n.nodes st ins j) x = r := by
        unfold ev1
        rw [if_neg h21, if_neg h22, x1, x2, x3, x4, x5, x7, hwid, x6, hva, hvb, hvc]
        simp only [Int.toNat_natCast]
        exact hr
      rw [hev] at HES
      have DO := Lib.hid (show ∀ u, Calls Try.prog 52 #[.agg #[.int .i64 x.op, .int .i64 x.w, .int .i64 x.a, .int .i64 x.b, .int .i64 x.c, .int .i64 x.n, .int .i64 x.lo], .int .i64 (va : Nat), .int .i64 (vb : Nat), .int .i64 (vc : Nat), .int .i64 (wb : Nat)] u fun e w' => e = .returned (.int .i64 (r : Nat)) ∧ Gr u w' from fun u => by
        rw [x1, x2, x3, x4, ← hr]
        exact RDo_any op W N Lo va vb vc wb ho hW hLo (by omega) hga hgb hrok u)
      obtain ⟨W1, eW1, BW1, HO1, KEEP1⟩ : ∃ W1, wr.alloc (.cells #[.int .i64 x.op, .int .i64 x.w, .int .i64 x.a, .int .i64 x.b, .int .i64 x.c, .int .i64 x.n, .int .i64 x.lo] 53) = W1 ∧ Hid (Gr wr W1) ∧ Hid (W1.ownsRow W0.heap.size 3 1 (.slice (some ⟨b1, 0, none⟩) j cm) j (icells (ofN (evL n.nodes st ins j)))) ∧
          Hid (∀ u, Gr W1 u → XAt u wr.heap.size x ∧ u.cell? ⟨w.heap.size, 0, none⟩ = some (.slice (some ⟨bb, off, none⟩) n.nodes.length c1) ∧ u.cell? ⟨b1, xa, none⟩ = some (.int .i64 (va : Nat)) ∧ u.cell? ⟨b1, xb, none⟩ = some (.int .i64 (vb : Nat)) ∧ u.cell? ⟨b1, xc, none⟩ = some (.int .i64 (vc : Nat)) ∧ u.cell? ⟨bb, off + xb * 7 + 1, none⟩ = some (.int .i64 (wb : Nat))) := by
        exact ⟨_, rfl, Lib.hid (bel_alloc _ _), HOX, Lib.hid fun u hu => ⟨x_gr (x_new wr x) (by simp) hu, (KEEP.out u (Gr.trans HWX.out hu)).1, cell_gr hu ga, cell_gr hu gb, cell_gr hu gc, cell_gr hu y1⟩⟩
      obtain ⟨⟨k0, k1, k2, k3, k4, k5, k6⟩, -⟩ := KEEP1.out W1 (Gr.refl _)
      have SX : Hid (∀ u, Gr W1 u → u.cell? ⟨wr.heap.size, 0, none⟩ = some (.int .i64 x.op) ∧ u.cell? ⟨wr.heap.size, 1, none⟩ = some (.int .i64 x.w) ∧ u.cell? ⟨wr.heap.size, 2, none⟩ = some (.int .i64 (xa : Nat)) ∧ u.cell? ⟨wr.heap.size, 3, none⟩ = some (.int .i64 (xb : Nat)) ∧ u.cell? ⟨wr.heap.size, 4, none⟩ = some (.int .i64 (xc : Nat)) ∧ u.cell? ⟨wr.heap.size, 5, none⟩ = some (.int .i64 x.n) ∧ u.cell? ⟨wr.heap.size, 6, none⟩ = some (.int .i64 x.lo) ∧
          u.cell? ⟨w.heap.size, 0, none⟩ = some (.slice (some ⟨bb, off, none⟩) n.nodes.length c1) ∧ u.cell? ⟨b1, xa, none⟩ = some (.int .i64 (va : Nat)) ∧ u.cell? ⟨b1, xb, none⟩ = some (.int .i64 (vb : Nat)) ∧ u.cell? ⟨b1, xc, none⟩ = some (.int .i64 (vc : Nat)) ∧ u.cell? ⟨bb, off + xb * 7 + 1, none⟩ = some (.int .i64 (wb : Nat))) := Lib.hid fun u hu => by
        obtain ⟨⟨q0, q1, q2, q3, q4, q5, q6⟩, q7⟩ := KEEP1.out u hu
        rw [x5] at q2
        rw [x6] at q3
        rw [x7] at q4
        exact ⟨q0, q1, q2, q3, q4, q5, q6, q7⟩
      have DO := Lib.hid (show ∀ u, Calls Try.prog 52 #[.agg #[.int .i64 x.op, .int .i64 x.w, .int .i64 (xa : Nat), .int .i64 (xb : Nat), .int .i64 (xc : Nat), .int .i64 x.n, .int .i64 x.lo], .int .i64 (va : Nat), .int .i64 (vb : Nat), .int .i64 (vc : Nat), .int .i64 (wb : Nat)] u fun e w' => e = .returned (.int .i64 (r : Nat)) ∧ Gr u w' from by rw [← x5, ← x6, ← x7]; exact DO.out)
      have hA1 : (xa : Int) < (j : Int) := by omega
      have hA0 : (0 : Int) ≤ (xa : Int) := by omega
      have hB1 : (xb : Int) < (j : Int) := by omega
      have hB0 : (0 : Int) ≤ (xb : Int) := by omega
      have hC1' : (xc : Int) < (j : Int) := by omega
      have hC0 : (0 : Int) ≤ (xc : Int) := by omega
      have hN1 : (xb : Int) < (n.nodes.length : Int) := by omega
      clear h21 h22 h1 hev hsx hp1 hp2 hget x1 x2 x3 x4 x5 x6 x7 ho hW hLo hr hva hvb hvc hwb hwid hyb hrok hwy
      go_wp2_with fail
      try rw [eW1]
      clear eW1
      obtain ⟨s0, s1, s2, s3, s4, s5, s6, s7, s8, s9, s10, s11⟩ := SX.out W1 (Gr.refl _)
      clear k0 k1 k2 k3 k4 k5 k6 e0 e1 e2 e3 e4 d0 d1 d2 d3 d4 d5 d6 ga gb gc y1
      refine wp_region_held_drew (S := (fun u => u.cell? ⟨wr.heap.size, 0, none⟩ = some (.int .i64 x.op) ∧ u.cell? ⟨wr.heap.size, 1, none⟩ = some (.int .i64 x.w) ∧ u.cell? ⟨wr.heap.size, 2, none⟩ = some (.int .i64 (xa : Nat)) ∧ u.cell? ⟨wr.heap.size, 3, none⟩ = some (.int .i64 (xb : Nat)) ∧ u.cell? ⟨wr.heap.size, 4, none⟩ = some (.int .i64 (xc : Nat)) ∧ u.cell? ⟨wr.heap.size, 5, none⟩ = some (.int .i64 x.n) ∧ u.cell? ⟨wr.heap.size, 6, none⟩ = some (.int .i64 x.lo) ∧ u.cell? ⟨w.heap.size, 0, none⟩ = some (.slice (some ⟨bb, off, none⟩) n.nodes.length c1) ∧ u.cell? ⟨b1, xa, none⟩ = some (.int .i64 (va : Nat)) ∧ u.cell? ⟨b1, xb, none⟩ = some (.int .i64 (vb : Nat)) ∧ u.cell? ⟨b1, xc, none⟩ = some (.int .i64 (vc : Nat)) ∧ u.cell? ⟨bb, off + xb * 7 + 1, none⟩ = some (.int .i64 (wb : Nat)))) (by kernel_rfl) (SX.out _ (Gr.drew _)) (fun hHeld => ?_)
      refine wpAnyH_take (i := 0) (oi := { dst := some 26, op := Op.move (Operand.tmp 7), type := 42, pos := "ref.go:189", after := #[], guard := none }) (v := ?_) rfl (by kernel_rfl) (by kernel_rfl) (by kernel_rfl) (fun _ _ _ h => h) (Or.inl ⟨by rfl, ?_⟩) hHeld ?_
      case refine_2 => (intro w hSw; (try dsimp only at hSw); go_simp; try (with_reducible rfl))
      try simp only [Act.put, List.setIfInBounds_toArray, List.set_cons_zero, List.set_cons_succ]
      refine wpAnyH_take (i := 1) (oi := { dst := some 27, op := Op.load 53 (Operand.tmp 11), type := 53, pos := "ref.go:189", after := #[], guard := none }) (v := ?_) rfl (by kernel_rfl) (by kernel_rfl) (by kernel_rfl) (fun _ _ _ h => h) (Or.inl ⟨by rfl, ?_⟩) hHeld ?_
      case refine_2 => (intro w hSw; (try dsimp only at hSw); go_simp; try (with_reducible rfl))
      try simp only [Act.put, List.setIfInBounds_toArray, List.set_cons_zero, List.set_cons_succ]
      refine wpAnyH_take (i := 2) (oi := { dst := some 28, op := Op.move (Operand.tmp 7), type := 42, pos := "ref.go:189", after := #[], guard := none }) (v := ?_) rfl (by kernel_rfl) (by kernel_rfl) (by kernel_rfl) (fun _ _ _ h => h) (Or.inl ⟨by rfl, ?_⟩) hHeld ?_
      case refine_2 => (intro w hSw; (try dsimp only at hSw); go_simp; try (with_reducible rfl))
      try simp only [Act.put, List.setIfInBounds_toArray, List.set_cons_zero, List.set_cons_succ]
      refine wpAnyH_take (i := 3) (oi := { dst := some 29, op := Op.fieldAddr 53 (Operand.tmp 11) 2, type := 0, pos := "ref.go:189", after := #[], guard := none }) (v := ?_) rfl (by kernel_rfl) (by kernel_rfl) (by kernel_rfl) (fun _ _ _ h => h) (Or.inl ⟨by rfl, ?_⟩) hHeld ?_
      case refine_2 => (intro w hSw; (try dsimp only at hSw); go_simp; try (with_reducible rfl))
      try simp only [Act.put, List.setIfInBounds_toArray, List.set_cons_zero, List.set_cons_succ]
      refine wpAnyH_take (i := 4) (oi := { dst := some 30, op := Op.load 3 (Operand.tmp 29), type := 3, pos := "ref.go:189", after := #[{ on := 3, ground := Ground.data }], guard := none }) (v := ?_) rfl (by kernel_rfl) (by kernel_rfl) (by kernel_rfl) (fun _ _ _ h => h) (Or.inl ⟨by rfl, ?_⟩) hHeld ?_
      case refine_2 => (intro w hSw; (try dsimp only at hSw); go_simp; try (with_reducible rfl))
      try simp only [Act.put, List.setIfInBounds_toArray, List.set_cons_zero, List.set_cons_succ]
      refine wpAnyH_take (i := 5) (oi := { dst := some 31, op := Op.indexAddr 42 (Operand.tmp 28) (Operand.tmp 30), type := 0, pos := "ref.go:189", after := #[{ on := 2, ground := Ground.data }, { on := 4, ground := Ground.data }], guard := none }) (v := ?_) rfl (by kernel_rfl) (by kernel_rfl) (by kernel_rfl) (fun _ _ _ h => h) (Or.inl ⟨by rfl, ?_⟩) hHeld ?_
      case refine_2 => (intro w hSw; (try dsimp only at hSw); go_simp; try (with_reducible rfl))
      try simp only [Act.put, List.setIfInBounds_toArray, List.set_cons_zero, List.set_cons_succ]
      refine wpAnyH_take (i := 6) (oi := { dst := some 32, op := Op.load 3 (Operand.tmp 31), type := 3, pos := "ref.go:189", after := #[{ on := 5, ground := Ground.data }], guard := none }) (v := ?_) rfl (by kernel_rfl) (by kernel_rfl) (by kernel_rfl) (fun _ _ _ h => h) (Or.inl ⟨by rfl, ?_⟩) hHeld ?_
      case refine_2 => (intro w hSw; (try dsimp only at hSw); go_simp; try (with_reducible rfl))
      try simp only [Act.put, List.setIfInBounds_toArray, List.set_cons_zero, List.set_cons_succ]
      refine wpAnyH_take (i := 7) (oi := { dst := some 33, op := Op.move (Operand.tmp 7), type := 42, pos := "ref.go:189", after := #[], guard := none }) (v := ?_) rfl (by kernel_rfl) (by kernel_rfl) (by kernel_rfl) (fun _ _ _ h => h) (Or.inl ⟨by rfl, ?_⟩) hHeld ?_
      case refine_2 => (intro w hSw; (try dsimp only at hSw); go_simp; try (with_reducible rfl))
      try simp only [Act.put, List.setIfInBounds_toArray, List.set_cons_zero, List.set_cons_succ]
      refine wpAnyH_take (i := 8) (oi := { dst := some 34, op := Op.fieldAddr 53 (Operand.tmp 11) 3, type := 0, pos := "ref.go:189", after := #[], guard := none }) (v := ?_) rfl (by kernel_rfl) (by kernel_rfl) (by kernel_rfl) (fun _ _ _ h => h) (Or.inl ⟨by rfl, ?_⟩) hHeld ?_
      case refine_2 => (intro w hSw; (try dsimp only at hSw); go_simp; try (with_reducible rfl))
      try simp only [Act.put, List.setIfInBounds_toArray, List.set_cons_zero, List.set_cons_succ]
      refine wpAnyH_take (i := 9) (oi := { dst := some 35, op := Op.load 3 (Operand.tmp 34), type := 3, pos := "ref.go:189", after := #[{ on := 8, ground := Ground.data }], guard := none }) (v := ?_) rfl (by kernel_rfl) (by kernel_rfl) (by kernel_rfl) (fun _ _ _ h => h) (Or.inl ⟨by rfl, ?_⟩) hHeld ?_
      case refine_2 => (intro w hSw; (try dsimp only at hSw); go_simp; try (with_reducible rfl))
      try simp only [Act.put, List.setIfInBounds_toArray, List.set_cons_zero, List.set_cons_succ]
      refine wpAnyH_take (i := 10) (oi := { dst := some 36, op := Op.indexAddr 42 (Operand.tmp 33) (Operand.tmp 35), type := 0, pos := "ref.go:189", after := #[{ on := 7, ground := Ground.data }, { on := 9, ground := Ground.data }], guard := none }) (v := ?_) rfl (by kernel_rfl) (by kernel_rfl) (by kernel_rfl) (fun _ _ _ h => h) (Or.inl ⟨by rfl, ?_⟩) hHeld ?_
      case refine_2 => (intro w hSw; (try dsimp only at hSw); go_simp; try (with_reducible rfl))
      try simp only [Act.put, List.setIfInBounds_toArray, List.set_cons_zero, List.set_cons_succ]
      refine wpAnyH_take (i := 11) (oi := { dst := some 37, op := Op.load 3 (Operand.tmp 36), type := 3, pos := "ref.go:189", after := #[{ on := 10, ground := Ground.data }], guard := none }) (v := ?_) rfl (by kernel_rfl) (by kernel_rfl) (by kernel_rfl) (fun _ _ _ h => h) (Or.inl ⟨by rfl, ?_⟩) hHeld ?_
      case refine_2 => (intro w hSw; (try dsimp only at hSw); go_simp; try (with_reducible rfl))
      try simp only [Act.put, List.setIfInBounds_toArray, List.set_cons_zero, List.set_cons_succ]
      refine wpAnyH_take (i := 12) (oi := { dst := some 38, op := Op.move (Operand.tmp 7), type := 42, pos := "ref.go:189", after := #[], guard := none }) (v := ?_) rfl (by kernel_rfl) (by kernel_rfl) (by kernel_rfl) (fun _ _ _ h => h) (Or.inl ⟨by rfl, ?_⟩) hHeld ?_
      case refine_2 => (intro w hSw; (try dsimp only at hSw); go_simp; try (with_reducible rfl))
      try simp only [Act.put, List.setIfInBounds_toArray, List.set_cons_zero, List.set_cons_succ]
      refine wpAnyH_take (i := 13) (oi := { dst := some 39, op := Op.fieldAddr 53 (Operand.tmp 11) 4, type := 0, pos := "ref.go:189", after := #[], guard := none }) (v := ?_) rfl (by kernel_rfl) (by kernel_rfl) (by kernel_rfl) (fun _ _ _ h => h) (Or.inl ⟨by rfl, ?_⟩) hHeld ?_
      case refine_2 => (intro w hSw; (try dsimp only at hSw); go_simp; try (with_reducible rfl))
      try simp only [Act.put, List.setIfInBounds_toArray, List.set_cons_zero, List.set_cons_succ]
      refine wpAnyH_take (i := 14) (oi := { dst := some 40, op := Op.load 3 (Operand.tmp 39), type := 3, pos := "ref.go:189", after := #[{ on := 13, ground := Ground.data }], guard := none }) (v := ?_) rfl (by kernel_rfl) (by kernel_rfl) (by kernel_rfl) (fun _ _ _ h => h) (Or.inl ⟨by rfl, ?_⟩) hHeld ?_
      case refine_2 => (intro w hSw; (try dsimp only at hSw); go_simp; try (with_reducible rfl))
      try simp only [Act.put, List.setIfInBounds_toArray, List.set_cons_zero, List.set_cons_succ]
      refine wpAnyH_take (i := 15) (oi := { dst := some 41, op := Op.indexAddr 42 (Operand.tmp 38) (Operand.tmp 40), type := 0, pos := "ref.go:189", after := #[{ on := 12, ground := Ground.data }, { on := 14, ground := Ground.data }], guard := none }) (v := ?_) rfl (by kernel_rfl) (by kernel_rfl) (by kernel_rfl) (fun _ _ _ h => h) (Or.inl ⟨by rfl, ?_⟩) hHeld ?_
      case refine_2 => (intro w hSw; (try dsimp only at hSw); go_simp; try (with_reducible rfl))
      try simp only [Act.put, List.setIfInBounds_toArray, List.set_cons_zero, List.set_cons_succ]
      refine wpAnyH_take (i := 16) (oi := { dst := some 42, op := Op.load 3 (Operand.tmp 41), type := 3, pos := "ref.go:189", after := #[{ on := 15, ground := Ground.data }], guard := none }) (v := ?_) rfl (by kernel_rfl) (by kernel_rfl) (by kernel_rfl) (fun _ _ _ h => h) (Or.inl ⟨by rfl, ?_⟩) hHeld ?_
      case refine_2 => (intro w hSw; (try dsimp only at hSw); go_simp; try (with_reducible rfl))
      try simp only [Act.put, List.setIfInBounds_toArray, List.set_cons_zero, List.set_cons_succ]
      refine wpAnyH_take (i := 17) (oi := { dst := some 43, op := Op.fieldAddr 27 (Operand.tmp 3) 0, type := 0, pos := "ref.go:189", after := #[], guard := none }) (v := ?_) rfl (by kernel_rfl) (by kernel_rfl) (by kernel_rfl) (fun _ _ _ h => h) (Or.inl ⟨by rfl, ?_⟩) hHeld ?_
      case refine_2 => (intro w hSw; (try dsimp only at hSw); go_simp; try (with_reducible rfl))
      try simp only [Act.put, List.setIfInBounds_toArray, List.set_cons_zero, List.set_cons_succ]
      refine wpAnyH_take (i := 18) (oi := { dst := some 44, op := Op.load 22 (Operand.tmp 43), type := 22, pos := "ref.go:189", after := #[{ on := 17, ground := Ground.data }], guard := none }) (v := ?_) rfl (by kernel_rfl) (by kernel_rfl) (by kernel_rfl) (fun _ _ _ h => h) (Or.inl ⟨by rfl, ?_⟩) hHeld ?_
      case refine_2 => (intro w hSw; (try dsimp only at hSw); go_simp; try (with_reducible rfl))
      try simp only [Act.put, List.setIfInBounds_toArray, List.set_cons_zero, List.set_cons_succ]
      refine wpAnyH_take (i := 19) (oi := { dst := some 45, op := Op.fieldAddr 53 (Operand.tmp 11) 3, type := 0, pos := "ref.go:189", after := #[], guard := none }) (v := ?_) rfl (by kernel_rfl) (by kernel_rfl) (by kernel_rfl) (fun _ _ _ h => h) (Or.inl ⟨by rfl, ?_⟩) hHeld ?_
      case refine_2 => (intro w hSw; (try dsimp only at hSw); go_simp; try (with_reducible rfl))
      try simp only [Act.put, List.setIfInBounds_toArray, List.set_cons_zero, List.set_cons_succ]
      refine wpAnyH_take (i := 20) (oi := { dst := some 46, op := Op.load 3 (Operand.tmp 45), type := 3, pos := "ref.go:189", after := #[{ on := 19, ground := Ground.data }], guard := none }) (v := ?_) rfl (by kernel_rfl) (by kernel_rfl) (by kernel_rfl) (fun _ _ _ h => h) (Or.inl ⟨by rfl, ?_⟩) hHeld ?_
      case refine_2 => (intro w hSw; (try dsimp only at hSw); go_simp; try (with_reducible rfl))
      try simp only [Act.put, List.setIfInBounds_toArray, List.set_cons_zero, List.set_cons_succ]
      refine wpAnyH_take (i := 21) (oi := { dst := some 47, op := Op.indexAddr 22 (Operand.tmp 44) (Operand.tmp 46), type := 0, pos := "ref.go:189", after := #[{ on := 18, ground := Ground.data }, { on := 20, ground := Ground.data }], guard := none }) (v := ?_) rfl (by kernel_rfl) (by kernel_rfl) (by kernel_rfl) (fun _ _ _ h => h) (Or.inl ⟨by rfl, ?_⟩) hHeld ?_
      case refine_2 => (intro w hSw; (try dsimp only at hSw); go_simp; try (with_reducible rfl))
      try simp only [Act.put, List.setIfInBounds_toArray, List.set_cons_zero, List.set_cons_succ]
      refine wpAnyH_take (i := 22) (oi := { dst := some 48, op := Op.fieldAddr 53 (Operand.tmp 47) 1, type := 0, pos := "ref.go:189", after := #[{ on := 21, ground := Ground.data }], guard := none }) (v := ?_) rfl (by kernel_rfl) (by kernel_rfl) (by kernel_rfl) (fun _ _ _ h => h) (Or.inl ⟨by rfl, ?_⟩) hHeld ?_
      case refine_2 => (intro w hSw; (try dsimp only at hSw); go_simp; try (with_reducible rfl))
      try simp only [Act.put, List.setIfInBounds_toArray, List.set_cons_zero, List.set_cons_succ]
      refine wpAnyH_take (i := 23) (oi := { dst := some 49, op := Op.load 3 (Operand.tmp 48), type := 3, pos := "ref.go:189", after := #[{ on := 22, ground := Ground.data }], guard := none }) (v := ?_) rfl (by kernel_rfl) (by kernel_rfl) (by kernel_rfl) (fun _ _ _ h => h) (Or.inl ⟨by rfl, ?_⟩) hHeld ?_
      case refine_2 => (intro w hSw; (try dsimp only at hSw); go_simp; try (with_reducible rfl))
      try simp only [Act.put, List.setIfInBounds_toArray, List.set_cons_zero, List.set_cons_succ]
      refine wpAnyH_ready (rs := [24]) (by kernel_rfl) (by simp) ?_
      refine AllReadyH.cons (o := { dst := some 50, op := Op.call { callee := Callee.value (Operand.func 52), args := #[Operand.tmp 27, Operand.tmp 32, Operand.tmp 37, Operand.tmp 42, Operand.tmp 49], argTypes := #[53, 3, 3, 3, 3] }, type := 3, pos := "ref.go:189", after := #[{ on := 1, ground := Ground.data }, { on := 6, ground := Ground.data }, { on := 11, ground := Ground.data }, { on := 16, ground := Ground.data }, { on := 23, ground := Ground.data }], guard := none }) rfl (fun K hK => ?_) AllReadyH.nil
      go_simp
      refine (DO.out _).mono ?_
      rintro e u1 ⟨rfl, hu1'⟩
      have hu1 : Gr W1 u1 := Gr.trans (Gr.drew _) hu1'
      refine hK.out _ _ (SX.out _ hu1) (fun hHeld => ?_)
      clear hK K hu1'
      try simp only [Act.put, List.setIfInBounds_toArray, List.set_cons_zero, List.set_cons_succ]
      refine wpAnyH_ready (rs := [25]) (by kernel_rfl) (by simp) ?_
      refine AllReadyH.cons (o := { dst := some 51, op := Op.buildSlice 42 1 #[(0, Operand.tmp 50)], type := 42, pos := "ref.go:189", after := #[{ on := 24, ground := Ground.data }], guard := none }) rfl (fun K hK => ?_) AllReadyH.nil
      go_simp
      refine hK.out _ _ (SX.out _ (Gr.trans hu1 (bel_alloc _ _))) (fun hHeld => ?_)
      clear hK K
      try simp only [Act.put, List.setIfInBounds_toArray, List.set_cons_zero, List.set_cons_succ]
      refine wpAnyH_ready (rs := [26]) (by kernel_rfl) (by simp) ?_
      refine AllReadyH.cons (o := { dst := some 52, op := Op.call { callee := Callee.builtin Builtin.append, args := #[Operand.tmp 26, Operand.tmp 51], argTypes := #[42, 42] }, type := 42, pos := "ref.go:189", after := #[{ on := 0, ground := Ground.data }, { on := 25, ground := Ground.data }, { on := 24, ground := Ground.chain }], guard := none }) rfl (fun K hK => ?_) AllReadyH.nil
      refine step_keeps rfl _ _ rfl HI.out.1 HI.out.2.1 HI.out.2.2.1 HI.out.2.2.2 rfl ((own_gr HO1.out hu1).alloc _) rfl (ad := ⟨u1.heap.size, 0, none⟩) (r := .int .i64 (r : Nat)) (int_new u1 (.int .i64 (r : Nat)) 3) rfl (by omega) (by have h1 := BW1.out.size; have h2 := hu1.size; simp; omega) ?_
      intro v' w3 hown' hgrow3 hkeep
      have HO3 := Lib.hid hown'
      have HB3 := Lib.hid (show Gr W0 w3 from ((Gr.trans HW.out (Gr.trans BW1.out (Gr.trans hu1 (bel_alloc u1 (.cells #[.int .i64 (r : Nat)] 3))))) : Below W0.heap.size W0 _).grown hgrow3 (Gr.trans HW.out (Gr.trans BW1.out (Gr.trans hu1 (bel_alloc _ _)))).size (fun q hq => by cases hq; exact NE.out.2.2.2))
      have HH : (fun u => u.cell? ⟨wr.heap.size, 0, none⟩ = some (.int .i64 x.op) ∧ u.cell? ⟨wr.heap.size, 1, none⟩ = some (.int .i64 x.w) ∧ u.cell? ⟨wr.heap.size, 2, none⟩ = some (.int .i64 (xa : Nat)) ∧ u.cell? ⟨wr.heap.size, 3, none⟩ = some (.int .i64 (xb : Nat)) ∧ u.cell? ⟨wr.heap.size, 4, none⟩ = some (.int .i64 (xc : Nat)) ∧ u.cell? ⟨wr.heap.size, 5, none⟩ = some (.int .i64 x.n) ∧ u.cell? ⟨wr.heap.size, 6, none⟩ = some (.int .i64 x.lo) ∧ u.cell? ⟨w.heap.size, 0, none⟩ = some (.slice (some ⟨bb, off, none⟩) n.nodes.length c1) ∧ u.cell? ⟨b1, xa, none⟩ = some (.int .i64 (va : Nat)) ∧ u.cell? ⟨b1, xb, none⟩ = some (.int .i64 (vb : Nat)) ∧ u.cell? ⟨b1, xc, none⟩ = some (.int .i64 (vc : Nat)) ∧ u.cell? ⟨bb, off + xb * 7 + 1, none⟩ = some (.int .i64 (wb : Nat))) w3 := by
        obtain ⟨q0, q1, q2, q3, q4, q5, q6, q7, q8, q9, q10, q11⟩ := SX.out _ (Gr.trans hu1 (bel_alloc u1 (.cells #[.int .i64 (r : Nat)] 3)))
        exact ⟨hgrow3.cell q0 NE.out.1, hgrow3.cell q1 NE.out.1, hgrow3.cell q2 NE.out.1, hgrow3.cell q3 NE.out.1, hgrow3.cell q4 NE.out.1, hgrow3.cell q5 NE.out.1, hgrow3.cell q6 NE.out.1, hgrow3.cell q7 NE.out.2.1, hkeep _ _ IA.out, hkeep _ _ IB.out, hkeep _ _ IG.out, hgrow3.cell q11 NE.out.2.2.1⟩
      refine hK.out _ _ HH (fun hHeld => ?_)
      clear hK K hown' hgrow3 hkeep HH
      try simp only [Act.put, List.setIfInBounds_toArray, List.set_cons_zero, List.set_cons_succ]
      refine wpAnyH_take (i := 27) (oi := { dst := some 7, op := Op.assign (Operand.tmp 52), type := 42, pos := "ref.go:189", after := #[{ on := 26, ground := Ground.data }, { on := 26, ground := Ground.chain }, { on := 0, ground := Ground.phase }, { on := 1, ground := Ground.phase }, { on := 2, ground := Ground.phase }, { on := 3, ground := Ground.phase }, { on := 4, ground := Ground.phase }, { on := 5, ground := Ground.phase }, { on := 6, ground := Ground.phase }, { on := 7, ground := Ground.phase }, { on := 8, ground := Ground.phase }, { on := 9, ground := Ground.phase }, { on := 10, ground := Ground.phase }, { on := 11, ground := Ground.phase }, { on := 12, ground := Ground.phase }, { on := 13, ground := Ground.phase }, { on := 14, ground := Ground.phase }, { on := 15, ground := Ground.phase }, { on := 16, ground := Ground.phase }, { on := 17, ground := Ground.phase }, { on := 18, ground := Ground.phase }, { on := 19, ground := Ground.phase }, { on := 20, ground := Ground.phase }, { on := 21, ground := Ground.phase }, { on := 22, ground := Ground.phase }, { on := 23, ground := Ground.phase }, { on := 24, ground := Ground.phase }, { on := 25, ground := Ground.phase }, { on := 26, ground := Ground.phase }], guard := none }) (v := ?_) rfl (by kernel_rfl) (by kernel_rfl) (by kernel_rfl) (fun _ _ _ h => h) (Or.inl ⟨by rfl, ?_⟩) hHeld ?_
      case refine_2 => (intro w hSw; (try dsimp only at hSw); go_simp; try (with_reducible rfl))
      try simp only [Act.put, List.setIfInBounds_toArray, List.set_cons_zero, List.set_cons_succ]
      refine wpAnyH_done (by kernel_rfl) ?_ _
      go_wp2_with fail
      go_roundg (gk - 1)
      case measure => have := HJ.out; omega
      case rel => exact ⟨j + 1, by have := HJ.out; omega, by go_num, Lib.hid (by rw [HC1.out]; rfl), Lib.hid (by rw [HC2.out]; rfl), Lib.hid (by rw [HES.out, ofN_snoc, icells_snoc]; exact HO3.out), HB3⟩
    · have hjn : j = n.nodes.length := by omega
      subst hjn
      have HFR := Lib.hid HO.out.lt
      have hrow := ints_of_own HO.out (by rw [ofN_len, evL_len _ _ _ _ (Nat.le_refl _)])
      have HR := Lib.hid hrow
      clear hrow
      go_wp2_with fail
      go_ret
      exact ⟨_, rfl, HR.out, Gr.trans BW.out HW.out, fun b hb => Nat.le_trans BW.out.size (HFR.out b hb).1⟩
end Go.Proofs.Ytmnblcnhbafcpaa
