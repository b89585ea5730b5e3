/-
  places' closure, WALKED: all names of a module, in their order, or some first ones.
-/
import Derived.Test.YtjkaeabnjkhllaaScIter
import Derived.Sort.CutIn
import Derived.Stop.RegionWithIn
namespace Go.Proofs.Ytjkaeabnjkhllaa
open Go.RowKit Go.Shelf
attribute [local go_sem] Oper.semAt_some

theorem wpListIn_load_mid {F : Fence} {n : Nat} {P : Program} {ops : Array Oper} {rest : List Oper} {op : Oper} {a : Act} {w : World} {Q : Exit → Act → World → Prop} (hgd : op.guard = none) (ty : TypeId) (x : Operand) (ho : op.op = .load ty x)
    (b o : Nat) (hx : a.eval x = .pointer (some ⟨b, o, none⟩)) (cs : List Value) (d : TypeDesc) (hc : w.rangeAt b o cs)
    (hu : P.underlying ty = some d) (hd : d.isRow = true) (hi : (P.info? ty).map (·.size) = some cs.length)
    (h : wpListIn F n P ops Q rest (a.put op.dst (.agg cs.toArray)) w) : wpListIn F n P ops Q (op :: rest) a w := by
  refine wpListIn_plain hgd fun K hK => ?_
  unfold Oper.wpIn
  refine ⟨by simp [Oper.about, ho], ?_⟩
  rw [Oper.semAt_plain F _ _ (by rw [ho]; intro c hc'; cases hc')]
  simp [execOp, ho, hx, run_loadAt_mid (P := P) w b o ty cs d hc hu hd hi, Result.andThen]
  exact hK _ _ h
theorem wpListIn_store_mid {F : Fence} {n : Nat} {P : Program} {ops : Array Oper} {rest : List Oper} {op : Oper} {a : Act} {w : World} {Q : Exit → Act → World → Prop} (hgd : op.guard = none) (ty : TypeId) (x y : Operand) (ho : op.op = .store ty x y)
    (b o : Nat) (cells : Array Value) (hx : a.eval x = .pointer (some ⟨b, o, none⟩)) (hy : a.eval y = .agg cells)
    (ht : w.there b o cells.size) (hi : (P.info? ty).map (·.size) = some cells.size) (h1 : cells.all (·.oneCell') = true)
    (h : wpListIn F n P ops Q rest (a.put op.dst undef) (w.setCells b o cells.toList)) : wpListIn F n P ops Q (op :: rest) a w := by
  refine wpListIn_plain hgd fun K hK => ?_
  unfold Oper.wpIn
  refine ⟨by simp [Oper.about, ho], ?_⟩
  rw [Oper.semAt_plain F _ _ (by rw [ho]; intro c hc'; cases hc')]
  simp [execOp, ho, hx, hy, Instr.storeAt, Instr.sureAddr, run_storeVar_mid (P := P) w b o ty cells ht hi h1, Result.andThen]
  exact hK _ _ h

/-- a new box, filled whole -/
theorem wpListIn_store_new {F : Fence} {n : Nat} {P : Program} {ops : Array Oper} {rest : List Oper} {op : Oper} {a : Act} {w0 : World} {z : Array Value} {Q : Exit → Act → World → Prop} (hgd : op.guard = none) (ty : TypeId) (x y : Operand) (ho : op.op = .store ty x y)
    (cs : List Value) (hx : a.eval x = .pointer (some ⟨w0.heap.size, 0, none⟩)) (hy : a.eval y = .agg cs.toArray) (hz : z.size = cs.length) (hi : (P.info? ty).map (·.size) = some cs.toArray.size) (h1 : cs.toArray.all (·.oneCell') = true)
    (h : ∀ V, Gr w0 V → V.heap[w0.heap.size]? = some (.cells cs.toArray ty (0, 0)) → wpListIn F n P ops Q rest (a.put op.dst undef) V) : wpListIn F n P ops Q (op :: rest) a (w0.alloc (.cells z ty)) :=
  wpListIn_store_mid hgd ty x y ho w0.heap.size 0 cs.toArray hx hy (by have h := there_all (new_at w0 (.cells z ty)); rw [hz] at h; simpa using h) hi h1
    (h _ (gr_sets (Nat.le_refl _) _ _ _ (Gr.alloc _ _)) (put_all (new_at w0 (.cells z ty)) hz.symm))

/-- how a round ends -/
def YRet (J Jx : List Pl → World → Prop) (n : Nat) (W : World) (xs : List Pl) (e : Ending) (W' : World) : Prop := ∃ r, e = .returned (.bool r) ∧ (r = true → J xs W' ∧ Kn n W W') ∧ (r = false → Jx xs W')
theorem yret {J Jx : List Pl → World → Prop} {n : Nat} {W W' : World} {xs : List Pl} {e : Ending} (h : (e = .returned (.bool true) ∧ J xs W' ∧ Kn n W W') ∨ (e = .returned (.bool false) ∧ Jx xs W')) : YRet J Jx n W xs e W' := by
  rcases h with ⟨rfl, h1, h2⟩ | ⟨rfl, h1⟩
  · exact ⟨true, rfl, fun _ => ⟨h1, h2⟩, (fun h => by cases h)⟩
  · exact ⟨false, rfl, (fun h => by cases h), fun _ => h1⟩

set_option maxRecDepth 100000 in
set_option maxHeartbeats 4000000 in
theorem places1_stops (n : Nat) (hn : 3 ≤ n) (Bn : Nat) (m : Mo) (pv qv iv : Value) (w : World) (hB : Bn < w.heap.size) (hc : ∀ (j : Nat) (v : Value), [Value.string m.name, pv, qv, iv][j]? = some v → w.cell? ⟨Bn, j, none⟩ = some v) (hm : Hid (MoAt w m [.string m.name, pv, qv, iv])) :
    SeqStopsK Fence.wide n Try.prog 51 #[.pointer (some ⟨Bn, 0, none⟩)] plVals (Kn w.heap.size) (fun ys => ys = placesOf m) (fun pre => pre <+: placesOf m) (placesOf m).length w := fun l J Jx W hW hJ hJx hY h0 => by
  obtain ⟨p, q, i, e, m1, m2, css, m3, hcl, hcs⟩ := hm.out
  simp at e
  obtain ⟨rfl, rfl, rfl⟩ := e
  have hgW : Kn w.heap.size w W := Kn.of_gr (gr_of hW)
  obtain ⟨pA, pC, rfl⟩ := m1.form
  obtain ⟨qA, qC, rfl⟩ := m2.form
  obtain ⟨iA, iC, rfl⟩ := m3.form
  have l1 : m.params.length ≤ maxLen := by have := m1.1; simpa using this
  have l2 : m.ports.length ≤ maxLen := by have := m2.1; simpa using this
  have l3 : css.length ≤ maxLen := m3.1
  unfold maxLen at l1 l2 l3
  simp only [List.length_map] at *
  have AT := Lib.hid (show ∀ u, Kn w.heap.size w u → (u.cell? ⟨Bn, 1, none⟩ = some (.slice pA m.params.length pC) ∧ u.cell? ⟨Bn, 2, none⟩ = some (.slice qA m.ports.length qC) ∧ u.cell? ⟨Bn, 3, none⟩ = some (.slice iA css.length iC)) from fun u hu => ⟨hu.2.1 _ _ _ hB (hc 1 _ rfl), hu.2.1 _ _ _ hB (hc 2 _ rfl), hu.2.1 _ _ _ hB (hc 3 _ rfl)⟩)
  have HM1 := Lib.hid m1
  have HM2 := Lib.hid m2
  have HM3 := Lib.hid (And.intro m3 (And.intro hcl hcs))
  have HW := Lib.hid hgW
  have HJ := Lib.hid (And.intro hJ hJx)
  have HY := Lib.hid hY
  have H0 := Lib.hid h0
  clear m1 m2 m3 hcl hcs hgW hJ hJx hY h0 hc hm hW
  obtain ⟨c1, c2, c3⟩ := AT.out W HW.out
  refine callsIn_of_wp Try.func51 rfl trivial ?_ rfl
  simp only [Try.ntmps51, List.size_toArray, List.length_cons, List.length_nil, Nat.reduceAdd, Nat.reduceSub, Array.replicate_succ, Array.replicate_zero, List.push_toArray, List.append_toArray, List.nil_append, List.cons_append]
  gi_wp2
  gi_loopw [13] (fun i wr => ∃ k : Nat, k ≤ m.params.length ∧ i = .int .i64 (k : Nat) ∧ Hid (J ((parPl m.params 0).take k) wr ∧ Kn w.heap.size w wr)) (fun i _ => m.params.length - (intOf i).toNat)
  case atStart => exact ⟨0, Nat.zero_le _, rfl, Lib.hid ⟨H0.out, HW.out⟩⟩
  case round =>
    obtain ⟨k, hk, rfl, HR⟩ := hrel
    by_cases hlt : k < m.params.length
    · obtain ⟨s, hs⟩ : ∃ s, m.params[k]? = some s := ⟨_, List.getElem?_eq_getElem hlt⟩
      obtain ⟨g, o, rfl, hg, hr⟩ := (HM1.out.kn HR.out.2).at (j := k) (c := [.string s]) (by simp [hs])
      have c0 := hr 0 _ rfl
      rw [Nat.mul_one, Nat.add_zero] at c0
      obtain ⟨fn, tmps, assign, body, hy, hR⟩ := HY.out _ (s, 1, k) wr HR.out.1 (by rw [List.length_take, parPl_len, placesOf, List.length_append, parPl_len]; omega)
      dsimp only [plVals] at hy
      have HS := Lib.hid hs
      have hd1 : (k : Int) < (m.params.length : Int) := by omega
      have hd0 : (0 : Int) ≤ (k : Int) := by omega
      clear hs hr
      replace hy : Sem.run Try.prog (Instr.yield l #[Value.string s, Value.agg #[Value.int .i64 1, Value.int .i64 (k : Nat)]]) wr = _ := hy
      gi_wp2
      refine ⟨fun _ => by omega, hR.mono ?_⟩
      rintro e W3 (⟨rfl, hJ3, hk3⟩ | ⟨rfl, hJx3⟩)
      · have H3 := Lib.hid (And.intro hJ3 hk3)
        clear hJ3 hk3
        gi_wp2
        go_roundw
        case rel => exact ⟨k + 1, by omega, by go_num, Lib.hid ⟨by rw [parPl_take HS.out]; exact H3.out.1, HR.out.2.trans H3.out.2⟩⟩
        case measure => simp [intOf]; omega
      · have H3 := Lib.hid hJx3
        clear hJx3
        gi_wp2
        refine bodyPost_ret (results_none rfl _ _ _) rfl ?_
        refine ⟨⟨_, rfl⟩, .inr ⟨_, ?_, H3.out⟩⟩
        rw [← parPl_take HS.out, placesOf]
        exact (List.take_prefix _ _).trans (List.prefix_append _ _)
    · obtain rfl : k = m.params.length := by omega
      have hd1 : ¬ ((m.params.length : Int) < (m.params.length : Int)) := by omega
      have HR1 := Lib.hid (show J (parPl m.params 0) wr ∧ Kn w.heap.size w wr by have h := HR.out; rw [List.take_of_length_le (by rw [parPl_len]; exact Nat.le_refl _)] at h; exact h)
      clear HR
      obtain ⟨c1, c2, c3⟩ := AT.out wr HR1.out.2
      gi_wp2
      clear c1 c2 c3
      gi_loopw [28] (fun i wr => ∃ k : Nat, k ≤ m.ports.length ∧ i = .int .i64 (k : Nat) ∧ Hid (J (parPl m.params 0 ++ (porPl m.ports 0).take k) wr ∧ Kn w.heap.size w wr)) (fun i _ => m.ports.length - (intOf i).toNat)
      case atStart => exact ⟨0, Nat.zero_le _, rfl, Lib.hid ⟨by simpa using HR1.out.1, HR1.out.2⟩⟩
      case round =>
        obtain ⟨k, hk, rfl, HR⟩ := hrel
        by_cases hlt : k < m.ports.length
        · obtain ⟨p, hp⟩ : ∃ p, m.ports[k]? = some p := ⟨_, List.getElem?_eq_getElem hlt⟩
          obtain ⟨g, o, rfl, hg, hr⟩ := (HM2.out.kn HR.out.2).at (j := k) (c := portCells p) (by simp [hp])
          have c0 := hr 0 _ rfl
          have c1 := hr 1 _ rfl
          have c2 := hr 2 _ rfl
          have c3 := hr 3 _ rfl
          rw [Nat.add_zero] at c0
          have HP := Lib.hid hp
          have hd1 : (k : Int) < (m.ports.length : Int) := by omega
          have hd0 : (0 : Int) ≤ (k : Int) := by omega
          clear hp hr
          gi_upto_region 8 with fail
          obtain ⟨kd, hkd⟩ : ∃ kd : Nat, kd = if p.1 then 2 else 3 := ⟨_, rfl⟩
          obtain ⟨V, eV, GV, CV⟩ : ∃ V, wr.alloc (.cells #[.bool p.1, .string p.2.1, .string p.2.2.1, .int .i64 p.2.2.2] 59) = V ∧ Hid (Gr wr V) ∧ Hid (V.heap[wr.heap.size]? = some (.cells #[.bool p.1, .string p.2.1, .string p.2.2.1, .int .i64 p.2.2.2] 59 (0, 0))) := ⟨_, rfl, Lib.hid (Gr.alloc _ _), Lib.hid (new_at _ _)⟩
          rw [eV]
          have BX := Lib.hid (show ∀ u, Gr V u → (u.cell? ⟨wr.heap.size, 0, none⟩ = some (.bool p.1) ∧ u.cell? ⟨wr.heap.size, 1, none⟩ = some (.string p.2.1) ∧ u.cell? ⟨wr.heap.size, 2, none⟩ = some (.string p.2.2.1) ∧ u.cell? ⟨wr.heap.size, 3, none⟩ = some (.int .i64 p.2.2.2)) from fun u hu => ⟨by rw [cell_at (hu.keep CV.out)]; rfl, by rw [cell_at (hu.keep CV.out)]; rfl, by rw [cell_at (hu.keep CV.out)]; rfl, by rw [cell_at (hu.keep CV.out)]; rfl⟩)
          have PK := Lib.hid (show ∀ u, CallsIn Fence.wide (n - 1) Try.prog 52 #[.agg #[.bool p.1, .string p.2.1, .string p.2.2.1, .int .i64 p.2.2.2]] u (fun e w' => e = .returned (.int .i64 (kd : Nat)) ∧ Gr u w') from fun u => callsIn_wide.2 (by rw [hkd]; exact portKind_any p u))
          have YY := Lib.hid (show ∀ u, Gr V u → YieldAt Fence.wide (n - 1) Try.prog l #[.string p.2.1, .agg #[.int .i64 (kd : Nat), .int .i64 (k : Nat)]] u (YRet J Jx w.heap.size u (parPl m.params 0 ++ (porPl m.ports 0).take (k + 1))) from fun u hu => by
            obtain ⟨fn, tmps, assign, body, hy, hR⟩ := HY.out _ (p.2.1, kd, k) u (HJ.out.1 _ _ _ none HR.out.1 (GV.out.trans hu) (fun r h => by cases h)) (by rw [List.length_append, List.length_take, parPl_len, porPl_len, placesOf, List.length_append, List.length_append, parPl_len, porPl_len]; omega)
            refine ⟨fn, tmps, assign, body, hy, hR.mono fun e W' h => ?_⟩
            rw [porPl_take HP.out, ← hkd, ← List.append_assoc]
            exact yret h)
          have d := BX.out (V.drew) (Gr.drew _)
          obtain ⟨d0, d1, d2, d3⟩ := d
          clear eV c0 c1 c2 c3 hkd
          gi_region_with (first
            | (refine ⟨trivial, fun _ => by omega, (PK.out _).mono ?_⟩; rintro e w2 ⟨rfl, hg⟩; have G2 := Lib.hid ((Gr.drew V).trans hg); obtain ⟨f0, f1, f2, f3⟩ := BX.out w2 G2.out; obtain ⟨fn, tmps, assign, body, hy, hR⟩ := YY.out w2 G2.out; clear hg)
            | (refine ⟨fun _ => by omega, hR.mono ?_⟩; rintro e W3 ⟨r, rfl, hr1, hr2⟩; have HRR := Lib.hid (And.intro hr1 hr2); clear hr1 hr2))
          all_goals
            rcases r with _ | _
            · have H3 := Lib.hid (HRR.out.2 rfl)
              clear HRR hR hy d0 d1 d2 d3 f0 f1 f2 f3
              gi_wp2
              refine bodyPost_ret (results_none rfl _ _ _) rfl ?_
              exact ⟨⟨_, rfl⟩, .inr ⟨_, (List.prefix_append_right_inj _).2 ((List.take_prefix _ _).trans (List.prefix_append _ _)), H3.out⟩⟩
            · have H3 := Lib.hid (HRR.out.1 rfl)
              clear HRR hR hy d0 d1 d2 d3 f0 f1 f2 f3
              gi_wp2
              go_roundw
              case rel => exact ⟨k + 1, by omega, by go_num, Lib.hid ⟨H3.out.1, (HR.out.2.trans (Kn.of_gr (GV.out.trans G2.out))).trans H3.out.2⟩⟩
              case measure => simp [intOf]; omega
        · obtain rfl : k = m.ports.length := by omega
          have hd1 : ¬ ((m.ports.length : Int) < (m.ports.length : Int)) := by omega
          have HR2 := Lib.hid (show J (parPl m.params 0 ++ porPl m.ports 0) wr ∧ Kn w.heap.size w wr by have h := HR.out; rw [List.take_of_length_le (by rw [porPl_len]; exact Nat.le_refl _)] at h; exact h)
          clear HR
          obtain ⟨c1, c2, c3⟩ := AT.out wr HR2.out.2
          gi_wp2
          clear c1 c2 c3
          gi_loopw [46] (fun i wr => ∃ k : Nat, k ≤ css.length ∧ i = .int .i64 (k : Nat) ∧ Hid (J (parPl m.params 0 ++ porPl m.ports 0 ++ itmPl (m.items.take k) 0) wr ∧ Kn w.heap.size w wr)) (fun i _ => css.length - (intOf i).toNat)
          case atStart => exact ⟨0, Nat.zero_le _, rfl, Lib.hid ⟨by simpa [itmPl] using HR2.out.1, HR2.out.2⟩⟩
          case round =>
            obtain ⟨k, hk, rfl, HR⟩ := hrel
            by_cases hlt : k < css.length
            · obtain ⟨x, hx⟩ : ∃ x, m.items[k]? = some x := ⟨_, List.getElem?_eq_getElem (by rw [← HM3.out.2.1]; exact hlt)⟩
              obtain ⟨cs, hcs, hit⟩ := HM3.out.2.2 k x hx
              obtain ⟨g, o, rfl, hg, hr⟩ := (HM3.out.1.kn HR.out.2).at hcs
              have HX := Lib.hid hx
              have HR42 := Lib.hid hr
              have hl42 := it_len hit
              have HIT := Lib.hid hit
              have HS := Lib.hid (show (Try.prog.info? 49).map (·.size) = some cs.length by rw [size49, hl42])
              have hd1 : (k : Int) < (css.length : Int) := by omega
              have hd0 : (0 : Int) ≤ (k : Int) := by omega
              clear hx hcs hit hr hl42
              have HO := Lib.hid (it_one HIT.out)
              have HL := Lib.hid (it_len HIT.out)
              have HS' := Lib.hid (show (Try.prog.info? 49).map (·.size) = some cs.toArray.size by rw [size49, List.size_toArray, it_len HIT.out])
              gi_upto_region 13 with (first
                | (refine wpListIn_load_mid rfl 49 _ rfl g (o + k * 42) rfl cs _ HR42.out Try.underlying49 rfl HS.out ?_)
                | (refine wpListIn_store_new rfl 49 _ _ rfl cs rfl rfl HL.out.symm HS'.out HO.out ?_; intro V hGV hCV; have GV := Lib.hid hGV; have CV := Lib.hid hCV; clear hGV hCV))
              have HRV := Lib.hid (range_of CV.out)
              have IK := Lib.hid (show ∀ u, CallsIn Fence.wide (n - 1) Try.prog 53 #[.agg cs.toArray] u (fun e w' => e = .returned (.int .i64 (itemKind x.kind : Nat)) ∧ Gr u w') from fun u => callsIn_wide.2 (itemKind_any cs x.kind u (Lib.hid (it_kind HIT.out))))
              have YY := Lib.hid (show ∀ u, Gr V u → itemKind x.kind ≠ 0 → YieldAt Fence.wide (n - 1) Try.prog l #[.string x.name, .agg #[.int .i64 (itemKind x.kind : Nat), .int .i64 (k : Nat)]] u (YRet J Jx w.heap.size u (parPl m.params 0 ++ porPl m.ports 0 ++ itmPl (m.items.take (k + 1)) 0)) from fun u hu hne => by
                have hpre : parPl m.params 0 ++ porPl m.ports 0 ++ itmPl (m.items.take (k + 1)) 0 <+: placesOf m := by
                  rw [placesOf, List.append_assoc]
                  exact (List.prefix_append_right_inj _).2 ((List.prefix_append_right_inj _).2 (itmPl_pre _ _))
                rw [itmPl_take HX.out, if_neg hne, ← List.append_assoc] at hpre ⊢
                have hlen := hpre.length_le
                rw [List.length_append, List.length_singleton] at hlen
                obtain ⟨fn, tmps, assign, body, hy, hR⟩ := HY.out _ (x.name, itemKind x.kind, k) u (HJ.out.1 _ _ _ none HR.out.1 (GV.out.trans hu) (fun r h => by cases h)) (by omega)
                exact ⟨fn, tmps, assign, body, hy, hR.mono fun e W' h => yret h⟩)
              have NM := Lib.hid (show ∀ u, Gr V u → u.cell? ⟨wr.heap.size, 1, none⟩ = some (.string x.name) from fun u hu => by rw [cell_at (hu.keep CV.out)]; simpa using it_name HIT.out)
              simp only [Act.put]
              gi_upto_region 14 with (first
                | (refine wpListIn_load_mid rfl 49 _ rfl wr.heap.size 0 rfl cs _ HRV.out Try.underlying49 rfl HS.out ?_)
                | (refine ⟨trivial, fun _ => by omega, (IK.out _).mono ?_⟩; rintro e w2 ⟨rfl, hg⟩; have G2 := Lib.hid hg; clear hg))
              have NX := Lib.hid (itmPl_take HX.out)
              obtain ⟨kd, hkd⟩ : ∃ kd, itemKind x.kind = kd := ⟨_, rfl⟩
              rw [hkd] at YY NX ⊢
              clear hkd IK HRV
              by_cases hz : kd = 0
              · subst hz
                gi_wp2
                refine ⟨fun _ h => (by cases h), ?_⟩
                gi_wp2
                go_roundw
                case rel => exact ⟨k + 1, by omega, by go_num, Lib.hid ⟨by rw [NX.out]; simp only [if_true, List.append_nil]; exact HJ.out.1 _ _ _ none HR.out.1 (GV.out.trans G2.out) (fun r h => by cases h), HR.out.2.trans (Kn.of_gr (GV.out.trans G2.out))⟩⟩
                case measure => simp [intOf]; omega
              · have q : ((kd : Int) != 0) = true := by simp; omega
                have c1 := NM.out w2 G2.out
                obtain ⟨fn, tmps, assign, body, hy, hR⟩ := YY.out w2 G2.out hz
                gi_wp2
                refine ⟨fun _ => by omega, hR.mono ?_⟩
                rintro e W3 ⟨r, rfl, hr1, hr2⟩
                have HRR := Lib.hid (And.intro hr1 hr2)
                clear hr1 hr2
                rcases r with _ | _
                · have H3 := Lib.hid (HRR.out.2 rfl)
                  clear HRR hR hy c1
                  gi_wp2
                  refine bodyPost_ret (results_none rfl _ _ _) rfl ?_
                  refine ⟨⟨_, rfl⟩, .inr ⟨_, ?_, H3.out⟩⟩
                  rw [placesOf, List.append_assoc]
                  exact (List.prefix_append_right_inj _).2 ((List.prefix_append_right_inj _).2 (itmPl_pre _ _))
                · have H3 := Lib.hid (HRR.out.1 rfl)
                  clear HRR hR hy c1
                  gi_wp2
                  go_roundw
                  case rel => exact ⟨k + 1, by omega, by go_num, Lib.hid ⟨H3.out.1, (HR.out.2.trans (Kn.of_gr (GV.out.trans G2.out))).trans H3.out.2⟩⟩
                  case measure => simp [intOf]; omega
            · obtain rfl : k = css.length := by omega
              have hd1 : ¬ ((css.length : Int) < (css.length : Int)) := by omega
              gi_wp2
              go_end0
              refine ⟨⟨_, rfl⟩, .inl ?_⟩
              have h := HR.out.1
              rw [HM3.out.2.1, List.take_length, List.append_assoc] at h
              first | exact h | exact ⟨_, rfl, h⟩
end Go.Proofs.Ytjkaeabnjkhllaa
