/-
  MODULES AND DESIGNS THAT CAME IN.
-/
import Derived.Test.YtjkaeabnjkhllaaScFis
import Derived.Test.YtjkaeabnjkhllaaRows
import Derived.WalkKit
import Derived.ProofKit
import Derived.OpenShut
import Derived.Deep.Grids
import Derived.Deep.Slices
namespace Go.Proofs.Ytjkaeabnjkhllaa
open Go.RowKit Go.Deep

theorem own : ownKnob Try.prog.godebug = none := by kernel_rfl
theorem laidOut : laidOutB Try.prog = true := by kernel_rfl
theorem cells3 : Try.prog.cellsOf 3 = 1 := by kernel_rfl
theorem cells4 : Try.prog.cellsOf 4 = 1 := by kernel_rfl
theorem cells9 : Try.prog.cellsOf 9 = 1 := by kernel_rfl
theorem cells42 : Try.prog.cellsOf 42 = 2 := by kernel_rfl
theorem cells47 : Try.prog.cellsOf 47 = 11 := by kernel_rfl
theorem cells49 : Try.prog.cellsOf 49 = 42 := by kernel_rfl
theorem cells59 : Try.prog.cellsOf 59 = 4 := by kernel_rfl
theorem cells64 : Try.prog.cellsOf 64 = 12 := by kernel_rfl
theorem cells34 : Try.prog.cellsOf 34 = 4 := by kernel_rfl
theorem cells24 : Try.prog.cellsOf 24 = 1 := by kernel_rfl
theorem cells22 : Try.prog.cellsOf 22 = 1 := by kernel_rfl
theorem cells30 : Try.prog.cellsOf 30 = 1 := by kernel_rfl
theorem cells31 : Try.prog.cellsOf 31 = 1 := by kernel_rfl
theorem cells32 : Try.prog.cellsOf 32 = 1 := by kernel_rfl
theorem cells43 : Try.prog.cellsOf 43 = 1 := by kernel_rfl
theorem cells44 : Try.prog.cellsOf 44 = 1 := by kernel_rfl
theorem cells45 : Try.prog.cellsOf 45 = 1 := by kernel_rfl
theorem list_choice {α β : Type} {R : β → α → Prop} : ∀ l : List β, (∀ (i : Nat) (c : β), l[i]? = some c → ∃ t, R c t) → ∃ ts : List α, ts.length = l.length ∧ ∀ (j : Nat) (t : α) (c : β), ts[j]? = some t → l[j]? = some c → R c t
  | [], _ => ⟨[], rfl, fun j t c h => by simp at h⟩
  | b :: r, h => by
    obtain ⟨t, ht⟩ := h 0 b rfl
    obtain ⟨ts, h1, h2⟩ := list_choice r (fun i c hc => h (i + 1) c hc)
    refine ⟨t :: ts, by simp [h1], fun j t' c hj hc => ?_⟩
    cases j with
    | zero =>
      simp at hj hc
      subst hj hc
      exact ht
    | succ j => exact h2 j t' c (by simpa using hj) (by simpa using hc)
theorem weights_all {H : Type} {P : Program} {e : TypeId} {l : List (DataW H)} {y : DataW H} (hy : y ∈ l) : ∀ q ∈ DataW.weights P e y, q ∈ DataW.weightsAll P e l := by
  induction l with
  | nil => cases hy
  | cons z r ih =>
    intro q hq
    rw [DataW.weightsAll]
    rcases List.mem_cons.1 hy with rfl | h
    · exact List.mem_append_left _ hq
    · exact List.mem_append_right _ (ih h q hq)
theorem weights_each {H : Type} {P : Program} : ∀ (ts : List TypeId) (ds : List (DataW H)) (i : Nat) (t : TypeId) (d : DataW H), ts[i]? = some t → ds[i]? = some d → ∀ q ∈ DataW.weights P t d, q ∈ DataW.weightsEach P ts ds
  | [], _, _, _, _, h, _ => by simp at h
  | _ :: _, [], _, _, _, _, h => by simp at h
  | t :: ts, d :: ds, 0, t', d', h1, h2 => fun q hq => by
    simp at h1 h2
    subst h1 h2
    rw [DataW.weightsEach]
    exact List.mem_append_left _ hq
  | t :: ts, d :: ds, i + 1, t', d', h1, h2 => fun q hq => by
    rw [DataW.weightsEach]
    exact List.mem_append_right _ (weights_each ts ds i t' d' (by simpa using h1) (by simpa using h2) q hq)
section
variable {H : Type} {enc : TypeId × Value → H} {w : World} {held : Bool}
/-- none of its places is frozen, and it has no more bytes than there are -/
def OkD (w : World) (t : TypeId) (x : DataW H × List MemPlace) : Prop := w.noneFrozen x.2 ∧ ∀ q ∈ DataW.weights Try.prog t x.1, q ≤ reachBytes
theorem ok_part {t : TypeId} {fs : Array Field} (hu : Try.prog.underlying t = some (.struct fs)) {xs : List (DataW H × List MemPlace)} (h : OkD w t (.agg (xs.map (·.1)), xs.flatMap (·.2))) {i : Nat} {f : Field} {y : DataW H × List MemPlace} (hf : fs[i]? = some f) (hy : xs[i]? = some y) : OkD w f.type y := by
  refine ⟨fun b o hb => h.1 b o (List.mem_flatMap.2 ⟨y, List.mem_of_getElem? hy, hb⟩), fun q hq => h.2 q ?_⟩
  rw [DataW.weights, hu]
  exact weights_each _ _ i f.type y.1 (by simp [hf]) (by simp [hy]) q hq
theorem ok_str {s : ByteArray} {l : List MemPlace} (h : OkD (H := H) w 9 (.lit (.string s.data.toList), l)) : s.size ≤ reachBytes := by
  have h1 := h.2 s.data.toList.length (by rw [DataW.weights]; simp)
  have h3 : s.size = s.data.toList.length := by rw [Array.length_toList]; rfl
  rw [h3]
  exact h1
theorem row_read {t e : TypeId} {k : Nat} (hu : Try.prog.underlying t = some (.slice e)) (hce : Try.prog.cellsOf e = k) (hk : 0 < k) {fuel : Nat} {cs : List Value} {x : DataW H × List MemPlace}
    (h : DataW.trod enc Try.prog w 0 (fun _ => true) held fuel t cs = some x) (hok : OkD w t x) :
    ∃ (A : Option Addr) (cap : Nat) (css : List (List Value)), cs = [.slice A css.length cap] ∧ RowC w k (.slice A css.length cap) css ∧
      ∃ n, n ≤ fuel ∧ ∀ (i : Nat) (c : List Value), css[i]? = some c → ∃ y, DataW.trod enc Try.prog w 0 (fun _ => true) held n e c = some y ∧ OkD w e y := by
  rcases DataW.trod_slice hu h with ⟨rfl, _⟩ | ⟨a, len, cap, elems, rest, n, rfl, rfl, rfl, _, hl, hm, hlen, hel, _, _⟩
  · exact ⟨none, 0, [], rfl, RowC.nil w k, fuel, Nat.le_refl _, fun i c hc => by simp at hc⟩
  · have hT : ∀ i, i < len → ∃ cs', w.cells? 0 (a.add (i * k)) k = some cs' ∧ ∃ y, elems[i]? = some y ∧ DataW.trod enc Try.prog w 0 (fun _ => true) held n e cs' = some y := fun i hi => by
      have h1 := hel i hi
      rw [hce] at h1
      rw [List.getElem?_eq_getElem (by omega)] at h1
      obtain ⟨cs', e1, e2⟩ := Option.bind_eq_some_iff.1 h1
      exact ⟨cs', e1, _, List.getElem?_eq_getElem (by omega), e2⟩
    obtain ⟨css, c1, c2⟩ := list_choice (R := fun (i : Nat) (cs' : List Value) => w.cells? 0 (a.add (i * k)) k = some cs' ∧ ∃ y, elems[i]? = some y ∧ DataW.trod enc Try.prog w 0 (fun _ => true) held n e cs' = some y) (List.range len) (fun i c hc => by
      obtain ⟨h1, h2⟩ := List.getElem?_eq_some_iff.1 hc
      simp at h1 h2
      subst h2
      exact hT i h1)
    rw [List.length_range] at c1
    have hat : ∀ (j : Nat) (c : List Value), css[j]? = some c → w.cells? 0 (a.add (j * k)) k = some c ∧ ∃ y, elems[j]? = some y ∧ DataW.trod enc Try.prog w 0 (fun _ => true) held n e c = some y := fun j c hc => by
      have hj := (List.getElem?_eq_some_iff.1 hc).1
      exact c2 j c j hc (by rw [List.getElem?_range (by omega)])
    have hspot : 0 < css.length → a.spot = none := fun h0 => by
      obtain ⟨h1, _⟩ := hat 0 _ (List.getElem?_eq_getElem h0)
      obtain ⟨_, h2, h3⟩ := World.cells?_some h1
      have h4 := h3 0 hk
      rw [List.getElem?_eq_getElem (by omega), Nat.zero_mul] at h4
      simpa [Addr.add] using World.cell?_spot h4
    have hadd : ∀ b o q, (⟨b, o, none⟩ : Addr).add q = ⟨b, o + q, none⟩ := fun b o q => Addr.add_mid b o q
    refine ⟨some a, cap, css, by rw [c1], ⟨by omega, fun c hc => ?_, some a, cap, rfl, by omega, fun j c hc => ?_, fun g o n' c' e hn => ?_⟩, n, by omega, fun i c hc => ?_⟩
    · obtain ⟨j, hj⟩ := List.mem_iff_getElem?.1 hc
      exact (World.cells?_some (hat j c hj).1).2.1
    · have hj := (List.getElem?_eq_some_iff.1 hc).1
      obtain ⟨b, off, spot⟩ := a
      obtain rfl : spot = none := hspot (by omega)
      obtain ⟨_, h2, h3⟩ := World.cells?_some (hat j c hc).1
      have hc2 : w.rangeAt b (off + j * k) c := fun q v hv => by
        have hq := (List.getElem?_eq_some_iff.1 hv).1
        have h4 := h3 q (by omega)
        rw [hadd, hadd] at h4
        rw [h4]
        exact hv
      refine ⟨b, off, rfl, ?_, hc2⟩
      exact World.block_lt_of_cell? _ _ (hc2 0 _ (List.getElem?_eq_getElem (by omega)))
    · simp only [Value.slice.injEq, Option.some.injEq] at e
      obtain ⟨rfl, rfl, rfl⟩ := e
      obtain ⟨h1, _⟩ := hat 0 _ (List.getElem?_eq_getElem hn)
      obtain ⟨_, h2, h3⟩ := World.cells?_some h1
      have h4 := h3 0 hk
      rw [List.getElem?_eq_getElem (by omega), Nat.zero_mul] at h4
      replace h4 : w.cell? ⟨g, o, none⟩ = some css[0][0] := by simpa [Addr.add] using h4
      have hfz := hok.1 g o (by
        refine List.mem_append_left _ (List.mem_map.2 ⟨0, List.mem_range.2 ?_, by simp⟩)
        rw [hce]
        exact Nat.mul_pos (by omega) hk)
      unfold World.frozen? at hfz
      unfold World.cell? at h4
      cases hh : w.heap[g]? with
      | none => simp [hh] at h4
      | some ob =>
        cases ob with
        | cells cs t z => exact ⟨cs, t, z, rfl, by simpa [hh] using hfz⟩
        | _ => simp [hh] at h4
    · obtain ⟨_, y, hy, ht⟩ := hat i c hc
      refine ⟨y, ht, fun b o hb => hok.1 b o (List.mem_append_right _ (List.mem_flatMap.2 ⟨y, List.mem_append_left _ (List.mem_of_getElem? hy), hb⟩)), fun q hq => hok.2 q ?_⟩
      rw [DataW.weights, hu]
      exact List.mem_cons_of_mem _ (List.mem_append_left _ (weights_all (List.mem_map.2 ⟨y, List.mem_of_getElem? hy, rfl⟩) q hq))
theorem cut_at (cs : List Value) (o a b : Nat) (h : o + a = b) : cs.drop o = (cs.drop o).take a ++ cs.drop b := by
  subst h
  have h1 := (List.take_append_drop a (cs.drop o)).symm
  rw [List.drop_drop] at h1
  exact h1
theorem cut_end (cs : List Value) (o a : Nat) (h : cs.length ≤ o + a) : cs.drop o = (cs.drop o).take a := (List.take_of_length_le (by rw [List.length_drop]; omega)).symm
theorem map_of_choice {α : Type} {f : α → List Value} : ∀ {css : List (List Value)} {ds : List α}, ds.length = css.length → (∀ (j : Nat) (d : α) (c : List Value), ds[j]? = some d → css[j]? = some c → c = f d) → css = ds.map f
  | [], [], _, _ => rfl
  | [], _ :: _, h, _ => by simp at h
  | _ :: _, [], h, _ => by simp at h
  | c :: r, d :: s, h, hh => by
    rw [List.map_cons, ← hh 0 d c rfl rfl, ← map_of_choice (css := r) (ds := s) (by simpa using h) (fun j d' c' h1 h2 => hh (j + 1) d' c' (by simpa using h1) (by simpa using h2))]
theorem mem_pair {α β : Type} {l : List α} {m : List β} (h : l.length = m.length) {x : α} (hx : x ∈ l) : ∃ (j : Nat) (y : β), l[j]? = some x ∧ m[j]? = some y := by
  obtain ⟨j, hj⟩ := List.mem_iff_getElem?.1 hx
  have := (List.getElem?_eq_some_iff.1 hj).1
  exact ⟨j, _, hj, List.getElem?_eq_getElem (by omega)⟩
theorem dim_read {fuel : Nat} {cs : List Value} {x : DataW H × List MemPlace} (h : DataW.trod enc Try.prog w 0 (fun _ => true) held fuel 42 cs = some x) (hok : OkD w 42 x) : ∃ d : Dm, cs = dmCells d ∧ d.1.size ≤ reachBytes := by
  obtain ⟨xs, n, hfu, hx, hcl, hxl, hf⟩ := DataW.trod_struct Try.underlying42 h
  rw [cells42] at hcl
  subst hx
  match xs, hxl with
  | [y0, y1], _ =>
    have hsp : cs = (cs.drop 0).take 1 ++ ((cs.drop 1).take 1) := (show cs = cs.drop 0 from rfl).trans ((cut_at cs 0 1 1 rfl).trans (congrArg ((cs.drop 0).take 1 ++ ·) (cut_end cs 1 1 (by omega))))
    have f0 : DataW.trod enc Try.prog w 0 (fun _ => true) held n 9 ((cs.drop 0).take (Try.prog.cellsOf 9)) = some y0 := hf 0 _ rfl
    rw [cells9] at f0
    have o0 : OkD w 9 y0 := ok_part Try.underlying42 hok (i := 0) rfl rfl
    obtain ⟨a0, e0, r0, _⟩ := DataW.trod_string Try.underlying9 f0
    subst r0
    have z0 := ok_str o0
    rw [e0] at hsp
    have f1 : DataW.trod enc Try.prog w 0 (fun _ => true) held n 3 ((cs.drop 1).take (Try.prog.cellsOf 3)) = some y1 := hf 1 _ rfl
    rw [cells3] at f1
    have o1 : OkD w 3 y1 := ok_part Try.underlying42 hok (i := 1) rfl rfl
    obtain ⟨a1, e1, _, _⟩ := DataW.trod_int Try.underlying3 f1
    rw [e1] at hsp
    exact ⟨(a0, a1), hsp, z0⟩
theorem ex_read : ∀ (fuel : Nat) {cs : List Value} {x : DataW H × List MemPlace} (_ : DataW.trod enc Try.prog w 0 (fun _ => true) held fuel 47 cs = some x) (_ : OkD w 47 x), ∃ t : Ex, ExAt w t cs ∧ ExAll StrHd t := fun fuel => by
  induction fuel using Nat.strongRecOn with
  | _ fuel IH =>
  intro cs x h hok
  obtain ⟨xs, n, hfu, hx, hcl, hxl, hf⟩ := DataW.trod_struct Try.underlying47 h
  rw [cells47] at hcl
  subst hx
  match xs, hxl with
  | [y0, y1, y2, y3, y4, y5, y6], _ =>
    have hsp : cs = (cs.drop 0).take 1 ++ ((cs.drop 1).take 2 ++ ((cs.drop 3).take 2 ++ ((cs.drop 5).take 2 ++ ((cs.drop 7).take 2 ++ ((cs.drop 9).take 1 ++ ((cs.drop 10).take 1)))))) := (show cs = cs.drop 0 from rfl).trans ((cut_at cs 0 1 1 rfl).trans (congrArg ((cs.drop 0).take 1 ++ ·) ((cut_at cs 1 2 3 rfl).trans (congrArg ((cs.drop 1).take 2 ++ ·) ((cut_at cs 3 2 5 rfl).trans (congrArg ((cs.drop 3).take 2 ++ ·) ((cut_at cs 5 2 7 rfl).trans (congrArg ((cs.drop 5).take 2 ++ ·) ((cut_at cs 7 2 9 rfl).trans (congrArg ((cs.drop 7).take 2 ++ ·) ((cut_at cs 9 1 10 rfl).trans (congrArg ((cs.drop 9).take 1 ++ ·) (cut_end cs 10 1 (by omega))))))))))))))
    have f0 : DataW.trod enc Try.prog w 0 (fun _ => true) held n 3 ((cs.drop 0).take (Try.prog.cellsOf 3)) = some y0 := hf 0 _ rfl
    rw [cells3] at f0
    have o0 : OkD w 3 y0 := ok_part Try.underlying47 hok (i := 0) rfl rfl
    obtain ⟨a0, e0, _, _⟩ := DataW.trod_int Try.underlying3 f0
    rw [e0] at hsp
    have f1 : DataW.trod enc Try.prog w 0 (fun _ => true) held n 42 ((cs.drop 1).take (Try.prog.cellsOf 42)) = some y1 := hf 1 _ rfl
    rw [cells42] at f1
    have o1 : OkD w 42 y1 := ok_part Try.underlying47 hok (i := 1) rfl rfl
    obtain ⟨a1, e1, z1⟩ := dim_read f1 o1
    rw [e1] at hsp
    have f2 : DataW.trod enc Try.prog w 0 (fun _ => true) held n 42 ((cs.drop 3).take (Try.prog.cellsOf 42)) = some y2 := hf 2 _ rfl
    rw [cells42] at f2
    have o2 : OkD w 42 y2 := ok_part Try.underlying47 hok (i := 2) rfl rfl
    obtain ⟨a2, e2, z2⟩ := dim_read f2 o2
    rw [e2] at hsp
    have f3 : DataW.trod enc Try.prog w 0 (fun _ => true) held n 42 ((cs.drop 5).take (Try.prog.cellsOf 42)) = some y3 := hf 3 _ rfl
    rw [cells42] at f3
    have o3 : OkD w 42 y3 := ok_part Try.underlying47 hok (i := 3) rfl rfl
    obtain ⟨a3, e3, z3⟩ := dim_read f3 o3
    rw [e3] at hsp
    have f4 : DataW.trod enc Try.prog w 0 (fun _ => true) held n 42 ((cs.drop 7).take (Try.prog.cellsOf 42)) = some y4 := hf 4 _ rfl
    rw [cells42] at f4
    have o4 : OkD w 42 y4 := ok_part Try.underlying47 hok (i := 4) rfl rfl
    obtain ⟨a4, e4, z4⟩ := dim_read f4 o4
    rw [e4] at hsp
    have f5 : DataW.trod enc Try.prog w 0 (fun _ => true) held n 9 ((cs.drop 9).take (Try.prog.cellsOf 9)) = some y5 := hf 5 _ rfl
    rw [cells9] at f5
    have o5 : OkD w 9 y5 := ok_part Try.underlying47 hok (i := 5) rfl rfl
    obtain ⟨a5, e5, r5, _⟩ := DataW.trod_string Try.underlying9 f5
    subst r5
    have z5 := ok_str o5
    rw [e5] at hsp
    have f6 : DataW.trod enc Try.prog w 0 (fun _ => true) held n 45 ((cs.drop 10).take (Try.prog.cellsOf 45)) = some y6 := hf 6 _ rfl
    rw [cells45] at f6
    have o6 : OkD w 45 y6 := ok_part Try.underlying47 hok (i := 6) rfl rfl
    obtain ⟨A6, p6, css6, e6, hr6, n6, hn6, hc6⟩ := row_read Try.underlying45 cells47 (by decide) f6 o6
    rw [e6] at hsp
    obtain ⟨ks, k1, k2⟩ := list_choice (R := fun (c : List Value) (t : Ex) => ExAt w t c ∧ ExAll StrHd t) css6 (fun i c hc => by
      obtain ⟨y, h1, h2⟩ := hc6 i c hc
      exact IH n6 (by omega) h1 h2)
    subst hsp
    refine ⟨.mk ⟨a0, a1, a2, a3, a4, a5, false⟩ ks, ExAt.mk ⟨a0, a1, a2, a3, a4, a5, false⟩ ks (.slice A6 css6.length p6) css6 hr6 k1.symm (fun j t c h1 h2 => (k2 j t c h1 h2).1) (fun e => by cases e), .mk _ _ ⟨z5, z2, z1, z3, z4⟩ (fun k hk => ?_)⟩
    obtain ⟨j, c, h1, h2⟩ := mem_pair k1 hk
    exact (k2 j k c h1 h2).2
theorem bind_read {fuel : Nat} {cs : List Value} {x : DataW H × List MemPlace} (h : DataW.trod enc Try.prog w 0 (fun _ => true) held fuel 64 cs = some x) (hok : OkD w 64 x) : ∃ b : ByteArray × Ex, (∃ ce, cs = .string b.1 :: ce ∧ ExAt w b.2 ce) ∧ b.1.size ≤ reachBytes ∧ ExAll StrHd b.2 := by
  obtain ⟨xs, n, hfu, hx, hcl, hxl, hf⟩ := DataW.trod_struct Try.underlying64 h
  rw [cells64] at hcl
  subst hx
  match xs, hxl with
  | [y0, y1], _ =>
    have hsp : cs = (cs.drop 0).take 1 ++ ((cs.drop 1).take 11) := (show cs = cs.drop 0 from rfl).trans ((cut_at cs 0 1 1 rfl).trans (congrArg ((cs.drop 0).take 1 ++ ·) (cut_end cs 1 11 (by omega))))
    have f0 : DataW.trod enc Try.prog w 0 (fun _ => true) held n 9 ((cs.drop 0).take (Try.prog.cellsOf 9)) = some y0 := hf 0 _ rfl
    rw [cells9] at f0
    have o0 : OkD w 9 y0 := ok_part Try.underlying64 hok (i := 0) rfl rfl
    obtain ⟨a0, e0, r0, _⟩ := DataW.trod_string Try.underlying9 f0
    subst r0
    have z0 := ok_str o0
    rw [e0] at hsp
    have f1 : DataW.trod enc Try.prog w 0 (fun _ => true) held n 47 ((cs.drop 1).take (Try.prog.cellsOf 47)) = some y1 := hf 1 _ rfl
    rw [cells47] at f1
    have o1 : OkD w 47 y1 := ok_part Try.underlying64 hok (i := 1) rfl rfl
    obtain ⟨a1, e1, z1⟩ := ex_read n f1 o1
    exact ⟨(a0, a1), ⟨_, hsp, e1⟩, z0, z1⟩
theorem port_read {fuel : Nat} {cs : List Value} {x : DataW H × List MemPlace} (h : DataW.trod enc Try.prog w 0 (fun _ => true) held fuel 59 cs = some x) (hok : OkD w 59 x) : ∃ p : Bool × ByteArray × Dm, cs = portCells p ∧ p.2.1.size ≤ reachBytes ∧ p.2.2.1.size ≤ reachBytes := by
  obtain ⟨xs, n, hfu, hx, hcl, hxl, hf⟩ := DataW.trod_struct Try.underlying59 h
  rw [cells59] at hcl
  subst hx
  match xs, hxl with
  | [y0, y1, y2], _ =>
    have hsp : cs = (cs.drop 0).take 1 ++ ((cs.drop 1).take 1 ++ ((cs.drop 2).take 2)) := (show cs = cs.drop 0 from rfl).trans ((cut_at cs 0 1 1 rfl).trans (congrArg ((cs.drop 0).take 1 ++ ·) ((cut_at cs 1 1 2 rfl).trans (congrArg ((cs.drop 1).take 1 ++ ·) (cut_end cs 2 2 (by omega))))))
    have f0 : DataW.trod enc Try.prog w 0 (fun _ => true) held n 4 ((cs.drop 0).take (Try.prog.cellsOf 4)) = some y0 := hf 0 _ rfl
    rw [cells4] at f0
    have o0 : OkD w 4 y0 := ok_part Try.underlying59 hok (i := 0) rfl rfl
    obtain ⟨a0, e0, _⟩ := DataW.trod_bool Try.underlying4 f0
    rw [e0] at hsp
    have f1 : DataW.trod enc Try.prog w 0 (fun _ => true) held n 9 ((cs.drop 1).take (Try.prog.cellsOf 9)) = some y1 := hf 1 _ rfl
    rw [cells9] at f1
    have o1 : OkD w 9 y1 := ok_part Try.underlying59 hok (i := 1) rfl rfl
    obtain ⟨a1, e1, r1, _⟩ := DataW.trod_string Try.underlying9 f1
    subst r1
    have z1 := ok_str o1
    rw [e1] at hsp
    have f2 : DataW.trod enc Try.prog w 0 (fun _ => true) held n 42 ((cs.drop 2).take (Try.prog.cellsOf 42)) = some y2 := hf 2 _ rfl
    rw [cells42] at f2
    have o2 : OkD w 42 y2 := ok_part Try.underlying59 hok (i := 2) rfl rfl
    obtain ⟨a2, e2, z2⟩ := dim_read f2 o2
    rw [e2] at hsp
    exact ⟨(a0, a1, a2), hsp, z1, z2⟩
theorem item_read {fuel : Nat} {cs : List Value} {x : DataW H × List MemPlace} (h : DataW.trod enc Try.prog w 0 (fun _ => true) held fuel 49 cs = some x) (hok : OkD w 49 x) : ∃ i : It, ItAt w i cs ∧ ItStr i := by
  obtain ⟨xs, n, hfu, hx, hcl, hxl, hf⟩ := DataW.trod_struct Try.underlying49 h
  rw [cells49] at hcl
  subst hx
  match xs, hxl with
  | [y0, y1, y2, y3, y4, y5, y6, y7, y8, y9], _ =>
    have hsp : cs = (cs.drop 0).take 1 ++ ((cs.drop 1).take 1 ++ ((cs.drop 2).take 2 ++ ((cs.drop 4).take 2 ++ ((cs.drop 6).take 1 ++ ((cs.drop 7).take 1 ++ ((cs.drop 8).take 1 ++ ((cs.drop 9).take 11 ++ ((cs.drop 20).take 11 ++ ((cs.drop 31).take 11))))))))) := (show cs = cs.drop 0 from rfl).trans ((cut_at cs 0 1 1 rfl).trans (congrArg ((cs.drop 0).take 1 ++ ·) ((cut_at cs 1 1 2 rfl).trans (congrArg ((cs.drop 1).take 1 ++ ·) ((cut_at cs 2 2 4 rfl).trans (congrArg ((cs.drop 2).take 2 ++ ·) ((cut_at cs 4 2 6 rfl).trans (congrArg ((cs.drop 4).take 2 ++ ·) ((cut_at cs 6 1 7 rfl).trans (congrArg ((cs.drop 6).take 1 ++ ·) ((cut_at cs 7 1 8 rfl).trans (congrArg ((cs.drop 7).take 1 ++ ·) ((cut_at cs 8 1 9 rfl).trans (congrArg ((cs.drop 8).take 1 ++ ·) ((cut_at cs 9 11 20 rfl).trans (congrArg ((cs.drop 9).take 11 ++ ·) ((cut_at cs 20 11 31 rfl).trans (congrArg ((cs.drop 20).take 11 ++ ·) (cut_end cs 31 11 (by omega))))))))))))))))))))
    have f0 : DataW.trod enc Try.prog w 0 (fun _ => true) held n 3 ((cs.drop 0).take (Try.prog.cellsOf 3)) = some y0 := hf 0 _ rfl
    rw [cells3] at f0
    have o0 : OkD w 3 y0 := ok_part Try.underlying49 hok (i := 0) rfl rfl
    obtain ⟨a0, e0, _, _⟩ := DataW.trod_int Try.underlying3 f0
    rw [e0] at hsp
    have f1 : DataW.trod enc Try.prog w 0 (fun _ => true) held n 9 ((cs.drop 1).take (Try.prog.cellsOf 9)) = some y1 := hf 1 _ rfl
    rw [cells9] at f1
    have o1 : OkD w 9 y1 := ok_part Try.underlying49 hok (i := 1) rfl rfl
    obtain ⟨a1, e1, r1, _⟩ := DataW.trod_string Try.underlying9 f1
    subst r1
    have z1 := ok_str o1
    rw [e1] at hsp
    have f2 : DataW.trod enc Try.prog w 0 (fun _ => true) held n 42 ((cs.drop 2).take (Try.prog.cellsOf 42)) = some y2 := hf 2 _ rfl
    rw [cells42] at f2
    have o2 : OkD w 42 y2 := ok_part Try.underlying49 hok (i := 2) rfl rfl
    obtain ⟨a2, e2, z2⟩ := dim_read f2 o2
    rw [e2] at hsp
    have f3 : DataW.trod enc Try.prog w 0 (fun _ => true) held n 42 ((cs.drop 4).take (Try.prog.cellsOf 42)) = some y3 := hf 3 _ rfl
    rw [cells42] at f3
    have o3 : OkD w 42 y3 := ok_part Try.underlying49 hok (i := 3) rfl rfl
    obtain ⟨a3, e3, z3⟩ := dim_read f3 o3
    rw [e3] at hsp
    have f4 : DataW.trod enc Try.prog w 0 (fun _ => true) held n 9 ((cs.drop 6).take (Try.prog.cellsOf 9)) = some y4 := hf 4 _ rfl
    rw [cells9] at f4
    have o4 : OkD w 9 y4 := ok_part Try.underlying49 hok (i := 4) rfl rfl
    obtain ⟨a4, e4, r4, _⟩ := DataW.trod_string Try.underlying9 f4
    subst r4
    have z4 := ok_str o4
    rw [e4] at hsp
    have f5 : DataW.trod enc Try.prog w 0 (fun _ => true) held n 43 ((cs.drop 7).take (Try.prog.cellsOf 43)) = some y5 := hf 5 _ rfl
    rw [cells43] at f5
    have o5 : OkD w 43 y5 := ok_part Try.underlying49 hok (i := 5) rfl rfl
    obtain ⟨A5, p5, css5, e5, hr5, n5, hn5, hc5⟩ := row_read Try.underlying43 cells42 (by decide) f5 o5
    rw [e5] at hsp
    have f6 : DataW.trod enc Try.prog w 0 (fun _ => true) held n 44 ((cs.drop 8).take (Try.prog.cellsOf 44)) = some y6 := hf 6 _ rfl
    rw [cells44] at f6
    have o6 : OkD w 44 y6 := ok_part Try.underlying49 hok (i := 6) rfl rfl
    obtain ⟨A6, p6, css6, e6, hr6, n6, hn6, hc6⟩ := row_read Try.underlying44 cells64 (by decide) f6 o6
    rw [e6] at hsp
    have f7 : DataW.trod enc Try.prog w 0 (fun _ => true) held n 47 ((cs.drop 9).take (Try.prog.cellsOf 47)) = some y7 := hf 7 _ rfl
    rw [cells47] at f7
    have o7 : OkD w 47 y7 := ok_part Try.underlying49 hok (i := 7) rfl rfl
    obtain ⟨a7, e7, z7⟩ := ex_read n f7 o7
    have f8 : DataW.trod enc Try.prog w 0 (fun _ => true) held n 47 ((cs.drop 20).take (Try.prog.cellsOf 47)) = some y8 := hf 8 _ rfl
    rw [cells47] at f8
    have o8 : OkD w 47 y8 := ok_part Try.underlying49 hok (i := 8) rfl rfl
    obtain ⟨a8, e8, z8⟩ := ex_read n f8 o8
    have f9 : DataW.trod enc Try.prog w 0 (fun _ => true) held n 47 ((cs.drop 31).take (Try.prog.cellsOf 47)) = some y9 := hf 9 _ rfl
    rw [cells47] at f9
    have o9 : OkD w 47 y9 := ok_part Try.underlying49 hok (i := 9) rfl rfl
    obtain ⟨a9, e9, z9⟩ := ex_read n f9 o9
    obtain ⟨dl, k1, k2⟩ := list_choice (R := fun (c : List Value) (d : Dm) => c = dmCells d ∧ d.1.size ≤ reachBytes) css5 (fun i c hc => by
      obtain ⟨y, h1, h2⟩ := hc5 i c hc
      exact dim_read h1 h2)
    obtain ⟨bs, l1, l2⟩ := list_choice (R := fun (c : List Value) (b : ByteArray × Ex) => (∃ ce, c = .string b.1 :: ce ∧ ExAt w b.2 ce) ∧ b.1.size ≤ reachBytes ∧ ExAll StrHd b.2) css6 (fun i c hc => by
      obtain ⟨y, h1, h2⟩ := hc6 i c hc
      exact bind_read h1 h2)
    have hm := map_of_choice (f := dmCells) k1 (fun j d c h1 h2 => (k2 j d c h1 h2).1)
    refine ⟨⟨a0, a1, a2, a3, a4, dl, bs, a7, a8, a9⟩, ⟨_, _, _, _, _, hsp, ?_, ⟨css6, hr6, l1.symm, fun j b hb => ?_⟩, e7, e8, e9⟩, ⟨z1, z4, z2, z3, fun a ha => ?_, fun b hb => ?_, z7, z8, z9⟩⟩
    · show RowC w 2 _ (dl.map dmCells)
      rw [← hm]
      exact hr5
    · have hj : j < bs.length := (List.getElem?_eq_some_iff.1 hb).1
      obtain ⟨⟨ce, h1, h2⟩, _⟩ := l2 j b _ hb (List.getElem?_eq_getElem (by omega))
      exact ⟨ce, by rw [List.getElem?_eq_getElem (by omega), h1], h2⟩
    · obtain ⟨j, c, h1, h2⟩ := mem_pair k1 ha
      exact (k2 j a c h1 h2).2
    · obtain ⟨j, c, h1, h2⟩ := mem_pair l1 hb
      exact (l2 j b c h1 h2).2
theorem mod_read {fuel : Nat} {cs : List Value} {x : DataW H × List MemPlace} (h : DataW.trod enc Try.prog w 0 (fun _ => true) held fuel 34 cs = some x) (hok : OkD w 34 x) : ∃ m : Mo, MoAt w m cs ∧ MoStr m := by
  obtain ⟨xs, n, hfu, hx, hcl, hxl, hf⟩ := DataW.trod_struct Try.underlying34 h
  rw [cells34] at hcl
  subst hx
  match xs, hxl with
  | [y0, y1, y2, y3], _ =>
    have hsp : cs = (cs.drop 0).take 1 ++ ((cs.drop 1).take 1 ++ ((cs.drop 2).take 1 ++ ((cs.drop 3).take 1))) := (show cs = cs.drop 0 from rfl).trans ((cut_at cs 0 1 1 rfl).trans (congrArg ((cs.drop 0).take 1 ++ ·) ((cut_at cs 1 1 2 rfl).trans (congrArg ((cs.drop 1).take 1 ++ ·) ((cut_at cs 2 1 3 rfl).trans (congrArg ((cs.drop 2).take 1 ++ ·) (cut_end cs 3 1 (by omega))))))))
    have f0 : DataW.trod enc Try.prog w 0 (fun _ => true) held n 9 ((cs.drop 0).take (Try.prog.cellsOf 9)) = some y0 := hf 0 _ rfl
    rw [cells9] at f0
    have o0 : OkD w 9 y0 := ok_part Try.underlying34 hok (i := 0) rfl rfl
    obtain ⟨a0, e0, r0, _⟩ := DataW.trod_string Try.underlying9 f0
    subst r0
    have z0 := ok_str o0
    rw [e0] at hsp
    have f1 : DataW.trod enc Try.prog w 0 (fun _ => true) held n 30 ((cs.drop 1).take (Try.prog.cellsOf 30)) = some y1 := hf 1 _ rfl
    rw [cells30] at f1
    have o1 : OkD w 30 y1 := ok_part Try.underlying34 hok (i := 1) rfl rfl
    obtain ⟨A1, p1, css1, e1, hr1, n1, hn1, hc1⟩ := row_read Try.underlying30 cells9 (by decide) f1 o1
    rw [e1] at hsp
    have f2 : DataW.trod enc Try.prog w 0 (fun _ => true) held n 31 ((cs.drop 2).take (Try.prog.cellsOf 31)) = some y2 := hf 2 _ rfl
    rw [cells31] at f2
    have o2 : OkD w 31 y2 := ok_part Try.underlying34 hok (i := 2) rfl rfl
    obtain ⟨A2, p2, css2, e2, hr2, n2, hn2, hc2⟩ := row_read Try.underlying31 cells59 (by decide) f2 o2
    rw [e2] at hsp
    have f3 : DataW.trod enc Try.prog w 0 (fun _ => true) held n 32 ((cs.drop 3).take (Try.prog.cellsOf 32)) = some y3 := hf 3 _ rfl
    rw [cells32] at f3
    have o3 : OkD w 32 y3 := ok_part Try.underlying34 hok (i := 3) rfl rfl
    obtain ⟨A3, p3, css3, e3, hr3, n3, hn3, hc3⟩ := row_read Try.underlying32 cells49 (by decide) f3 o3
    rw [e3] at hsp
    obtain ⟨ps, k1, k2⟩ := list_choice (R := fun (c : List Value) (s : ByteArray) => c = [Value.string s] ∧ s.size ≤ reachBytes) css1 (fun i c hc => by
      obtain ⟨y, h1, h2⟩ := hc1 i c hc
      obtain ⟨s, q1, q2, _⟩ := DataW.trod_string Try.underlying9 h1
      subst q2
      exact ⟨s, q1, ok_str h2⟩)
    obtain ⟨qs, l1, l2⟩ := list_choice (R := fun (c : List Value) (p : Bool × ByteArray × Dm) => c = portCells p ∧ p.2.1.size ≤ reachBytes ∧ p.2.2.1.size ≤ reachBytes) css2 (fun i c hc => by
      obtain ⟨y, h1, h2⟩ := hc2 i c hc
      exact port_read h1 h2)
    obtain ⟨is, m1, m2⟩ := list_choice (R := fun (c : List Value) (x : It) => ItAt w x c ∧ ItStr x) css3 (fun i c hc => by
      obtain ⟨y, h1, h2⟩ := hc3 i c hc
      exact item_read h1 h2)
    have hm := map_of_choice (f := fun s : ByteArray => [Value.string s]) k1 (fun j d c h1 h2 => (k2 j d c h1 h2).1)
    have hq := map_of_choice (f := portCells) l1 (fun j d c h1 h2 => (l2 j d c h1 h2).1)
    refine ⟨⟨a0, ps, qs, is⟩, ⟨_, _, _, hsp, ?_, ?_, ⟨css3, hr3, m1.symm, fun j b hb => ?_⟩⟩, ⟨z0, fun a ha => ?_, fun a ha => ?_, fun a ha => ?_⟩⟩
    · show RowC w 1 _ (ps.map fun s => [Value.string s])
      rw [← hm]
      exact hr1
    · show RowC w 4 _ (qs.map portCells)
      rw [← hq]
      exact hr2
    · have hj : j < is.length := (List.getElem?_eq_some_iff.1 hb).1
      have h1 := (m2 j b _ hb (List.getElem?_eq_getElem (by omega))).1
      exact ⟨_, List.getElem?_eq_getElem (by omega), h1⟩
    · obtain ⟨j, c, h1, h2⟩ := mem_pair k1 ha
      exact (k2 j a c h1 h2).2
    · obtain ⟨j, c, h1, h2⟩ := mem_pair l1 ha
      exact (l2 j a c h1 h2).2
    · obtain ⟨j, c, h1, h2⟩ := mem_pair m1 ha
      exact (m2 j a c h1 h2).2
theorem mo_form {m : Mo} {cs : List Value} (h : MoAt w m cs) : ∃ (pA : Option Addr) (pC : Nat) (qA : Option Addr) (qC : Nat) (iA : Option Addr) (iC : Nat), cs = [.string m.name, .slice pA m.params.length pC, .slice qA m.ports.length qC, .slice iA m.items.length iC] ∧ MoAt w m [.string m.name, .slice pA m.params.length pC, .slice qA m.ports.length qC, .slice iA m.items.length iC] := by
  obtain ⟨pv, qv, iv, rfl, h1, h2, css, h3, h4, h5⟩ := h
  obtain ⟨pA, pC, e1⟩ := h1.form
  obtain ⟨qA, qC, e2⟩ := h2.form
  obtain ⟨iA, iC, e3⟩ := h3.form
  rw [List.length_map] at e1 e2
  rw [h4] at e3
  subst e1 e2 e3
  exact ⟨pA, pC, qA, qC, iA, iC, rfl, _, _, _, rfl, h1, h2, css, h3, h4, h5⟩
theorem mods_read {fuel : Nat} {cs : List Value} {x : DataW H × List MemPlace} (h : DataW.trod enc Try.prog w 0 (fun _ => true) held fuel 22 cs = some x) (hok : OkD w 22 x) : ∃ (ms : List Mo) (A : Option Addr) (cap : Nat), cs = [.slice A ms.length cap] ∧ ModsAt w ms (.slice A ms.length cap) ∧ ∀ m ∈ ms, MoStr m := by
  obtain ⟨A, p, css, e, hr, n, hn, hc⟩ := row_read Try.underlying22 cells34 (by decide) h hok
  obtain ⟨ms, m1, m2⟩ := list_choice (R := fun (c : List Value) (x : Mo) => MoAt w x c ∧ MoStr x) css (fun i c hc' => by
    obtain ⟨y, h1, h2⟩ := hc i c hc'
    exact mod_read h1 h2)
  refine ⟨ms, A, p, by rw [e, m1], ?_, fun m hm => ?_⟩
  · rw [m1]
    refine ⟨css, hr, m1.symm, fun j b hb => ?_⟩
    have hj := (List.getElem?_eq_some_iff.1 hb).1
    have h1 := (m2 j b _ hb (List.getElem?_eq_getElem (by omega))).1
    exact ⟨_, List.getElem?_eq_getElem (by omega), h1⟩
  · obtain ⟨j, c, h1, h2⟩ := mem_pair m1 hm
    exact (m2 j m c h1 h2).2
theorem des_read {fuel : Nat} {cs : List Value} {x : DataW H × List MemPlace} (h : DataW.trod enc Try.prog w 0 (fun _ => true) held fuel 24 cs = some x) (hok : OkD w 24 x) : ∃ (ms : List Mo) (A : Option Addr) (cap : Nat), cs = [.slice A ms.length cap] ∧ ModsAt w ms (.slice A ms.length cap) ∧ ∀ m ∈ ms, MoStr m := by
  obtain ⟨xs, n, hfu, hx, hcl, hxl, hf⟩ := DataW.trod_struct Try.underlying24 h
  rw [cells24] at hcl
  subst hx
  match xs, hxl with
  | [y0], _ =>
    have f0 : DataW.trod enc Try.prog w 0 (fun _ => true) held n 22 ((cs.drop 0).take (Try.prog.cellsOf 22)) = some y0 := hf 0 _ rfl
    rw [cells22] at f0
    have o0 : OkD w 22 y0 := ok_part Try.underlying24 hok (i := 0) rfl rfl
    have e : (cs.drop 0).take 1 = cs := by rw [← cut_end cs 0 1 (by omega)]; rfl
    rw [e] at f0
    exact mods_read f0 o0
end
end Go.Proofs.Ytjkaeabnjkhllaa
