/-
  SameExpr, WALKED of any two: what it tells of unlike ones is no yes.
-/
import Derived.Test.YtccjbpghpoblhaaDoorK30
import Derived.Laws.StructEq
namespace Go.Proofs.YtccjbpghpoblhaaDoor
open Go.RowKit

theorem neq52_ne {d d' : Dm} (h : d ≠ d') (w : World) :
    (binOp .neq 52 (.agg #[.string (str d.1), .int .i64 (d.2 : Nat)]) (.agg #[.string (str d'.1), .int .i64 (d'.2 : Nat)])).run Tryd.prog w = .ok (.bool true) w := by
  have hS : Tryd.prog.underlying 52 = some (.struct (Tryd.prog.fieldsOf 52)) := by kernel_rfl
  have hp : Tryd.prog.stoodInHeld 52 = false := by kernel_rfl
  have u3 := Tryd.underlying3
  have u9 := Tryd.underlying9
  rw [run_neq_struct, show (10000 : Nat) = 9999 + 1 from rfl, run_equalIn_agg w 9999 52 _ _ hS hp]
  simp only [Program.fieldsOf, Tryd.underlying52]
  by_cases h1 : d.1 = d'.1
  · have h2 : d.2 ≠ d'.2 := fun e => h (Prod.ext h1 e)
    have h3 : ((d.2 : Int) == (d'.2 : Int)) = false := by simp; omega
    rw [h1]
    go_simp
  · have h3 : ((str d.1).toList == (str d'.1).toList) = false := by rw [str_toList, str_toList]; simpa using h1
    go_simp
theorem neq52_eq (d : Dm) (w : World) :
    (binOp .neq 52 (.agg #[.string (str d.1), .int .i64 (d.2 : Nat)]) (.agg #[.string (str d.1), .int .i64 (d.2 : Nat)])).run Tryd.prog w = .ok (.bool false) w := by
  have hS : Tryd.prog.underlying 52 = some (.struct (Tryd.prog.fieldsOf 52)) := by kernel_rfl
  have hp : Tryd.prog.stoodInHeld 52 = false := by kernel_rfl
  have u3 := Tryd.underlying3
  have u9 := Tryd.underlying9
  rw [run_neq_struct, show (10000 : Nat) = 9999 + 1 from rfl, run_equalIn_agg w 9999 52 _ _ hS hp]
  simp only [Program.fieldsOf, Tryd.underlying52]
  go_simp

/-- a bool is told, and it is a yes only if P -/
def Tells (P : Prop) (w : World) (e : Ending) (w' : World) : Prop := ∃ r, e = .returned (.bool r) ∧ (r = true → P) ∧ Gr w w'
/-- what SameExpr tells of any two -/
def SameAny (t t' : Ex) : Prop := ∀ (cs cs' : List Value) (F F' : Nat → Prop) (w : World), Hid (ExAt w F t cs) → Hid (ExAt w F' t' cs') → Calls Tryd.prog 34 #[.agg cs.toArray, .agg cs'.toArray] w (Tells (t = t') w)
theorem ex_ext (t t' : Ex) (h1 : t.hd = t'.hd) (h2 : t.kids = t'.kids) : t = t' := by
  cases t <;> cases t' <;> simp [Ex.hd, Ex.kids] at h1 h2 <;> simp_all

set_option maxRecDepth 100000 in
set_option maxHeartbeats 8000000 in
theorem any_step (t t' : Ex) (IH : ∀ k ∈ t.kids, ∀ k', SameAny k k') : SameAny t t' := by
  intro cs cs' F F' w h h'
  obtain ⟨A, cp, css, rfl, hrow, hcl, hk⟩ := h.out.parts
  obtain ⟨A', cp', css', rfl, hrow', hcl', hk'⟩ := h'.out.parts
  have HA := Lib.hid (And.intro hrow (And.intro hcl hk))
  have HB := Lib.hid (And.intro hrow' (And.intro hcl' hk'))
  have HIH := Lib.hid IH
  have HX := Lib.hid (ex_ext t t')
  clear hrow hcl hk hrow' hcl' hk' IH h h'
  have hn3 := kids_le t
  have hn3' := kids_le t'
  obtain ⟨n, hn⟩ : ∃ n, n = t.kids.length := ⟨_, rfl⟩
  rw [← hn] at hn3 HA ⊢
  have HN := Lib.hid hn
  clear hn
  obtain ⟨n', hn'⟩ : ∃ n', n' = t'.kids.length := ⟨_, rfl⟩
  rw [← hn'] at hn3' HB ⊢
  have HN' := Lib.hid hn'
  clear hn'
  rcases hh : t.hd with ⟨op, val, wid, hi, lo, nm⟩
  rcases hh' : t'.hd with ⟨op', val', wid', hi', lo', nm'⟩
  have HH := Lib.hid hh
  have HH' := Lib.hid hh'
  clear hh hh'
  by_cases cop : op = op'
  case neg =>
    have q : ((op : Int) != (op' : Int)) = true := by simp; omega
    have HC := Lib.hid cop
    clear cop
    go_enter Tryd.func34, Tryd.ntmps34
    unfold hdCells
    go_wp2
    go_ret
    exact ⟨false, rfl, fun h => (by cases h), (Gr.alloc _ _).trans (Gr.alloc _ _)⟩
  subst cop
  by_cases cval : val = val'
  case neg =>
    have q := neq52_ne cval
    have HC := Lib.hid cval
    clear cval
    go_enter Tryd.func34, Tryd.ntmps34
    unfold hdCells
    go_wp2
    go_ret
    exact ⟨false, rfl, fun h => (by cases h), (Gr.alloc _ _).trans (Gr.alloc _ _)⟩
  subst cval
  by_cases cwid : wid = wid'
  case neg =>
    have q := neq52_ne cwid
    have HC := Lib.hid cwid
    clear cwid
    go_enter Tryd.func34, Tryd.ntmps34
    unfold hdCells
    go_wp2
    go_ret
    exact ⟨false, rfl, fun h => (by cases h), (Gr.alloc _ _).trans (Gr.alloc _ _)⟩
  subst cwid
  by_cases chi : hi = hi'
  case neg =>
    have q := neq52_ne chi
    have HC := Lib.hid chi
    clear chi
    go_enter Tryd.func34, Tryd.ntmps34
    unfold hdCells
    go_wp2
    go_ret
    exact ⟨false, rfl, fun h => (by cases h), (Gr.alloc _ _).trans (Gr.alloc _ _)⟩
  subst chi
  by_cases clo : lo = lo'
  case neg =>
    have q := neq52_ne clo
    have HC := Lib.hid clo
    clear clo
    go_enter Tryd.func34, Tryd.ntmps34
    unfold hdCells
    go_wp2
    go_ret
    exact ⟨false, rfl, fun h => (by cases h), (Gr.alloc _ _).trans (Gr.alloc _ _)⟩
  subst clo
  by_cases cnm : nm = nm'
  case neg =>
    have q : ((str nm).toList == (str nm').toList) = false := by rw [str_toList, str_toList]; simpa using cnm
    have HC := Lib.hid cnm
    clear cnm
    go_enter Tryd.func34, Tryd.ntmps34
    unfold hdCells
    go_wp2
    go_ret
    exact ⟨false, rfl, fun h => (by cases h), (Gr.alloc _ _).trans (Gr.alloc _ _)⟩
  subst cnm
  by_cases cn : n = n'
  case neg =>
    have q : ((n : Int) != (n' : Int)) = true := by simp; omega
    have HC := Lib.hid cn
    clear cn
    go_enter Tryd.func34, Tryd.ntmps34
    unfold hdCells
    go_wp2
    go_ret
    exact ⟨false, rfl, fun h => (by cases h), (Gr.alloc _ _).trans (Gr.alloc _ _)⟩
  subst cn
  have HHH := Lib.hid (HH.out.trans HH'.out.symm)
  obtain ⟨hd, hhd⟩ : ∃ hd : Hd, hd = ⟨op, val, wid, hi, lo, nm⟩ := ⟨_, rfl⟩
  rw [← hhd]
  clear hhd HH HH'
  go_enter Tryd.func34, Tryd.ntmps34
  unfold hdCells
  go_wp2_with fail
  obtain ⟨W, eW, GW, CA, CB⟩ : ∃ W, (w.alloc (.cells (hdCells hd (.slice A n cp)).toArray 57)).alloc (.cells (hdCells hd (.slice A' n cp')).toArray 57) = W ∧ Hid (Gr w W) ∧ Hid (W.heap[w.heap.size]? = some (.cells (hdCells hd (.slice A n cp)).toArray 57 (0, 0))) ∧ Hid (W.heap[w.heap.size + 1]? = some (.cells (hdCells hd (.slice A' n cp')).toArray 57 (0, 0))) := by
    refine ⟨_, rfl, Lib.hid ((Gr.alloc _ _).trans (Gr.alloc _ _)), Lib.hid ((Below.heap_alloc _ _ _ (by simp)).trans (new_at w _)), Lib.hid ?_⟩
    have := new_at (w.alloc (.cells (hdCells hd (.slice A n cp)).toArray 57)) (.cells (hdCells hd (.slice A' n cp')).toArray 57)
    simpa using this
  go_loopg [5] n (fun g x wr => ∃ i : Nat, i + g = n ∧ x = .int .i64 (i : Nat) ∧ Hid (Gr W wr) ∧ Hid (t.kids.take i = t'.kids.take i))
  case atStart => exact ⟨0, by omega, rfl, Lib.hid (by rw [← eW]; exact Gr.refl _), Lib.hid rfl⟩
  case round =>
    obtain ⟨i, hi, rfl, GR, HP⟩ := hrel
    have HI := Lib.hid hi
    clear hi eW
    have KA := Lib.hid ((GR.out.block _ (heap_lt CA.out) (by simp)).trans CA.out)
    have KB := Lib.hid ((GR.out.block _ (heap_lt CB.out) (by simp)).trans CB.out)
    have a10 : wr.cell? ⟨w.heap.size, 10, none⟩ = some (.slice A n cp) := by rw [cell_at KA.out]; rfl
    have b10 : wr.cell? ⟨w.heap.size + 1, 10, none⟩ = some (.slice A' n cp') := by rw [cell_at KB.out]; rfl
    by_cases hlt : i < n
    · have hd1 : ((i : Int) < (n : Int)) := by omega
      have hd0 : (0 : Int) ≤ (i : Int) := by omega
      obtain ⟨k, hk⟩ : ∃ k, t.kids[i]? = some k := ⟨_, List.getElem?_eq_getElem (by rw [← HN.out]; exact hlt)⟩
      obtain ⟨k', hk'⟩ : ∃ k, t'.kids[i]? = some k := ⟨_, List.getElem?_eq_getElem (by rw [← HN'.out]; exact hlt)⟩
      obtain ⟨c, hc, hx⟩ := HA.out.2.2 i k hk
      obtain ⟨c', hc', hx'⟩ := HB.out.2.2 i k' hk'
      have len11 : ∀ c ∈ css, c.length = 11 := css_len (HA.out.2.1.trans HN.out) HA.out.2.2 (fun _ _ h => h.len)
      have len11' : ∀ c ∈ css', c.length = 11 := css_len (HB.out.2.1.trans HN'.out) HB.out.2.2 (fun _ _ h => h.len)
      obtain ⟨g, cap, hv, _, hgl, hr⟩ := row_range HA.out.1 HA.out.2.1 len11 hc
      obtain ⟨g', cap', hv', _, hgl', hr'⟩ := row_range HB.out.1 HB.out.2.1 len11' hc'
      obtain ⟨hk1, A1, m1, p1, rfl⟩ := hx.cells
      obtain ⟨hk2, A2, m2, p2, rfl⟩ := hx'.cells
      injection hv with hv1 _ hv3
      injection hv' with hv1' _ hv3'
      subst hv1 hv3 hv1' hv3'
      have GG := GW.out.trans GR.out
      have SAME := Lib.hid (fun (u : World) (hu : Gr wr u) => HIH.out k (List.mem_of_getElem? hk) k' _ _ F F' u (Lib.hid (hx.gr (GG.trans hu))) (Lib.hid (hx'.gr (GG.trans hu))))
      have KEEP := Lib.hid (show ∀ u, Gr wr u → (u.cell? ⟨w.heap.size, 10, none⟩ = some (.slice (some ⟨g, 0, none⟩) n cp) ∧ u.cell? ⟨w.heap.size + 1, 10, none⟩ = some (.slice (some ⟨g', 0, none⟩) n cp') ∧ Ex11 u g (i * 11) hk1 (.slice A1 m1 p1) ∧ Ex11 u g' (i * 11) hk2 (.slice A2 m2 p2)) from fun u hu =>
        ⟨(World.cell?_of_block (a := ⟨w.heap.size, 10, none⟩) (hu.block _ (heap_lt KA.out) (by simp))).trans a10, (World.cell?_of_block (a := ⟨w.heap.size + 1, 10, none⟩) (hu.block _ (heap_lt KB.out) (by simp))).trans b10, ex11 (range_gr hr hgl (GG.trans hu)), ex11 (range_gr hr' hgl' (GG.trans hu))⟩)
      have HK := Lib.hid (And.intro hk hk')
      clear hx hx' hr hr' hc hc' GG hk hk' len11 len11'
      go_wp2_with fail
      go_region_held3 (fun u => u.cell? ⟨w.heap.size, 10, none⟩ = some (.slice (some ⟨g, 0, none⟩) n cp) ∧ u.cell? ⟨w.heap.size + 1, 10, none⟩ = some (.slice (some ⟨g', 0, none⟩) n cp') ∧ Ex11 u g (i * 11) hk1 (.slice A1 m1 p1) ∧ Ex11 u g' (i * 11) hk2 (.slice A2 m2 p2))
        (first | exact KEEP.out _ (Gr.drew _) | exact KEEP.out _ (by assumption))
        (first | (go_at_call 34; refine (SAME.out _ (Gr.drew _)).mono ?_; rintro e u ⟨r, rfl, hreq, hu0⟩; have hu : Gr wr u := (Gr.drew _).trans hu0; have HU := Lib.hid hu; have HR := Lib.hid hreq; clear hreq))
      rcases r with _ | _
      · go_wp2_with fail
        go_ret
        exact ⟨false, rfl, fun h => (by cases h), (GW.out.trans GR.out).trans HU.out⟩
      · go_wp2_with fail
        go_roundg (gk - 1)
        case measure => have := HI.out; omega
        case rel => exact ⟨i + 1, by have := HI.out; omega, by go_num, Lib.hid (GR.out.trans HU.out), Lib.hid (by rw [List.take_add_one, List.take_add_one, HP.out, HK.out.1, HK.out.2, HR.out (by simp)])⟩
    · have hd1 : ¬ ((i : Int) < (n : Int)) := by omega
      go_wp2_with fail
      go_ret
      have h1 := HP.out
      rw [List.take_of_length_le (by rw [← HN.out]; omega), List.take_of_length_le (by rw [← HN'.out]; omega)] at h1
      exact ⟨true, rfl, fun _ => HX.out HHH.out h1, GW.out.trans GR.out⟩
theorem SameExpr_any (t : Ex) : ∀ t', SameAny t t' := by
  induction t with
  | n0 h => exact fun t' => any_step _ t' (fun k hk => by simp [Ex.kids] at hk)
  | n1 h a ih => exact fun t' => any_step _ t' (fun k hk => by simp [Ex.kids] at hk; subst hk; exact ih)
  | n2 h a b iha ihb => exact fun t' => any_step _ t' (fun k hk => by simp [Ex.kids] at hk; rcases hk with rfl | rfl <;> assumption)
  | n3 h a b c iha ihb ihc => exact fun t' => any_step _ t' (fun k hk => by simp [Ex.kids] at hk; rcases hk with rfl | rfl | rfl <;> assumption)
end Go.Proofs.YtccjbpghpoblhaaDoor

