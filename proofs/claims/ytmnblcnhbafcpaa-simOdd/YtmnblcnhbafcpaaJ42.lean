/-
  The document's Legal, Hits and Hit, WALKED.
-/
import Derived.Test.YtmnblcnhbafcpaaJ41
namespace Go.Proofs.Ytmnblcnhbafcpaa
open Go.RowKit
open NetM
open VecM

/-- are all assumptions so? -/
def legL (ps : List Pr) (bs : List Bool) : Bool := (List.range ps.length).all fun i => !(decide ((ps[i]?.map Pr.kind) = some 9)) || (bs[i]?.getD false)
/-- is a property hit, if they are? -/
def hitB (p : Pr) (b : Bool) : Bool := if p.kind = 8 then !b else decide (p.kind = 10) && b
/-- the first cycle at which one is hit -/
def hitF (n : Nt) (t : List (List Nat)) (p : Pr) (pi : Nat) : Nat → Nat → Nat × Bool
  | _, 0 => (0, false)
  | k, m + 1 => if legL n.props (bitsAt n t k) = false then (0, false) else if hitB p ((bitsAt n t k)[pi]?.getD false) = true then (k, true) else hitF n t p pi (k + 1) m
def hitOf (n : Nt) (t : List (List Nat)) (pi : Int) : Nat × Bool := if pi < 0 then (0, false) else match n.props[pi.toNat]? with
  | none => (0, false)
  | some p => hitF n t p pi.toNat 0 t.length
theorem legL_none {ps : List Pr} {bs : List Bool} {j : Nat} {p : Pr} (hp : ps[j]? = some p) (hk : p.kind = 9) (hb : bs[j]? = some false) : legL ps bs = false := by
  rw [Bool.eq_false_iff]
  intro h
  have h1 := List.all_eq_true.1 h j (List.mem_range.2 (List.getElem?_eq_some_iff.1 hp).1)
  rw [hp, hb] at h1
  simp [hk] at h1
theorem legL_all {ps : List Pr} {bs : List Bool} (h : ∀ (j : Nat) (p : Pr), ps[j]? = some p → p.kind = 9 → bs[j]? = some true) : legL ps bs = true := by
  refine List.all_eq_true.2 fun j hj => ?_
  have hjl := List.mem_range.1 hj
  have hp : ps[j]? = some ps[j] := List.getElem?_eq_getElem hjl
  rw [hp]
  by_cases hk : ps[j].kind = 9
  · rw [h j _ hp hk]
    simp
  · simp [hk]
set_option maxRecDepth 100000 in
set_option maxHeartbeats 8000000 in
theorem RLegal_any (n : Nt) (v : Value) (Ab : Option Addr) (cb : Nat) (bs : List Bool) (w : World) (hs : Sz n) (hn : Hid (NtAt w n v)) (hbl : bs.length = n.props.length) (hb : Hid (Bls w w.heap.size Ab bs)) :
    Calls Try.prog 36 #[v, .slice Ab n.props.length cb] w fun e w' => e = .returned (.bool (legL n.props bs)) ∧ Gr w w' := by
  obtain ⟨z1, z2, z3, z4, z5⟩ := hs
  obtain ⟨A1, A2, A3, A4, A5, c1, c2, c3, c4, c5, rfl, hc1, h1, h2, h3, h4, h5⟩ := hn.out
  have H4 := Lib.hid h4
  clear h1 h2 h3 h4 h5
  obtain ⟨W0, eW, BW, KEEP⟩ : ∃ W0, w.alloc (.cells (bxC n A1 A2 A3 A4 A5 c1 c2 c3 c4 c5) 27) = W0 ∧ Hid (Gr w W0) ∧ Hid (∀ u, Gr W0 u → BxAt u w.heap.size n A1 A2 A3 A4 A5 c1 c2 c3 c4 c5) :=
    ⟨_, rfl, Lib.hid (bel_alloc _ _), Lib.hid fun u hu => bx_gr (bx_new w n A1 A2 A3 A4 A5 c1 c2 c3 c4 c5) (by simp) hu⟩
  obtain ⟨e0, e1, e2, e3, e4⟩ := KEEP.out W0 (Gr.refl _)
  obtain ⟨lg, hlg⟩ : ∃ lg, legL n.props bs = lg := ⟨_, rfl⟩
  rw [hlg]
  have HLG := Lib.hid hlg
  clear hlg
  go_enter Try.func36, Try.ntmps36
  go_wp2_with fail
  try rw [eW]
  clear eW e0 e1 e2 e3 e4
  go_loopg [5] n.props.length (fun g i wr => ∃ j : Nat, j + g = n.props.length ∧ i = .int .i64 j ∧ Hid (∀ q p, q < j → n.props[q]? = some p → p.kind = 9 → bs[q]? = some true) ∧ Hid (wr = W0))
  case atStart => exact ⟨0, by omega, rfl, Lib.hid (fun q p hq => by omega), Lib.hid rfl⟩
  case round =>
    obtain ⟨j, hjg, rfl, HA, hwr⟩ := hrel
    obtain rfl := hwr.out
    have HJ := Lib.hid hjg
    have hjl : j ≤ n.props.length := by omega
    clear hjg hwr
    obtain ⟨e0, e1, e2, e3, e4⟩ := KEEP.out _ (Gr.refl _)
    by_cases hlt : j < n.props.length
    · have hn1 : n.props[j]? = some n.props[j] := List.getElem?_eq_getElem hlt
      generalize n.props[j] = p at hn1
      obtain ⟨bp, op, rfl, -, d0, d1, d2⟩ := (H4.out.gr BW.out) j p hn1
      have hb1 : bs[j]? = some bs[j] := List.getElem?_eq_getElem (by omega)
      generalize bs[j] = x at hb1
      obtain ⟨bb, ob, rfl, hbb, f0'⟩ := hb.out j x hb1
      have f0 := cell_up BW.out hbb f0'
      have HN1 := Lib.hid hn1
      have HB1 := Lib.hid hb1
      have i1 : (j : Int) < (n.props.length : Int) := by omega
      have i2 : (0 : Int) ≤ (j : Int) := by omega
      clear hn1 hb1 f0'
      by_cases h9 : p.kind = 9
      · have q9 : (p.kind == 9) = true := by simp [h9]
        have H9 := Lib.hid h9
        clear h9
        cases x with
        | false =>
          go_wp2_with fail
          go_ret
          have hf : lg = false := by rw [← HLG.out]; exact legL_none HN1.out H9.out HB1.out
          exact ⟨by rw [hf]; rfl, BW.out⟩
        | true =>
          go_wp2_with fail
          go_roundg (gk - 1)
          case measure => have := HJ.out; omega
          case rel =>
            refine ⟨j + 1, by have := HJ.out; omega, by go_num, Lib.hid (fun q p' hq hp hk => ?_), Lib.hid rfl⟩
            by_cases e : q = j
            · subst e
              exact HB1.out
            · exact HA.out q p' (by omega) hp hk
      · have q9 : (p.kind == 9) = false := by simp [h9]
        have H9 := Lib.hid h9
        clear h9
        go_wp2_with fail
        go_roundg (gk - 1)
        case measure => have := HJ.out; omega
        case rel =>
          refine ⟨j + 1, by have := HJ.out; omega, by go_num, Lib.hid (fun q p' hq hp hk => ?_), Lib.hid rfl⟩
          by_cases e : q = j
          · subst e
            obtain rfl := Option.some.inj (HN1.out.symm.trans hp)
            exact absurd hk H9.out
          · exact HA.out q p' (by omega) hp hk
    · obtain rfl : j = n.props.length := by omega
      have j1 : ¬ (n.props.length : Int) < (n.props.length : Int) := by omega
      go_wp2_with fail
      go_ret
      have hf : lg = true := by rw [← HLG.out]; exact legL_all (fun q p hp hk => HA.out q p (List.getElem?_eq_some_iff.1 hp).1 hp hk)
      exact ⟨by rw [hf]; rfl, BW.out⟩
set_option maxRecDepth 100000 in
set_option maxHeartbeats 8000000 in
theorem RHits_any (n : Nt) (v : Value) (pi : Nat) (p : Pr) (b : Bool) (Ab : Option Addr) (cb : Nat) (bs : List Bool) (w : World) (hs : Sz n) (hn : Hid (NtAt w n v)) (hp : n.props[pi]? = some p) (hbi : bs[pi]? = some b) (hb : Hid (Bls w w.heap.size Ab bs)) :
    Calls Try.prog 37 #[v, .int .i64 (pi : Nat), .slice Ab n.props.length cb] w fun e w' => e = .returned (.bool (hitB p b)) ∧ Gr w w' := by
  obtain ⟨z1, z2, z3, z4, z5⟩ := hs
  obtain ⟨A1, A2, A3, A4, A5, c1, c2, c3, c4, c5, rfl, hc1, h1, h2, h3, h4, h5⟩ := hn.out
  have H4 := Lib.hid h4
  clear h1 h2 h3 h4 h5
  obtain ⟨W0, eW, BW, KEEP⟩ : ∃ W0, w.alloc (.cells (bxC n A1 A2 A3 A4 A5 c1 c2 c3 c4 c5) 27) = W0 ∧ Hid (Gr w W0) ∧ Hid (∀ u, Gr W0 u → BxAt u w.heap.size n A1 A2 A3 A4 A5 c1 c2 c3 c4 c5) :=
    ⟨_, rfl, Lib.hid (bel_alloc _ _), Lib.hid fun u hu => bx_gr (bx_new w n A1 A2 A3 A4 A5 c1 c2 c3 c4 c5) (by simp) hu⟩
  obtain ⟨e0, e1, e2, e3, e4⟩ := KEEP.out W0 (Gr.refl _)
  have hpl := (List.getElem?_eq_some_iff.1 hp).1
  obtain ⟨bp, op, rfl, -, d0, d1, d2⟩ := (H4.out.gr BW.out) pi p hp
  obtain ⟨bb, ob, rfl, hbb, f0'⟩ := hb.out pi b hbi
  have f0 := cell_up BW.out hbb f0'
  have i1 : (pi : Int) < (n.props.length : Int) := by omega
  have i2 : (0 : Int) ≤ (pi : Int) := by omega
  clear f0' hp hbi
  obtain ⟨x, hx⟩ : ∃ x, hitB p b = x := ⟨_, rfl⟩
  rw [hx]
  by_cases h8 : p.kind = 8
  · have q8 : (p.kind == 8) = true := by simp [h8]
    obtain rfl : x = !b := by rw [← hx, hitB, if_pos h8]
    clear h8 hx
    go_enter Try.func37, Try.ntmps37
    go_upto_region 1 with fail
    try rw [eW]
    clear eW
    go_wp2_with fail
    go_ret
    exact ⟨rfl, BW.out⟩
  · have q8 : (p.kind == 8) = false := by simp [h8]
    rw [hitB, if_neg h8] at hx
    clear h8
    by_cases h10 : p.kind = 10
    · have q10 : (p.kind == 10) = true := by simp [h10]
      obtain rfl : x = b := by rw [← hx, decide_eq_true h10]; rfl
      clear h10 hx
      go_enter Try.func37, Try.ntmps37
      go_upto_region 1 with fail
      try rw [eW]
      clear eW
      go_wp2_with fail
      go_ret
      exact ⟨rfl, BW.out⟩
    · have q10 : (p.kind == 10) = false := by simp [h10]
      obtain rfl : x = false := by rw [← hx, decide_eq_false h10]; rfl
      clear h10 hx
      go_enter Try.func37, Try.ntmps37
      go_upto_region 1 with fail
      try rw [eW]
      clear eW
      go_wp2_with fail
      go_ret
      exact ⟨rfl, BW.out⟩
end Go.Proofs.Ytmnblcnhbafcpaa
