/-
  slices.Equal, WALKED.
-/
import Derived.Test.YtnkifhgkhgialaaNRow
namespace Go.Proofs.Ytnkifhgkhgialaa
open Go.RowKit
open NetM

theorem toList_data (s : ByteArray) : s.toList = s.data.toList := ByteArray.toList_eq s
theorem toList_ne {s t : ByteArray} (h : s ≠ t) : (s.toList == t.toList) = false := by
  rw [toList_data, toList_data]
  rw [beq_eq_false_iff_ne]
  intro e
  apply h
  apply ByteArray.ext
  exact Array.toList_inj.1 e
theorem bool_no {b : Bool} {p : Prop} (h : b = true ↔ p) (hp : ¬ p) : b = false := by
  cases b
  · rfl
  · exact absurd (h.1 rfl) hp
theorem list_ext_len {α : Type} {xs ys : List α} (hl : xs.length = ys.length) (h : ∀ (i : Nat) (x y : α), xs[i]? = some x → ys[i]? = some y → x = y) : xs = ys := by
  apply List.ext_getElem hl
  intro i h1 h2
  exact h i _ _ (List.getElem?_eq_getElem h1) (List.getElem?_eq_getElem h2)
theorem neqInt (x y : Int) (b : Bool) (hb : b = true ↔ x = y) : (x != y) = !b := by
  by_cases h : x = y
  · rw [hb.2 h]; simp [h]
  · rw [bool_no hb h]; simp [h]
set_option maxHeartbeats 1000000 in
theorem neqNd (w : World) (b : Bool) : ∀ (x y : Nd), (b = true ↔ x = y) → (binOp .neq 41 (.agg #[.int .i64 x.op, .int .i64 x.w, .int .i64 x.a, .int .i64 x.b, .int .i64 x.c, .int .i64 x.n, .int .i64 x.lo]) (.agg #[.int .i64 y.op, .int .i64 y.w, .int .i64 y.a, .int .i64 y.b, .int .i64 y.c, .int .i64 y.n, .int .i64 y.lo])).run Try.prog w = .ok (.bool (!b)) w := by
  rintro ⟨x0, x1, x2, x3, x4, x5, x6⟩ ⟨y0, y1, y2, y3, y4, y5, y6⟩ hb
  have hS : Try.prog.underlying 41 = some (.struct (Try.prog.fieldsOf 41)) := by kernel_rfl
  have hp : Try.prog.stoodInHeld 41 = false := by kernel_rfl
  have u3 := Try.underlying3
  have u9 := Try.underlying9
  simp only
  rw [run_neq_struct, show (10000 : Nat) = 9999 + 1 from rfl, run_equalIn_agg w 9999 41 _ _ hS hp]
  simp only [Program.fieldsOf, Try.underlying41]
  by_cases h0 : x0 ≠ y0
  · have hn : b = false := bool_no hb (by intro e; injection e; contradiction)
    have q : (x0 == y0) = false := by simpa using h0
    subst hn
    go_simp
  replace h0 := Classical.not_not.1 h0
  subst h0
  by_cases h1 : x1 ≠ y1
  · have hn : b = false := bool_no hb (by intro e; injection e; contradiction)
    have q : (x1 == y1) = false := by simpa using h1
    subst hn
    go_simp
  replace h1 := Classical.not_not.1 h1
  subst h1
  by_cases h2 : x2 ≠ y2
  · have hn : b = false := bool_no hb (by intro e; injection e; contradiction)
    have q : (x2 == y2) = false := by simpa using h2
    subst hn
    go_simp
  replace h2 := Classical.not_not.1 h2
  subst h2
  by_cases h3 : x3 ≠ y3
  · have hn : b = false := bool_no hb (by intro e; injection e; contradiction)
    have q : (x3 == y3) = false := by simpa using h3
    subst hn
    go_simp
  replace h3 := Classical.not_not.1 h3
  subst h3
  by_cases h4 : x4 ≠ y4
  · have hn : b = false := bool_no hb (by intro e; injection e; contradiction)
    have q : (x4 == y4) = false := by simpa using h4
    subst hn
    go_simp
  replace h4 := Classical.not_not.1 h4
  subst h4
  by_cases h5 : x5 ≠ y5
  · have hn : b = false := bool_no hb (by intro e; injection e; contradiction)
    have q : (x5 == y5) = false := by simpa using h5
    subst hn
    go_simp
  replace h5 := Classical.not_not.1 h5
  subst h5
  by_cases h6 : x6 ≠ y6
  · have hn : b = false := bool_no hb (by intro e; injection e; contradiction)
    have q : (x6 == y6) = false := by simpa using h6
    subst hn
    go_simp
  replace h6 := Classical.not_not.1 h6
  subst h6
  have hn : b = true := hb.2 rfl
  subst hn
  go_simp
set_option maxHeartbeats 1000000 in
theorem neqPn (w : World) (b : Bool) : ∀ (x y : Pn), (b = true ↔ x = y) → (binOp .neq 47 (.agg #[.string x.s, .int .i64 x.node]) (.agg #[.string y.s, .int .i64 y.node])).run Try.prog w = .ok (.bool (!b)) w := by
  rintro ⟨x0, x1⟩ ⟨y0, y1⟩ hb
  have hS : Try.prog.underlying 47 = some (.struct (Try.prog.fieldsOf 47)) := by kernel_rfl
  have hp : Try.prog.stoodInHeld 47 = false := by kernel_rfl
  have u3 := Try.underlying3
  have u9 := Try.underlying9
  simp only
  rw [run_neq_struct, show (10000 : Nat) = 9999 + 1 from rfl, run_equalIn_agg w 9999 47 _ _ hS hp]
  simp only [Program.fieldsOf, Try.underlying47]
  by_cases h0 : x0 ≠ y0
  · have hn : b = false := bool_no hb (by intro e; injection e; contradiction)
    have q : (x0.toList == y0.toList) = false := toList_ne h0
    subst hn
    go_simp
  replace h0 := Classical.not_not.1 h0
  subst h0
  by_cases h1 : x1 ≠ y1
  · have hn : b = false := bool_no hb (by intro e; injection e; contradiction)
    have q : (x1 == y1) = false := by simpa using h1
    subst hn
    go_simp
  replace h1 := Classical.not_not.1 h1
  subst h1
  have hn : b = true := hb.2 rfl
  subst hn
  go_simp
set_option maxHeartbeats 1000000 in
theorem neqCe (w : World) (b : Bool) : ∀ (x y : Ce), (b = true ↔ x = y) → (binOp .neq 43 (.agg #[.string x.s, .int .i64 x.node, .int .i64 x.next, .int .i64 x.reset]) (.agg #[.string y.s, .int .i64 y.node, .int .i64 y.next, .int .i64 y.reset])).run Try.prog w = .ok (.bool (!b)) w := by
  rintro ⟨x0, x1, x2, x3⟩ ⟨y0, y1, y2, y3⟩ hb
  have hS : Try.prog.underlying 43 = some (.struct (Try.prog.fieldsOf 43)) := by kernel_rfl
  have hp : Try.prog.stoodInHeld 43 = false := by kernel_rfl
  have u3 := Try.underlying3
  have u9 := Try.underlying9
  simp only
  rw [run_neq_struct, show (10000 : Nat) = 9999 + 1 from rfl, run_equalIn_agg w 9999 43 _ _ hS hp]
  simp only [Program.fieldsOf, Try.underlying43]
  by_cases h0 : x0 ≠ y0
  · have hn : b = false := bool_no hb (by intro e; injection e; contradiction)
    have q : (x0.toList == y0.toList) = false := toList_ne h0
    subst hn
    go_simp
  replace h0 := Classical.not_not.1 h0
  subst h0
  by_cases h1 : x1 ≠ y1
  · have hn : b = false := bool_no hb (by intro e; injection e; contradiction)
    have q : (x1 == y1) = false := by simpa using h1
    subst hn
    go_simp
  replace h1 := Classical.not_not.1 h1
  subst h1
  by_cases h2 : x2 ≠ y2
  · have hn : b = false := bool_no hb (by intro e; injection e; contradiction)
    have q : (x2 == y2) = false := by simpa using h2
    subst hn
    go_simp
  replace h2 := Classical.not_not.1 h2
  subst h2
  by_cases h3 : x3 ≠ y3
  · have hn : b = false := bool_no hb (by intro e; injection e; contradiction)
    have q : (x3 == y3) = false := by simpa using h3
    subst hn
    go_simp
  replace h3 := Classical.not_not.1 h3
  subst h3
  have hn : b = true := hb.2 rfl
  subst hn
  go_simp
set_option maxHeartbeats 1000000 in
theorem neqPr (w : World) (b : Bool) : ∀ (x y : Pr), (b = true ↔ x = y) → (binOp .neq 59 (.agg #[.int .i64 x.kind, .string x.s, .int .i64 x.node]) (.agg #[.int .i64 y.kind, .string y.s, .int .i64 y.node])).run Try.prog w = .ok (.bool (!b)) w := by
  rintro ⟨x0, x1, x2⟩ ⟨y0, y1, y2⟩ hb
  have hS : Try.prog.underlying 59 = some (.struct (Try.prog.fieldsOf 59)) := by kernel_rfl
  have hp : Try.prog.stoodInHeld 59 = false := by kernel_rfl
  have u3 := Try.underlying3
  have u9 := Try.underlying9
  simp only
  rw [run_neq_struct, show (10000 : Nat) = 9999 + 1 from rfl, run_equalIn_agg w 9999 59 _ _ hS hp]
  simp only [Program.fieldsOf, Try.underlying59]
  by_cases h0 : x0 ≠ y0
  · have hn : b = false := bool_no hb (by intro e; injection e; contradiction)
    have q : (x0 == y0) = false := by simpa using h0
    subst hn
    go_simp
  replace h0 := Classical.not_not.1 h0
  subst h0
  by_cases h1 : x1 ≠ y1
  · have hn : b = false := bool_no hb (by intro e; injection e; contradiction)
    have q : (x1.toList == y1.toList) = false := toList_ne h1
    subst hn
    go_simp
  replace h1 := Classical.not_not.1 h1
  subst h1
  by_cases h2 : x2 ≠ y2
  · have hn : b = false := bool_no hb (by intro e; injection e; contradiction)
    have q : (x2 == y2) = false := by simpa using h2
    subst hn
    go_simp
  replace h2 := Classical.not_not.1 h2
  subst h2
  have hn : b = true := hb.2 rfl
  subst hn
  go_simp
set_option maxRecDepth 100000 in
set_option maxHeartbeats 2000000 in
theorem equalInt_any (A A' : Option Addr) (c c' : Nat) (xs ys : List Int) (w : World) (hl : xs.length ≤ 4000) (_hl' : ys.length ≤ 4000) (h : Hid (Ints w w.heap.size A xs)) (h' : Hid (Ints w w.heap.size A' ys)) (b : Bool) (hb : Hid (b = true ↔ xs = ys)) :
    Calls Try.prog 45 #[.slice A xs.length c, .slice A' ys.length c'] w fun e w' => e = .returned (.bool b) ∧ Gr w w' := by
  by_cases hln : xs.length = ys.length
  case neg =>
    have HB := Lib.hid (bool_no hb.out fun e => hln (by rw [e]))
    have q : ((xs.length : Int) != (ys.length : Int)) = true := by simp; omega
    clear hln
    go_enter Try.func45, Try.ntmps45
    go_wp2_with fail
    go_ret
    exact ⟨by rw [HB.out]; rfl, Gr.refl _⟩
  have q : ((xs.length : Int) != (ys.length : Int)) = false := by simp; omega
  have HL := Lib.hid hln
  clear hln
  go_enter Try.func45, Try.ntmps45
  go_wp2_with fail
  go_loopg [13] xs.length (fun g i wr => ∃ j n : Nat, j + g = xs.length ∧ i = .int .i64 j ∧ Hid (∀ i x y, i < j → xs[i]? = some x → ys[i]? = some y → x = y) ∧ Hid (wr = w.drewN n))
  case atStart => exact ⟨0, 0, by omega, rfl, Lib.hid (fun i x y hi => by omega), Lib.hid rfl⟩
  case round =>
    obtain ⟨j, n, hjg, rfl, HA, HW⟩ := hrel
    obtain rfl := HW.out
    have HJ := Lib.hid hjg
    have hjl : j ≤ xs.length := by omega
    clear hjg q
    by_cases hlt : j < xs.length
    · have hs : xs[j]? = some xs[j] := List.getElem?_eq_getElem hlt
      have hlt' : j < ys.length := by have := HL.out; omega
      have hs' : ys[j]? = some ys[j] := List.getElem?_eq_getElem hlt'
      generalize xs[j] = x at hs
      generalize ys[j] = y at hs'
      have HS := Lib.hid hs
      have HS' := Lib.hid hs'
      obtain ⟨bb, off, rfl, -, d0⟩ := h.out j x hs
      obtain ⟨bb', off', rfl, -, e0⟩ := h'.out j y hs'
      clear hs hs'
      have hi1 : (j : Int) < (xs.length : Int) := by omega
      have hi2 : (j : Int) < (ys.length : Int) := by omega
      have hi0 : (0 : Int) ≤ (j : Int) := by omega
      by_cases hxy : x = y
      · have HX := Lib.hid hxy
        have q : (x != y) = false := by simp [hxy]
        clear hxy
        go_wp2_with fail
        go_quiet (fail)
        go_wp2_with fail
        go_roundg (gk - 1)
        case measure => have := HJ.out; omega
        case rel =>
          refine ⟨j + 1, n + nq, by have := HJ.out; omega, by go_num, Lib.hid (fun i x' y' hi hx' hy' => ?_), Lib.hid (by first | rfl | rw [World.drewN_drewN])⟩
          by_cases h2 : i < j
          · exact HA.out i x' y' h2 hx' hy'
          · have e2 : i = j := by omega
            subst e2
            rw [HS.out] at hx'
            rw [HS'.out] at hy'
            rw [← Option.some.inj hx', ← Option.some.inj hy']
            exact HX.out
      · have HX := Lib.hid hxy
        have q : (x != y) = true := by simp [hxy]
        clear hxy
        go_wp2_with fail
        go_quiet (fail)
        go_wp2_with fail
        go_ret
        exact ⟨by rw [bool_no hb.out fun e => HX.out (by have h1 := HS.out; rw [e, HS'.out] at h1; exact (Option.some.inj h1).symm)]; rfl, Below.drewN (Below.drewN (Below.refl _ _) _) _⟩
    · have HB := Lib.hid (hb.out.2 (list_ext_len HL.out fun i x y hx hy => HA.out i x y (by have := (List.getElem?_eq_some_iff.1 hx).1; have := HJ.out; omega) hx hy))
      go_wp2_with fail
      go_ret
      exact ⟨by rw [HB.out]; rfl, Below.drewN (Below.refl _ _) _⟩
set_option maxRecDepth 100000 in
set_option maxHeartbeats 2000000 in
theorem equalNd_any (A A' : Option Addr) (c c' : Nat) (xs ys : List Nd) (w : World) (hl : xs.length ≤ 4000) (_hl' : ys.length ≤ 4000) (h : Hid (Nds w w.heap.size A xs)) (h' : Hid (Nds w w.heap.size A' ys)) (b : Bool) (hb : Hid (b = true ↔ xs = ys)) :
    Calls Try.prog 35 #[.slice A xs.length c, .slice A' ys.length c'] w fun e w' => e = .returned (.bool b) ∧ Gr w w' := by
  by_cases hln : xs.length = ys.length
  case neg =>
    have HB := Lib.hid (bool_no hb.out fun e => hln (by rw [e]))
    have q : ((xs.length : Int) != (ys.length : Int)) = true := by simp; omega
    clear hln
    go_enter Try.func35, Try.ntmps35
    go_wp2_with fail
    go_ret
    exact ⟨by rw [HB.out]; rfl, Gr.refl _⟩
  have q : ((xs.length : Int) != (ys.length : Int)) = false := by simp; omega
  have HL := Lib.hid hln
  clear hln
  go_enter Try.func35, Try.ntmps35
  go_wp2_with fail
  go_loopg [13] xs.length (fun g i wr => ∃ j n : Nat, j + g = xs.length ∧ i = .int .i64 j ∧ Hid (∀ i x y, i < j → xs[i]? = some x → ys[i]? = some y → x = y) ∧ Hid (wr = w.drewN n))
  case atStart => exact ⟨0, 0, by omega, rfl, Lib.hid (fun i x y hi => by omega), Lib.hid rfl⟩
  case round =>
    obtain ⟨j, n, hjg, rfl, HA, HW⟩ := hrel
    obtain rfl := HW.out
    have HJ := Lib.hid hjg
    have hjl : j ≤ xs.length := by omega
    clear hjg q
    by_cases hlt : j < xs.length
    · have hs : xs[j]? = some xs[j] := List.getElem?_eq_getElem hlt
      have hlt' : j < ys.length := by have := HL.out; omega
      have hs' : ys[j]? = some ys[j] := List.getElem?_eq_getElem hlt'
      generalize xs[j] = x at hs
      generalize ys[j] = y at hs'
      have HS := Lib.hid hs
      have HS' := Lib.hid hs'
      obtain ⟨bb, off, rfl, -, d0, d1, d2, d3, d4, d5, d6⟩ := h.out j x hs
      obtain ⟨bb', off', rfl, -, e0, e1, e2, e3, e4, e5, e6⟩ := h'.out j y hs'
      clear hs hs'
      have hi1 : (j : Int) < (xs.length : Int) := by omega
      have hi2 : (j : Int) < (ys.length : Int) := by omega
      have hi0 : (0 : Int) ≤ (j : Int) := by omega
      by_cases hxy : x = y
      · have HX := Lib.hid hxy
        have q := fun u : World => neqNd u true x y (by simp [hxy])
        simp only [Bool.not_true] at q
        clear hxy
        go_wp2_with fail
        go_quiet (fail)
        go_wp2_with fail
        go_roundg (gk - 1)
        case measure => have := HJ.out; omega
        case rel =>
          refine ⟨j + 1, n + nq, by have := HJ.out; omega, by go_num, Lib.hid (fun i x' y' hi hx' hy' => ?_), Lib.hid (by first | rfl | rw [World.drewN_drewN])⟩
          by_cases h2 : i < j
          · exact HA.out i x' y' h2 hx' hy'
          · have e2 : i = j := by omega
            subst e2
            rw [HS.out] at hx'
            rw [HS'.out] at hy'
            rw [← Option.some.inj hx', ← Option.some.inj hy']
            exact HX.out
      · have HX := Lib.hid hxy
        have q := fun u : World => neqNd u false x y (by simp [hxy])
        simp only [Bool.not_false] at q
        clear hxy
        go_wp2_with fail
        go_quiet (fail)
        go_wp2_with fail
        go_ret
        exact ⟨by rw [bool_no hb.out fun e => HX.out (by have h1 := HS.out; rw [e, HS'.out] at h1; exact (Option.some.inj h1).symm)]; rfl, Below.drewN (Below.drewN (Below.refl _ _) _) _⟩
    · have HB := Lib.hid (hb.out.2 (list_ext_len HL.out fun i x y hx hy => HA.out i x y (by have := (List.getElem?_eq_some_iff.1 hx).1; have := HJ.out; omega) hx hy))
      go_wp2_with fail
      go_ret
      exact ⟨by rw [HB.out]; rfl, Below.drewN (Below.refl _ _) _⟩
set_option maxRecDepth 100000 in
set_option maxHeartbeats 2000000 in
theorem equalPn_any (A A' : Option Addr) (c c' : Nat) (xs ys : List Pn) (w : World) (hl : xs.length ≤ 4000) (_hl' : ys.length ≤ 4000) (h : Hid (Pns w w.heap.size A xs)) (h' : Hid (Pns w w.heap.size A' ys)) (b : Bool) (hb : Hid (b = true ↔ xs = ys)) :
    Calls Try.prog 36 #[.slice A xs.length c, .slice A' ys.length c'] w fun e w' => e = .returned (.bool b) ∧ Gr w w' := by
  by_cases hln : xs.length = ys.length
  case neg =>
    have HB := Lib.hid (bool_no hb.out fun e => hln (by rw [e]))
    have q : ((xs.length : Int) != (ys.length : Int)) = true := by simp; omega
    clear hln
    go_enter Try.func36, Try.ntmps36
    go_wp2_with fail
    go_ret
    exact ⟨by rw [HB.out]; rfl, Gr.refl _⟩
  have q : ((xs.length : Int) != (ys.length : Int)) = false := by simp; omega
  have HL := Lib.hid hln
  clear hln
  go_enter Try.func36, Try.ntmps36
  go_wp2_with fail
  go_loopg [13] xs.length (fun g i wr => ∃ j n : Nat, j + g = xs.length ∧ i = .int .i64 j ∧ Hid (∀ i x y, i < j → xs[i]? = some x → ys[i]? = some y → x = y) ∧ Hid (wr = w.drewN n))
  case atStart => exact ⟨0, 0, by omega, rfl, Lib.hid (fun i x y hi => by omega), Lib.hid rfl⟩
  case round =>
    obtain ⟨j, n, hjg, rfl, HA, HW⟩ := hrel
    obtain rfl := HW.out
    have HJ := Lib.hid hjg
    have hjl : j ≤ xs.length := by omega
    clear hjg q
    by_cases hlt : j < xs.length
    · have hs : xs[j]? = some xs[j] := List.getElem?_eq_getElem hlt
      have hlt' : j < ys.length := by have := HL.out; omega
      have hs' : ys[j]? = some ys[j] := List.getElem?_eq_getElem hlt'
      generalize xs[j] = x at hs
      generalize ys[j] = y at hs'
      have HS := Lib.hid hs
      have HS' := Lib.hid hs'
      obtain ⟨bb, off, rfl, -, d0, d1⟩ := h.out j x hs
      obtain ⟨bb', off', rfl, -, e0, e1⟩ := h'.out j y hs'
      clear hs hs'
      have hi1 : (j : Int) < (xs.length : Int) := by omega
      have hi2 : (j : Int) < (ys.length : Int) := by omega
      have hi0 : (0 : Int) ≤ (j : Int) := by omega
      by_cases hxy : x = y
      · have HX := Lib.hid hxy
        have q := fun u : World => neqPn u true x y (by simp [hxy])
        simp only [Bool.not_true] at q
        clear hxy
        go_wp2_with fail
        go_quiet (fail)
        go_wp2_with fail
        go_roundg (gk - 1)
        case measure => have := HJ.out; omega
        case rel =>
          refine ⟨j + 1, n + nq, by have := HJ.out; omega, by go_num, Lib.hid (fun i x' y' hi hx' hy' => ?_), Lib.hid (by first | rfl | rw [World.drewN_drewN])⟩
          by_cases h2 : i < j
          · exact HA.out i x' y' h2 hx' hy'
          · have e2 : i = j := by omega
            subst e2
            rw [HS.out] at hx'
            rw [HS'.out] at hy'
            rw [← Option.some.inj hx', ← Option.some.inj hy']
            exact HX.out
      · have HX := Lib.hid hxy
        have q := fun u : World => neqPn u false x y (by simp [hxy])
        simp only [Bool.not_false] at q
        clear hxy
        go_wp2_with fail
        go_quiet (fail)
        go_wp2_with fail
        go_ret
        exact ⟨by rw [bool_no hb.out fun e => HX.out (by have h1 := HS.out; rw [e, HS'.out] at h1; exact (Option.some.inj h1).symm)]; rfl, Below.drewN (Below.drewN (Below.refl _ _) _) _⟩
    · have HB := Lib.hid (hb.out.2 (list_ext_len HL.out fun i x y hx hy => HA.out i x y (by have := (List.getElem?_eq_some_iff.1 hx).1; have := HJ.out; omega) hx hy))
      go_wp2_with fail
      go_ret
      exact ⟨by rw [HB.out]; rfl, Below.drewN (Below.refl _ _) _⟩
set_option maxRecDepth 100000 in
set_option maxHeartbeats 2000000 in
theorem equalCe_any (A A' : Option Addr) (c c' : Nat) (xs ys : List Ce) (w : World) (hl : xs.length ≤ 4000) (_hl' : ys.length ≤ 4000) (h : Hid (Ces w w.heap.size A xs)) (h' : Hid (Ces w w.heap.size A' ys)) (b : Bool) (hb : Hid (b = true ↔ xs = ys)) :
    Calls Try.prog 37 #[.slice A xs.length c, .slice A' ys.length c'] w fun e w' => e = .returned (.bool b) ∧ Gr w w' := by
  by_cases hln : xs.length = ys.length
  case neg =>
    have HB := Lib.hid (bool_no hb.out fun e => hln (by rw [e]))
    have q : ((xs.length : Int) != (ys.length : Int)) = true := by simp; omega
    clear hln
    go_enter Try.func37, Try.ntmps37
    go_wp2_with fail
    go_ret
    exact ⟨by rw [HB.out]; rfl, Gr.refl _⟩
  have q : ((xs.length : Int) != (ys.length : Int)) = false := by simp; omega
  have HL := Lib.hid hln
  clear hln
  go_enter Try.func37, Try.ntmps37
  go_wp2_with fail
  go_loopg [13] xs.length (fun g i wr => ∃ j n : Nat, j + g = xs.length ∧ i = .int .i64 j ∧ Hid (∀ i x y, i < j → xs[i]? = some x → ys[i]? = some y → x = y) ∧ Hid (wr = w.drewN n))
  case atStart => exact ⟨0, 0, by omega, rfl, Lib.hid (fun i x y hi => by omega), Lib.hid rfl⟩
  case round =>
    obtain ⟨j, n, hjg, rfl, HA, HW⟩ := hrel
    obtain rfl := HW.out
    have HJ := Lib.hid hjg
    have hjl : j ≤ xs.length := by omega
    clear hjg q
    by_cases hlt : j < xs.length
    · have hs : xs[j]? = some xs[j] := List.getElem?_eq_getElem hlt
      have hlt' : j < ys.length := by have := HL.out; omega
      have hs' : ys[j]? = some ys[j] := List.getElem?_eq_getElem hlt'
      generalize xs[j] = x at hs
      generalize ys[j] = y at hs'
      have HS := Lib.hid hs
      have HS' := Lib.hid hs'
      obtain ⟨bb, off, rfl, -, d0, d1, d2, d3⟩ := h.out j x hs
      obtain ⟨bb', off', rfl, -, e0, e1, e2, e3⟩ := h'.out j y hs'
      clear hs hs'
      have hi1 : (j : Int) < (xs.length : Int) := by omega
      have hi2 : (j : Int) < (ys.length : Int) := by omega
      have hi0 : (0 : Int) ≤ (j : Int) := by omega
      by_cases hxy : x = y
      · have HX := Lib.hid hxy
        have q := fun u : World => neqCe u true x y (by simp [hxy])
        simp only [Bool.not_true] at q
        clear hxy
        go_wp2_with fail
        go_quiet (fail)
        go_wp2_with fail
        go_roundg (gk - 1)
        case measure => have := HJ.out; omega
        case rel =>
          refine ⟨j + 1, n + nq, by have := HJ.out; omega, by go_num, Lib.hid (fun i x' y' hi hx' hy' => ?_), Lib.hid (by first | rfl | rw [World.drewN_drewN])⟩
          by_cases h2 : i < j
          · exact HA.out i x' y' h2 hx' hy'
          · have e2 : i = j := by omega
            subst e2
            rw [HS.out] at hx'
            rw [HS'.out] at hy'
            rw [← Option.some.inj hx', ← Option.some.inj hy']
            exact HX.out
      · have HX := Lib.hid hxy
        have q := fun u : World => neqCe u false x y (by simp [hxy])
        simp only [Bool.not_false] at q
        clear hxy
        go_wp2_with fail
        go_quiet (fail)
        go_wp2_with fail
        go_ret
        exact ⟨by rw [bool_no hb.out fun e => HX.out (by have h1 := HS.out; rw [e, HS'.out] at h1; exact (Option.some.inj h1).symm)]; rfl, Below.drewN (Below.drewN (Below.refl _ _) _) _⟩
    · have HB := Lib.hid (hb.out.2 (list_ext_len HL.out fun i x y hx hy => HA.out i x y (by have := (List.getElem?_eq_some_iff.1 hx).1; have := HJ.out; omega) hx hy))
      go_wp2_with fail
      go_ret
      exact ⟨by rw [HB.out]; rfl, Below.drewN (Below.refl _ _) _⟩
set_option maxRecDepth 100000 in
set_option maxHeartbeats 2000000 in
theorem equalPr_any (A A' : Option Addr) (c c' : Nat) (xs ys : List Pr) (w : World) (hl : xs.length ≤ 4000) (_hl' : ys.length ≤ 4000) (h : Hid (Prs w w.heap.size A xs)) (h' : Hid (Prs w w.heap.size A' ys)) (b : Bool) (hb : Hid (b = true ↔ xs = ys)) :
    Calls Try.prog 38 #[.slice A xs.length c, .slice A' ys.length c'] w fun e w' => e = .returned (.bool b) ∧ Gr w w' := by
  by_cases hln : xs.length = ys.length
  case neg =>
    have HB := Lib.hid (bool_no hb.out fun e => hln (by rw [e]))
    have q : ((xs.length : Int) != (ys.length : Int)) = true := by simp; omega
    clear hln
    go_enter Try.func38, Try.ntmps38
    go_wp2_with fail
    go_ret
    exact ⟨by rw [HB.out]; rfl, Gr.refl _⟩
  have q : ((xs.length : Int) != (ys.length : Int)) = false := by simp; omega
  have HL := Lib.hid hln
  clear hln
  go_enter Try.func38, Try.ntmps38
  go_wp2_with fail
  go_loopg [13] xs.length (fun g i wr => ∃ j n : Nat, j + g = xs.length ∧ i = .int .i64 j ∧ Hid (∀ i x y, i < j → xs[i]? = some x → ys[i]? = some y → x = y) ∧ Hid (wr = w.drewN n))
  case atStart => exact ⟨0, 0, by omega, rfl, Lib.hid (fun i x y hi => by omega), Lib.hid rfl⟩
  case round =>
    obtain ⟨j, n, hjg, rfl, HA, HW⟩ := hrel
    obtain rfl := HW.out
    have HJ := Lib.hid hjg
    have hjl : j ≤ xs.length := by omega
    clear hjg q
    by_cases hlt : j < xs.length
    · have hs : xs[j]? = some xs[j] := List.getElem?_eq_getElem hlt
      have hlt' : j < ys.length := by have := HL.out; omega
      have hs' : ys[j]? = some ys[j] := List.getElem?_eq_getElem hlt'
      generalize xs[j] = x at hs
      generalize ys[j] = y at hs'
      have HS := Lib.hid hs
      have HS' := Lib.hid hs'
      obtain ⟨bb, off, rfl, -, d0, d1, d2⟩ := h.out j x hs
      obtain ⟨bb', off', rfl, -, e0, e1, e2⟩ := h'.out j y hs'
      clear hs hs'
      have hi1 : (j : Int) < (xs.length : Int) := by omega
      have hi2 : (j : Int) < (ys.length : Int) := by omega
      have hi0 : (0 : Int) ≤ (j : Int) := by omega
      by_cases hxy : x = y
      · have HX := Lib.hid hxy
        have q := fun u : World => neqPr u true x y (by simp [hxy])
        simp only [Bool.not_true] at q
        clear hxy
        go_wp2_with fail
        go_quiet (fail)
        go_wp2_with fail
        go_roundg (gk - 1)
        case measure => have := HJ.out; omega
        case rel =>
          refine ⟨j + 1, n + nq, by have := HJ.out; omega, by go_num, Lib.hid (fun i x' y' hi hx' hy' => ?_), Lib.hid (by first | rfl | rw [World.drewN_drewN])⟩
          by_cases h2 : i < j
          · exact HA.out i x' y' h2 hx' hy'
          · have e2 : i = j := by omega
            subst e2
            rw [HS.out] at hx'
            rw [HS'.out] at hy'
            rw [← Option.some.inj hx', ← Option.some.inj hy']
            exact HX.out
      · have HX := Lib.hid hxy
        have q := fun u : World => neqPr u false x y (by simp [hxy])
        simp only [Bool.not_false] at q
        clear hxy
        go_wp2_with fail
        go_quiet (fail)
        go_wp2_with fail
        go_ret
        exact ⟨by rw [bool_no hb.out fun e => HX.out (by have h1 := HS.out; rw [e, HS'.out] at h1; exact (Option.some.inj h1).symm)]; rfl, Below.drewN (Below.drewN (Below.refl _ _) _) _⟩
    · have HB := Lib.hid (hb.out.2 (list_ext_len HL.out fun i x y hx hy => HA.out i x y (by have := (List.getElem?_eq_some_iff.1 hx).1; have := HJ.out; omega) hx hy))
      go_wp2_with fail
      go_ret
      exact ⟨by rw [HB.out]; rfl, Below.drewN (Below.refl _ _) _⟩
end Go.Proofs.Ytnkifhgkhgialaa
