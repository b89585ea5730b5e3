/-
  THE DOCUMENT'S node, WALKED.
-/
import Derived.Test.YtmnblcnhbafcpaaJ19
import Derived.Test.YtmnblcnhbafcpaaJ20
import Derived.Test.YtmnblcnhbafcpaaJ21
import Derived.Test.YtmnblcnhbafcpaaJ22
/-
  THE DOCUMENT'S node, WALKED: it asks what the rules ask.
-/
namespace Go.Proofs.Ytmnblcnhbafcpaa
open Go.RowKit
open NetM

/-- the document's words for a node -/
def DOk (l : List Nd) (x : Nd) : Prop := 1 ≤ x.w ∧ x.w ≤ 16 ∧ ∃ k bn bl f, ruleOf x.op = some (k, bn, bl, f) ∧ (k < 1 → x.a = 0) ∧ (k < 2 → x.b = 0) ∧ (k < 3 → x.c = 0) ∧ FOk (opd l x 0) (opd l x 1) (opd l x 2) x
set_option maxHeartbeats 8000000 in
theorem node_iff {l : List Nd} {x : Nd} (hw : WOk l) : NdOk l x ↔ DOk l x := by
  have o0 := widA_ok hw (plc x 0)
  have o1 := widA_ok hw (plc x 1)
  have o2 := widA_ok hw (plc x 2)
  change 0 ≤ opd l x 0 ∧ opd l x 0 ≤ 16 at o0
  change 0 ≤ opd l x 1 ∧ opd l x 1 ≤ 16 at o1
  change 0 ≤ opd l x 2 ∧ opd l x 2 ≤ 16 at o2
  constructor
  · rintro ⟨k, bn, bl, f, hr, h1, h2, h3, ⟨h4, h4'⟩, h5⟩
    refine ⟨h1, h2, k, bn, bl, f, hr, fun hk => (h3 0 (by decide)).1 (by omega), fun hk => (h3 1 (by decide)).1 (by omega), fun hk => (h3 2 (by decide)).1 (by omega), ?_⟩
    have n0 := (h3 0 (by decide)).2
    have n1 := (h3 1 (by decide)).2
    have n2 := (h3 2 (by decide)).2
    obtain ⟨f56, f57, f58, f59, f60, f61⟩ := h5
    clear h3
    unfold ruleOf at hr
    unfold AllW at f57 f58
    unfold FOk
    repeat' split at hr
    all_goals
      simp only [Option.some.injEq, Prod.mk.injEq, reduceCtorEq] at hr
    all_goals
      obtain ⟨rfl, rfl, rfl, rfl⟩ := hr
      simp only [Bool.false_eq_true, false_or, true_or, Nat.reduceLT, Nat.reduceEqDiff, false_implies, forall_const, Nat.lt_irrefl] at h4 h4' n0 n1 n2 f56 f57 f58 f59 f60 f61
    all_goals
      refine ⟨fun h => ?_, fun h => ?_, fun h => ?_, fun h => ?_, fun h => ?_, fun h => ?_, fun h => ?_, fun h => ?_, fun h => ?_⟩
    all_goals first
      | (exfalso; omega)
      | omega
      | (have g0 := f57 0 (by decide); omega)
      | (have g0 := f57 0 (by decide); have g1 := f57 1 (by decide); omega)
      | (have g0 := f58.2 0 (by decide); have := f58.1; omega)
      | (have g0 := f58.2 0 (by decide); have g1 := f58.2 1 (by decide); have := f58.1; omega)
  · rintro ⟨h1, h2, k, bn, bl, f, hr, ha, hb, hc, h5⟩
    obtain ⟨g1, g2, g3, g4, g5, g6, g7, g8, g9⟩ := h5
    refine ⟨k, bn, bl, f, hr, h1, h2, ?_, ?_, ?_⟩
    all_goals
      unfold ruleOf at hr
      repeat' split at hr
    all_goals
      simp only [Option.some.injEq, Prod.mk.injEq, reduceCtorEq] at hr
    all_goals
      obtain ⟨rfl, rfl, rfl, rfl⟩ := hr
    all_goals first
      | (intro j hj
         match j, hj with
         | 0, _ => exact ⟨fun h => by first | exact ha (by omega) | omega, fun h => by omega⟩
         | 1, _ => exact ⟨fun h => by first | exact hb (by omega) | omega, fun h => by omega⟩
         | 2, _ => exact ⟨fun h => by first | exact hc (by omega) | omega, fun h => by omega⟩)
      | (refine ⟨?_, ?_⟩
         all_goals first
           | exact Or.inl rfl
           | (right; omega))
      | (refine ⟨fun h => ?_, fun h => ?_, fun h => ?_, fun h => ?_, fun h => ?_, fun h => ?_⟩
         all_goals first
           | (exfalso; omega)
           | omega
           | (intro j hj
              match j, hj with
              | 0, _ => omega
              | 1, hj => omega)
           | (refine ⟨by omega, ?_⟩
              intro j hj
              match j, hj with
              | 0, _ => omega
              | 1, hj => omega))
end Go.Proofs.Ytmnblcnhbafcpaa

namespace Go.Proofs.Ytmnblcnhbafcpaa
open Go.RowKit
open NetM

theorem opsI_some {op : Int} {k : Nat} {bn bl : Bool} {f : Nat} (h : ruleOf op = some (k, bn, bl, f)) : opsI op = (k : Int) := by unfold opsI; rw [h]
theorem opsI_none {op : Int} (h : ruleOf op = none) : opsI op = -1 := by unfold opsI; rw [h]
theorem fits_any (n : Nt) (v : Value) (i : Nat) (x : Nd) (w : World) (hs : Sz n) (hx : n.nodes[i]? = some x) (hr : ruleOf x.op ≠ none) (hW1 : 1 ≤ x.w) (hW2 : x.w ≤ 16) (hwok : WOk (n.nodes.take i)) (hn : Hid (NtAt w n v)) (b : Bool) (hb : b = true ↔ FOk (opd (n.nodes.take i) x 0) (opd (n.nodes.take i) x 1) (opd (n.nodes.take i) x 2) x) :
    Calls Try.prog 47 #[v, .int .i64 (i : Nat)] w fun e w' => e = .returned (.bool b) ∧ Gr w w' := by
  have ho : x.op = 1 ∨ (3 ≤ x.op ∧ x.op ≤ 18) ∨ x.op = 21 ∨ x.op = 22 := by
    cases h : ruleOf x.op with
    | none => exact absurd h hr
    | some r => exact rule_ops h
  by_cases ga : x.op = 1 ∨ x.op = 21 ∨ x.op = 22 ∨ x.op = 3 ∨ x.op = 4 ∨ x.op = 5
  · exact fits_a n v i x w hs hx ga hW1 hW2 hwok hn b hb
  by_cases gb : x.op = 6 ∨ x.op = 7 ∨ x.op = 8 ∨ x.op = 9 ∨ x.op = 10 ∨ x.op = 11
  · exact fits_b n v i x w hs hx gb hW1 hW2 hwok hn b hb
  by_cases gc : x.op = 12 ∨ x.op = 13 ∨ x.op = 14 ∨ x.op = 15
  · exact fits_c n v i x w hs hx gc hW1 hW2 hwok hn b hb
  · exact fits_d n v i x w hs hx (by omega) hW1 hW2 hwok hn b hb
set_option maxRecDepth 100000 in
set_option maxHeartbeats 20000000 in
theorem node_doc (n : Nt) (v : Value) (i : Nat) (x : Nd) (w : World) (hs : Sz n) (hx : n.nodes[i]? = some x) (hwok : WOk (n.nodes.take i)) (hn : Hid (NtAt w n v)) (b : Bool) (hb : b = true ↔ NdOk (n.nodes.take i) x) :
    Calls Try.prog 29 #[v, .int .i64 (i : Nat)] w fun e w' => e = .returned (.bool b) ∧ Gr w w' := by
  rw [node_iff hwok] at hb
  have HV := Lib.hid (fun (u : World) (hu : Gr w u) => hn.out.gr hu)
  obtain ⟨A1, A2, A3, A4, A5, c1, c2, c3, c4, c5, rfl, hc1, h1, h2, h3, h4, h5⟩ := hn.out
  have H1 := Lib.hid h1
  have H2 := Lib.hid h2
  have H3 := Lib.hid h3
  have H4 := Lib.hid h4
  have H5 := Lib.hid h5
  clear h1 h2 h3 h4 h5
  obtain ⟨W0, eW, BW, KEEP⟩ : ∃ W0, w.alloc (.cells (bxC n A1 A2 A3 A4 A5 c1 c2 c3 c4 c5) 27) = W0 ∧ Hid (Gr w W0) ∧ Hid (∀ u, Gr W0 u → BxAt u w.heap.size n A1 A2 A3 A4 A5 c1 c2 c3 c4 c5) :=
    ⟨_, rfl, Lib.hid (bel_alloc _ _), Lib.hid fun u hu => bx_gr (bx_new w n A1 A2 A3 A4 A5 c1 c2 c3 c4 c5) (by simp) hu⟩
  obtain ⟨e0, e1, e2, e3, e4⟩ := KEEP.out W0 (Gr.refl _)
  have hil : i < n.nodes.length := (List.getElem?_eq_some_iff.1 hx).1
  have hi1 : (i : Int) < (n.nodes.length : Int) := by omega
  have hi0 : (0 : Int) ≤ (i : Int) := by omega
  obtain ⟨bb, off, rfl, -, d0, d1, d2, d3, d4, d5, d6⟩ := (H1.out.gr BW.out) i x hx
  have HF := Lib.hid (fun (hr : ruleOf x.op ≠ none) (hW1 : 1 ≤ x.w) (hW2 : x.w ≤ 16) (b' : Bool) (hb' : b' = true ↔ FOk (opd (n.nodes.take i) x 0) (opd (n.nodes.take i) x 1) (opd (n.nodes.take i) x 2) x) (u : World) (hu : Gr w u) => fits_any n _ i x u hs hx hr hW1 hW2 hwok (Lib.hid (HV.out u hu)) b' hb')
  have HO := Lib.hid (fun u => operands_any x.op u)
  obtain ⟨W1, eW1, BW1, KX, KB⟩ : ∃ W1, W0.alloc (.cells #[.int .i64 x.op, .int .i64 x.w, .int .i64 x.a, .int .i64 x.b, .int .i64 x.c, .int .i64 x.n, .int .i64 x.lo] 53) = W1 ∧ Hid (Gr w W1) ∧ Hid (∀ u, Gr W1 u → XAt u W0.heap.size x) ∧ Hid (∀ u, Gr W1 u → BxAt u w.heap.size n (some ⟨bb, off, none⟩) A2 A3 A4 A5 c1 c2 c3 c4 c5) :=
    ⟨_, rfl, Lib.hid (Gr.trans BW.out (bel_alloc _ _)), Lib.hid fun u hu => x_gr (x_new W0 x) (by simp) hu, Lib.hid fun u hu => KEEP.out u (Gr.trans (bel_alloc _ _) hu)⟩
  obtain ⟨f0, f1, f2, f3, f4⟩ := KB.out _ (Gr.refl _)
  obtain ⟨x0, x1, x2, x3, x4, x5, x6⟩ := KX.out _ (Gr.refl _)
  clear hx hwok hs
  unfold DOk at hb
  obtain ⟨fo, hfo⟩ : ∃ fo : Prop, FOk (opd (n.nodes.take i) x 0) (opd (n.nodes.take i) x 1) (opd (n.nodes.take i) x 2) x = fo := ⟨_, rfl⟩
  rw [hfo] at hb HF
  clear hfo
  cases hru : ruleOf x.op with
  | none =>
    rw [opsI_none hru] at HO
    have HN := Lib.hid (bool_no hb (by rintro ⟨_, _, k, bn, bl, f, hr, _⟩; rw [hru] at hr; simp at hr))
    clear hru hb HF
    by_cases g1 : x.w < 1
    · go_enter Try.func29, Try.ntmps29
      go_wp2_with fail
      try rw [eW1]
      refine (HO.out _).mono ?_
      rintro e w1 ⟨rfl, rfl⟩
      go_wp2_with fail
      go_ret
      exact ⟨by rw [HN.out]; rfl, BW1.out⟩
    by_cases g2 : 16 < x.w
    · go_enter Try.func29, Try.ntmps29
      go_wp2_with fail
      try rw [eW1]
      refine (HO.out _).mono ?_
      rintro e w1 ⟨rfl, rfl⟩
      go_wp2_with fail
      go_ret
      exact ⟨by rw [HN.out]; rfl, BW1.out⟩
    · go_enter Try.func29, Try.ntmps29
      go_wp2_with fail
      try rw [eW1]
      refine (HO.out _).mono ?_
      rintro e w1 ⟨rfl, rfl⟩
      go_wp2_with fail
      go_ret
      exact ⟨by rw [HN.out]; rfl, BW1.out⟩
  | some ru =>
    obtain ⟨k, bn, bl, f⟩ := ru
    rw [opsI_some hru] at HO
    have hk := (rule_cases hru).1
    replace hb : b = true ↔ 1 ≤ x.w ∧ x.w ≤ 16 ∧ (k < 1 → x.a = 0) ∧ (k < 2 → x.b = 0) ∧ (k < 3 → x.c = 0) ∧ fo := by
      rw [hb]
      constructor
      · rintro ⟨h1, h2, k', bn', bl', f', hr', h3, h4, h5, h6⟩
        rw [hru] at hr'
        simp only [Option.some.injEq, Prod.mk.injEq] at hr'
        obtain ⟨rfl, rfl, rfl, rfl⟩ := hr'
        exact ⟨h1, h2, h3, h4, h5, h6⟩
      · rintro ⟨h1, h2, h3, h4, h5, h6⟩
        exact ⟨h1, h2, k, bn, bl, f, hru, h3, h4, h5, h6⟩
    have hrn : ruleOf x.op ≠ none := by rw [hru]; simp
    clear hru
    by_cases g1 : x.w < 1
    · have HN := Lib.hid (bool_no hb (fun h => by omega))
      clear hb hrn HF hk
      go_enter Try.func29, Try.ntmps29
      go_wp2_with fail
      try rw [eW1]
      refine (HO.out _).mono ?_
      rintro e w1 ⟨rfl, rfl⟩
      go_wp2_with fail
      go_ret
      exact ⟨by rw [HN.out]; rfl, BW1.out⟩
    by_cases g2 : 16 < x.w
    · have HN := Lib.hid (bool_no hb (fun h => by omega))
      clear hb hrn HF hk
      go_enter Try.func29, Try.ntmps29
      go_wp2_with fail
      try rw [eW1]
      refine (HO.out _).mono ?_
      rintro e w1 ⟨rfl, rfl⟩
      go_wp2_with fail
      go_ret
      exact ⟨by rw [HN.out]; rfl, BW1.out⟩
    have hfb : (1 ≤ x.w ∧ x.w ≤ 16) := by omega
    replace hb : b = true ↔ (k < 1 → x.a = 0) ∧ (k < 2 → x.b = 0) ∧ (k < 3 → x.c = 0) ∧ fo := hb.trans ⟨fun h => h.2.2, fun h => ⟨hfb.1, hfb.2, h⟩⟩
    replace HF := Lib.hid (HF.out hrn hfb.1 hfb.2)
    clear hrn hfb
    obtain rfl | rfl | rfl | rfl : k = 0 ∨ k = 1 ∨ k = 2 ∨ k = 3 := by omega
    · skip
      by_cases ga : x.a = 0
      case neg =>
        have HN := Lib.hid (bool_no hb (fun h => ga (h.1 (by decide))))
        have ta : (x.a != 0) = true := by simpa using ga
        clear hb HF hk ga
        go_enter Try.func29, Try.ntmps29
        go_wp2_with fail
        try rw [eW1]
        refine (HO.out _).mono ?_
        rintro e w1 ⟨rfl, rfl⟩
        go_wp2_with fail
        go_ret
        exact ⟨by rw [HN.out]; rfl, BW1.out⟩
      have ta : (x.a != 0) = false := by simpa using ga
      by_cases gb : x.b = 0
      case neg =>
        have HN := Lib.hid (bool_no hb (fun h => gb (h.2.1 (by decide))))
        have tb : (x.b != 0) = true := by simpa using gb
        clear hb HF hk ga gb
        go_enter Try.func29, Try.ntmps29
        go_wp2_with fail
        try rw [eW1]
        refine (HO.out _).mono ?_
        rintro e w1 ⟨rfl, rfl⟩
        go_wp2_with fail
        go_ret
        exact ⟨by rw [HN.out]; rfl, BW1.out⟩
      have tb : (x.b != 0) = false := by simpa using gb
      by_cases gc : x.c = 0
      case neg =>
        have HN := Lib.hid (bool_no hb (fun h => gc (h.2.2.1 (by decide))))
        have tc : (x.c != 0) = true := by simpa using gc
        clear hb HF hk ga gb gc
        go_enter Try.func29, Try.ntmps29
        go_wp2_with fail
        try rw [eW1]
        refine (HO.out _).mono ?_
        rintro e w1 ⟨rfl, rfl⟩
        go_wp2_with fail
        go_ret
        exact ⟨by rw [HN.out]; rfl, BW1.out⟩
      have tc : (x.c != 0) = false := by simpa using gc
      have HFF := Lib.hid (HF.out b (hb.trans ⟨fun h => h.2.2.2, fun h => ⟨fun _ => ga, fun _ => gb, fun _ => gc, h⟩⟩))
      clear hb HF hk ga gb gc
      go_enter Try.func29, Try.ntmps29
      go_wp2_with fail
      try rw [eW1]
      refine (HO.out _).mono ?_
      rintro e w1 ⟨rfl, rfl⟩
      go_wp2_with fail
      refine (HFF.out _ BW1.out).mono ?_
      rintro e w2 ⟨rfl, hg⟩
      have HG := Lib.hid (Gr.trans BW1.out hg)
      clear hg x0 x1 x2 x3 x4 x5 x6 f0 f1 f2 f3 f4
      go_wp2_with fail
      go_ret
      exact ⟨rfl, HG.out⟩
    · skip
      by_cases gb : x.b = 0
      case neg =>
        have HN := Lib.hid (bool_no hb (fun h => gb (h.2.1 (by decide))))
        have tb : (x.b != 0) = true := by simpa using gb
        clear hb HF hk gb
        go_enter Try.func29, Try.ntmps29
        go_wp2_with fail
        try rw [eW1]
        refine (HO.out _).mono ?_
        rintro e w1 ⟨rfl, rfl⟩
        go_wp2_with fail
        go_ret
        exact ⟨by rw [HN.out]; rfl, BW1.out⟩
      have tb : (x.b != 0) = false := by simpa using gb
      by_cases gc : x.c = 0
      case neg =>
        have HN := Lib.hid (bool_no hb (fun h => gc (h.2.2.1 (by decide))))
        have tc : (x.c != 0) = true := by simpa using gc
        clear hb HF hk gb gc
        go_enter Try.func29, Try.ntmps29
        go_wp2_with fail
        try rw [eW1]
        refine (HO.out _).mono ?_
        rintro e w1 ⟨rfl, rfl⟩
        go_wp2_with fail
        go_ret
        exact ⟨by rw [HN.out]; rfl, BW1.out⟩
      have tc : (x.c != 0) = false := by simpa using gc
      have HFF := Lib.hid (HF.out b (hb.trans ⟨fun h => h.2.2.2, fun h => ⟨fun h => by omega, fun _ => gb, fun _ => gc, h⟩⟩))
      clear hb HF hk gb gc
      go_enter Try.func29, Try.ntmps29
      go_wp2_with fail
      try rw [eW1]
      refine (HO.out _).mono ?_
      rintro e w1 ⟨rfl, rfl⟩
      go_wp2_with fail
      refine (HFF.out _ BW1.out).mono ?_
      rintro e w2 ⟨rfl, hg⟩
      have HG := Lib.hid (Gr.trans BW1.out hg)
      clear hg x0 x1 x2 x3 x4 x5 x6 f0 f1 f2 f3 f4
      go_wp2_with fail
      go_ret
      exact ⟨rfl, HG.out⟩
    · skip
      by_cases gc : x.c = 0
      case neg =>
        have HN := Lib.hid (bool_no hb (fun h => gc (h.2.2.1 (by decide))))
        have tc : (x.c != 0) = true := by simpa using gc
        clear hb HF hk gc
        go_enter Try.func29, Try.ntmps29
        go_wp2_with fail
        try rw [eW1]
        refine (HO.out _).mono ?_
        rintro e w1 ⟨rfl, rfl⟩
        go_wp2_with fail
        go_ret
        exact ⟨by rw [HN.out]; rfl, BW1.out⟩
      have tc : (x.c != 0) = false := by simpa using gc
      have HFF := Lib.hid (HF.out b (hb.trans ⟨fun h => h.2.2.2, fun h => ⟨fun h => by omega, fun h => by omega, fun _ => gc, h⟩⟩))
      clear hb HF hk gc
      go_enter Try.func29, Try.ntmps29
      go_wp2_with fail
      try rw [eW1]
      refine (HO.out _).mono ?_
      rintro e w1 ⟨rfl, rfl⟩
      go_wp2_with fail
      refine (HFF.out _ BW1.out).mono ?_
      rintro e w2 ⟨rfl, hg⟩
      have HG := Lib.hid (Gr.trans BW1.out hg)
      clear hg x0 x1 x2 x3 x4 x5 x6 f0 f1 f2 f3 f4
      go_wp2_with fail
      go_ret
      exact ⟨rfl, HG.out⟩
    · skip
      have HFF := Lib.hid (HF.out b (hb.trans ⟨fun h => h.2.2.2, fun h => ⟨fun h => by omega, fun h => by omega, fun h => by omega, h⟩⟩))
      clear hb HF hk
      go_enter Try.func29, Try.ntmps29
      go_wp2_with fail
      try rw [eW1]
      refine (HO.out _).mono ?_
      rintro e w1 ⟨rfl, rfl⟩
      go_wp2_with fail
      refine (HFF.out _ BW1.out).mono ?_
      rintro e w2 ⟨rfl, hg⟩
      have HG := Lib.hid (Gr.trans BW1.out hg)
      clear hg x0 x1 x2 x3 x4 x5 x6 f0 f1 f2 f3 f4
      go_wp2_with fail
      go_ret
      exact ⟨rfl, HG.out⟩
end Go.Proofs.Ytmnblcnhbafcpaa
