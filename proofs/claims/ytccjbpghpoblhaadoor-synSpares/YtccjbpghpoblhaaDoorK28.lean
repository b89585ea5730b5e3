/-
  design, WALKED: all modules of a text.
-/
import Derived.Test.YtccjbpghpoblhaaDoorK27
/-
  design's function value, WALKED; a module tried; rows of modules.
-/
namespace Go.Proofs.YtccjbpghpoblhaaDoor
open Go.RowKit

theorem MoAt.ty {w u : World} {F : Nat → Prop} {T e : TypeId} {m : Mo} {cs : List Value} (h : MoAt w F m cs) (hk : TyFr T e w u) (h1 : 52 ≠ T ∧ 57 ≠ T ∧ 85 ≠ T) (h2 : 52 ≠ e ∧ 57 ≠ e ∧ 85 ≠ e) (h3 : 59 ≠ T ∧ 59 ≠ e) (h4 : 9 ≠ T ∧ 9 ≠ e) (h5 : 64 ≠ T ∧ 64 ≠ e) : MoAt u F m cs := by
  obtain ⟨pv, qv, iv, e', m1, m2, m3⟩ := h
  exact ⟨pv, qv, iv, e', RowAt.ty m1 hk h4.1 h4.2, RowAt.ty m2 hk h5.1 h5.2, ItemsAt.ty m3 hk h1 h2 h3⟩
theorem MoAt.keep {w w' : World} {F F' : Nat → Prop} {m : Mo} {cs : List Value} (h : MoAt w F m cs) (hF : ∀ g, F g → F' g) (hk : ∀ g o, F g → w.heap[g]? = some o → w'.heap[g]? = some o) : MoAt w' F' m cs := by
  obtain ⟨pv, qv, iv, e', m1, m2, m3⟩ := h
  exact ⟨pv, qv, iv, e', RowAt.keep m1 hF hk, RowAt.keep m2 hF hk, ItemsAt.keep m3 hF hk⟩

def ModsAt (w : World) (F : Nat → Prop) (ms : List Mo) (v : Value) : Prop :=
  ∃ css : List (List Value), RowAt w F 48 4 v ms.length css.flatten ∧ css.length = ms.length ∧ ∀ (j : Nat) (m : Mo), ms[j]? = some m → ∃ cs, css[j]? = some cs ∧ MoAt w F m cs
theorem ModsAt.ty {w u : World} {F : Nat → Prop} {T e : TypeId} {ms : List Mo} {v : Value} (h : ModsAt w F ms v) (hk : TyFr T e w u) (h0 : 48 ≠ T ∧ 48 ≠ e) (h1 : 52 ≠ T ∧ 57 ≠ T ∧ 85 ≠ T) (h2 : 52 ≠ e ∧ 57 ≠ e ∧ 85 ≠ e) (h3 : 59 ≠ T ∧ 59 ≠ e) (h4 : 9 ≠ T ∧ 9 ≠ e) (h5 : 64 ≠ T ∧ 64 ≠ e) : ModsAt u F ms v := by
  obtain ⟨css, k1, k2, k3⟩ := h
  refine ⟨css, k1.ty hk h0.1 h0.2, k2, fun j i hj => ?_⟩
  obtain ⟨cs, q1, q2⟩ := k3 j i hj
  exact ⟨cs, q1, q2.ty hk h1 h2 h3 h4 h5⟩
theorem ModsAt.fq {P : Pr} {w u : World} {F : Nat → Prop} {ms : List Mo} {v : Value} (h : ModsAt w F ms v) (hk : FQ P w u) : ModsAt u F ms v := h.ty hk.ty (by decide) (by decide) (by decide) (by decide) (by decide) (by decide)
theorem ModsAt.keep {w w' : World} {F F' : Nat → Prop} {ms : List Mo} {v : Value} (h : ModsAt w F ms v) (hF : ∀ g, F g → F' g) (hk : ∀ g o, F g → w.heap[g]? = some o → w'.heap[g]? = some o) : ModsAt w' F' ms v := by
  obtain ⟨css, k1, k2, k3⟩ := h
  refine ⟨css, k1.keep hF hk, k2, fun j i hj => ?_⟩
  obtain ⟨cs, q1, q2⟩ := k3 j i hj
  exact ⟨cs, q1, q2.keep hF hk⟩
theorem mods_nil (w : World) (F : Nat → Prop) : ModsAt w F [] (.slice none 0 0) := ⟨[], ⟨World.ownsRow_nil _ _ _ _, fun g h => by cases h⟩, rfl, fun j i h => by simp at h⟩
theorem mods_snoc {w3 w5 : World} {F : Nat → Prop} {ms : List Mo} {i : Mo} {cs : List Value} {g cap : Nat} {css : List (List Value)} (hcl : css.length = ms.length)
    (hcs : ∀ (j : Nat) (i : Mo), ms[j]? = some i → ∃ cs, css[j]? = some cs ∧ MoAt w3 F i cs) (hi : MoAt w3 F i cs) (ht : TyFr 48 48 w3 w5) (hr : RowAt w5 F 48 4 (.slice (some ⟨g, 0, none⟩) (ms.length + 1) cap) (ms.length + 1) (css.flatten ++ cs)) :
    ModsAt w5 F (ms ++ [i]) (.slice (some ⟨g, 0, none⟩) (ms.length + 1) cap) := by
  refine ⟨css ++ [cs], by simpa using hr, by simp [hcl], fun j b hj => ?_⟩
  rw [List.getElem?_append] at hj ⊢
  rw [hcl]
  split at hj
  · rename_i hjl
    rw [if_pos hjl]
    obtain ⟨ce', m1, m2⟩ := hcs j b hj
    exact ⟨ce', m1, m2.ty ht (by decide) (by decide) (by decide) (by decide) (by decide)⟩
  · rename_i hjl
    rw [if_neg hjl]
    have hj0 : j - ms.length = 0 := by
      rcases Nat.eq_zero_or_pos (j - ms.length) with e | e
      · exact e
      · rw [List.getElem?_eq_none (by simp; omega)] at hj; cases hj
    rw [hj0] at hj ⊢
    obtain rfl : i = b := by simpa using hj
    exact ⟨_, rfl, hi.ty ht (by decide) (by decide) (by decide) (by decide) (by decide)⟩

/-- the module's variable -/
def vMoB (w0 : World) (gi : Nat) (m : Mo) (w' : World) (v : Value) : Prop := v = .tuple #[] ∧ ∃ cs, w'.heap[gi]? = some (.cells cs.toArray 48 (0, 0)) ∧ MoAt w' (New w0) m cs

theorem FQ.more {P : Pr} {w w' : World} (h : FQ P w w') (hB : P.B ≤ w'.heap.size) (o : Obj) : FQ P w (w'.alloc o) :=
  ⟨h.os, h.tape, h.output, by have := h.size; simp; omega, fun j hj hb => (Below.heap_alloc _ _ _ (by omega)).trans (h.low j hj hb), fun j c t z hj h1 h2 => (Below.heap_alloc _ _ _ (by have := heap_lt hj; have := h.size; omega)).trans (h.ty j c t z hj h1 h2)⟩

set_option maxRecDepth 100000 in
set_option maxHeartbeats 2000000 in
theorem modc_any (P : Pr) (V : Va) (n gp gi : Nat) (fs : Fs) (w0 w : World) (h : Hid (St P V n w)) (ha : Hid (FaAt P w V.fa fs)) (hl : fs.length ≤ 19) (hmo : V.mo ≤ 16) (hf0 : Hid (FQ P w0 w)) (hB : P.B ≤ w0.heap.size) (hgi : w0.heap.size ≤ gi)
    (hp : Hid (w.heap[gp]? = some (.cells #[.pointer (some ⟨P.b, 0, none⟩)] 65 (0, 0)))) (hi : Hid (w.heap[gi]? = some (.cells zero48 48 (0, 0)))) :
    Calls Tryd.prog 37 #[.pointer (some ⟨gp, 0, none⟩), .pointer (some ⟨gi, 0, none⟩)] w fun e w' => GotQ P (pModule P.T V.mo fs n).2.2 w0 ((pModule P.T V.mo fs n).1, (pModule P.T V.mo fs n).2.1) (vMoB w0 gi) e w' ∧ ∀ (j : Nat) (c : Array Value) (t : TypeId) (z : Nat × Nat), w.heap[j]? = some (.cells c t z) → t ≠ 70 → t ≠ 35 → j ≠ gi → w'.heap[j]? = some (.cells c t z) := by
  have b0 : w.cell? ⟨gp, 0, none⟩ = some (.pointer (some ⟨P.b, 0, none⟩)) := by rw [cell_at hp.out]; rfl
  go_enter Tryd.func37, Tryd.ntmps37
  go_wp2_with fail
  refine (module_any P V n fs w h ha hl hmo).mono ?_
  rintro e w1 ⟨hq, hG⟩
  rcases hM : pModule P.T V.mo fs n with ⟨r, fs1, mo1⟩
  rw [hM] at hG
  have HM := Lib.hid hM
  have K1 := Lib.hid hq
  clear hM hq
  have hsw := hf0.out.size
  rcases r with x | ⟨m, n1⟩
  · obtain ⟨⟨V1, m1, hmo1, hs, ha1⟩, rfl⟩ := hG
    have S1 := Lib.hid hs
    have A1 := Lib.hid ha1
    clear hs ha1
    go_wp2_with fail
    refine ⟨rfl, ?_⟩
    rw [HM.out]
    exact ⟨gotq_bad rfl hmo1 (hf0.out.trans K1.out) S1.out A1.out rfl, fun j c t z hj h1 h2 _ => K1.out.ty j c t z hj h1 h2⟩
  · obtain ⟨⟨V1, hmo1, hs, ha1⟩, v, rfl, cs, rfl, pv, qv, iv, rfl, m1, m2, m3⟩ := hG
    have R1 := K1.out.ty _ _ _ _ hi.out (by decide) (by decide)
    have y0 : w1.cell? ⟨gi, 0, none⟩ = some (.string ⟨#[]⟩) := by rw [cell_at R1]; rfl
    have y1 : w1.cell? ⟨gi, 1, none⟩ = some (.slice none 0 0) := by rw [cell_at R1]; rfl
    have y2 : w1.cell? ⟨gi, 2, none⟩ = some (.slice none 0 0) := by rw [cell_at R1]; rfl
    have y3 : w1.cell? ⟨gi, 3, none⟩ = some (.slice none 0 0) := by rw [cell_at R1]; rfl
    have zr0 : w1.frozen? ⟨gi, 0, none⟩ = false := frozen_at R1
    have zr1 : w1.frozen? ⟨gi, 1, none⟩ = false := frozen_at R1
    have zr2 : w1.frozen? ⟨gi, 2, none⟩ = false := frozen_at R1
    have zr3 : w1.frozen? ⟨gi, 3, none⟩ = false := frozen_at R1
    have HR := Lib.hid R1
    have S1 := Lib.hid hs
    have A1 := Lib.hid ha1
    obtain ⟨Ap, cp', hpv⟩ := row_form m1
    obtain ⟨Aq, cq', hqv⟩ := row_form m2
    obtain ⟨css9, hi9, _⟩ := id m3
    obtain ⟨Ai, ci', hiv⟩ := row_form hi9
    subst hpv hqv hiv
    have MM := Lib.hid (And.intro m1 (And.intro m2 m3))
    clear hs ha1 R1 m1 m2 m3 hi9 b0
    go_wp2_with fail
    go_end0
    have k1 := tyfr_set 0 (.string (str m.name)) HR.out
    have g1 := blk_set 0 (.string (str m.name)) HR.out
    have k2 := tyfr_set 1 (.slice Ap m.params.length cp') g1
    have g2 := blk_set 1 (.slice Ap m.params.length cp') g1
    have k3 := tyfr_set 2 (.slice Aq m.ports.length cq') g2
    have g3 := blk_set 2 (.slice Aq m.ports.length cq') g2
    have k4 := tyfr_set 3 (.slice Ai m.items.length ci') g3
    have g4 := blk_set 3 (.slice Ai m.items.length ci') g3
    have K := ((k1.trans k2).trans k3).trans k4
    rw [HM.out]
    refine ⟨gotq_ok (V := V1) rfl hmo1 (((((hf0.out.trans K1.out).put hB (a := ⟨gi, 0, none⟩) hgi _).put hB (a := ⟨gi, 1, none⟩) hgi _).put hB (a := ⟨gi, 2, none⟩) hgi _).put hB (a := ⟨gi, 3, none⟩) hgi _) ((((S1.out.put (a := ⟨gi, 0, none⟩) (by show _ ≤ gi; omega) _).put (a := ⟨gi, 1, none⟩) (by show _ ≤ gi; omega) _).put (a := ⟨gi, 2, none⟩) (by show _ ≤ gi; omega) _).put (a := ⟨gi, 3, none⟩) (by show _ ≤ gi; omega) _) (RowAt.ty A1.out K (by decide) (by decide)) ⟨rfl, [.string (str m.name), .slice Ap m.params.length cp', .slice Aq m.ports.length cq', .slice Ai m.items.length ci'], ?_, ?_⟩, fun j c t z hj h1 h2 hne => ?_⟩
    · rw [g4]; rfl
    · refine ⟨_, _, _, rfl, ?_, ?_, ?_⟩
      · exact RowAt.ty (RowAt.keep MM.out.1 (F' := New w0) (fun g hg => by unfold New at hg ⊢; omega) (fun _ _ _ h => h)) K (by decide) (by decide)
      · exact RowAt.ty (RowAt.keep MM.out.2.1 (F' := New w0) (fun g hg => by unfold New at hg ⊢; omega) (fun _ _ _ h => h)) K (by decide) (by decide)
      · exact ItemsAt.ty (ItemsAt.keep MM.out.2.2 (F' := New w0) (fun g hg => by unfold New at hg ⊢; omega) (fun _ _ _ h => h)) K (by decide) (by decide) (by decide)
    · have q : ∀ (u : World) o v, (u.setCell ⟨gi, o, none⟩ v).heap[j]? = u.heap[j]? := fun u o v => Below.heap_setCell _ _ _ _ hne
      rw [q, q, q, q]
      exact K1.out.ty j c t z hj h1 h2

theorem cf37 (x y : Value) (w : World) : (callFunc 37 #[x, y]).run Tryd.prog w = .ok (.enter 37 #[x, y]) w := by simp [go_sem]

/-- what trying a module leaves -/
def TriedM (P : Pr) (V : Va) (fs : Fs) (n : Nat) (w1 : World) (e : Ending) (w' : World) : Prop :=
  FQ P w1 w' ∧ match (pModule P.T V.mo fs n).1 with
    | .ok (m, k) => e = .returned (.tuple #[.agg #[.int .i64 0, .int .i64 0], .bool false]) ∧ (∃ V' : Va, V'.mo = (pModule P.T V.mo fs n).2.2 ∧ St P V' k w' ∧ FaAt P w' V'.fa (pModule P.T V.mo fs n).2.1) ∧ ∃ cs, w'.heap[w1.heap.size]? = some (.cells cs.toArray 48 (0, 0)) ∧ MoAt w' (New w1) m cs
    | .error x => e = .returned (.tuple #[.agg #[.int .i64 (x.1 : Nat), .int .i64 (x.2 : Nat)], .bool true]) ∧ ∃ (V' : Va) (k : Nat), V'.mo = (pModule P.T V.mo fs n).2.2 ∧ St P V' k w' ∧ FaAt P w' V'.fa (pModule P.T V.mo fs n).2.1

theorem try_module (P : Pr) (V : Va) (n gp : Nat) (fs : Fs) (w1 : World) (h : Hid (St P V n w1)) (ha : Hid (FaAt P w1 V.fa fs)) (hl : fs.length ≤ 19) (hmo : V.mo ≤ 16) (hp : Hid (w1.heap[gp]? = some (.cells #[.pointer (some ⟨P.b, 0, none⟩)] 65 (0, 0)))) :
    Calls Tryd.prog 36 #[.func (.func 37) #[] #[.pointer (some ⟨gp, 0, none⟩), .pointer (some ⟨w1.heap.size, 0, none⟩)]] (w1.alloc (.cells zero48 48)) (TriedM P V fs n w1) := by
  have hB := h.out.hB
  have hbB := h.out.lb
  have hgpl := heap_lt hp.out
  have z2 : (w1.alloc (.cells zero48 48)).heap.size = w1.heap.size + 1 := by simp
  have z3 : ∀ o, ((w1.alloc (.cells zero48 48)).alloc o).heap.size = w1.heap.size + 2 := fun o => by simp
  refine (caught_any 37 _ _ (fun w' => FQ P w1 w' ∧ ∃ m k, (pModule P.T V.mo fs n).1 = .ok (m, k) ∧ (∃ V' : Va, V'.mo = (pModule P.T V.mo fs n).2.2 ∧ St P V' k w' ∧ FaAt P w' V'.fa (pModule P.T V.mo fs n).2.1) ∧ ∃ cs, w'.heap[w1.heap.size]? = some (.cells cs.toArray 48 (0, 0)) ∧ MoAt w' (New w1) m cs)
    (fun er k w' => (w'.heap[w1.heap.size + 1]? = some (.cells #[.int .i64 0, .int .i64 0] 89 (0, 0)) ∧ w'.heap[w1.heap.size + 2]? = some (.cells #[.bool false] 4 (0, 0))) ∧ FQ P w1 w' ∧ (pModule P.T V.mo fs n).1 = .error (er, k) ∧ ∃ (V' : Va) (q : Nat), V'.mo = (pModule P.T V.mo fs n).2.2 ∧ St P V' q w' ∧ FaAt P w' V'.fa (pModule P.T V.mo fs n).2.1) _ (cf37 _ _) (Lib.hid ?_)).mono ?_
  · refine (modc_any P V n gp w1.heap.size fs w1 _ (Lib.hid (((h.out.alloc _).alloc _).alloc _)) (Lib.hid (ha.out.fr (((Fr.alloc _ _ _).more _).more _) hbB)) hl hmo (Lib.hid (FQ.of (((Fr.alloc _ _ _).more _).more _) h.out)) hB (Nat.le_refl _) (Lib.hid ?_) (Lib.hid ?_)).mono ?_
    · exact (Below.heap_alloc _ _ _ (by rw [z3]; omega)).trans ((Below.heap_alloc _ _ _ (by rw [z2]; omega)).trans ((Below.heap_alloc _ _ _ hgpl).trans hp.out))
    · exact (Below.heap_alloc _ _ _ (by rw [z3]; omega)).trans ((Below.heap_alloc _ _ _ (by rw [z2]; omega)).trans (new_at w1 _))
    · rintro e w' ⟨⟨hq, hG⟩, hk⟩
      have x1 := hk _ _ _ _ ((Below.heap_alloc _ _ _ (by rw [z3, z2]; omega)).trans (new_at (w1.alloc (.cells zero48 48)) (.cells #[.int .i64 0, .int .i64 0] 89))) (by decide) (by decide) (by rw [z2]; omega)
      have x2 := new_at ((w1.alloc (.cells zero48 48)).alloc (.cells #[.int .i64 0, .int .i64 0] 89)) (.cells #[.bool false] 4)
      rw [z3] at x2
      have x3 := hk _ _ _ _ x2 (by decide) (by decide) (by omega)
      refine ⟨x1, by rw [z2]; exact x3, ?_⟩
      rw [z2] at x1
      rcases hM : (pModule P.T V.mo fs n).1 with x | ⟨m, k⟩
      · rw [hM] at hG
        obtain ⟨⟨V1, m1, hmo1, hs, ha1⟩, rfl⟩ := hG
        exact .inr ⟨x.1, x.2, rfl, ⟨x1, x3⟩, hq, rfl, V1, m1, hmo1, hs, ha1⟩
      · rw [hM] at hG
        obtain ⟨hst, v, rfl, rfl, hcs⟩ := hG
        exact .inl ⟨rfl, hq, m, k, rfl, hst, hcs⟩
  · rintro e w' (⟨rfl, hf, m, k, hN, hst, hi⟩ | ⟨er, k, w2, rfl, ⟨⟨x1, x3⟩, hf, hN, V', q, hmo', hs, ha'⟩, rfl⟩)
    · unfold TriedM
      rw [hN]
      exact ⟨hf, rfl, hst, hi⟩
    · unfold TriedM
      rw [hN, z2]
      have k1 := tyfr_set 0 (.int .i64 (er : Nat)) x1
      have g1 := blk_set 0 (.int .i64 (er : Nat)) x1
      have k2 := tyfr_set 1 (.int .i64 (k : Nat)) g1
      have g2 : ((w2.setCell ⟨w1.heap.size + 1, 0, none⟩ (.int .i64 (er : Nat))).setCell ⟨w1.heap.size + 1, 1, none⟩ (.int .i64 (k : Nat))).heap[w1.heap.size + 2]? = some (.cells #[.bool false] 4 (0, 0)) := (Below.heap_setCell _ _ _ _ (by show w1.heap.size + 2 ≠ w1.heap.size + 1; omega)).trans ((Below.heap_setCell _ _ _ _ (by show w1.heap.size + 2 ≠ w1.heap.size + 1; omega)).trans x3)
      have k3 := tyfr_set 0 (.bool true) g2
      have F1 := (((hf.put hB (a := ⟨w1.heap.size + 1, 0, none⟩) (by show _ ≤ w1.heap.size + 1; omega) (.int .i64 (er : Nat))).put hB (a := ⟨w1.heap.size + 1, 1, none⟩) (by show _ ≤ w1.heap.size + 1; omega) (.int .i64 (k : Nat))).put hB (a := ⟨w1.heap.size + 1 + 1, 0, none⟩) (by show _ ≤ w1.heap.size + 1 + 1; omega) (.bool true))
      have S1 := (((hs.put (a := ⟨w1.heap.size + 1, 0, none⟩) (by show _ ≤ w1.heap.size + 1; omega) (.int .i64 (er : Nat))).put (a := ⟨w1.heap.size + 1, 1, none⟩) (by show _ ≤ w1.heap.size + 1; omega) (.int .i64 (k : Nat))).put (a := ⟨w1.heap.size + 1 + 1, 0, none⟩) (by show _ ≤ w1.heap.size + 1 + 1; omega) (.bool true))
      have A1 := RowAt.ty (RowAt.ty (RowAt.ty ha' k1 (by decide) (by decide)) k2 (by decide) (by decide)) k3 (by decide) (by decide)
      refine ⟨F1.more S1.hB _, rfl, V', q, hmo', S1.alloc _, ?_⟩
      exact FaAt.fr (w := ((w2.setCell ⟨w1.heap.size + 1, 0, none⟩ (.int .i64 (er : Nat))).setCell ⟨w1.heap.size + 1, 1, none⟩ (.int .i64 (k : Nat))).setCell ⟨w1.heap.size + 1 + 1, 0, none⟩ (.bool true)) A1 (Fr.alloc _ _ _) hbB

theorem pModule_mo {T : List LexM.Tk} {mo n : Nat} {fs : Fs} (h : mo ≤ 16) : (pModule T mo fs n).2.2 ≤ 16 ∧ mo ≤ (pModule T mo fs n).2.2 ∧ ∀ m k, (pModule T mo fs n).1 = .ok (m, k) → (pModule T mo fs n).2.2 = mo + 1 := by
  unfold pModule
  split
  · split
    · exact ⟨h, Nat.le_refl _, fun m k e => by cases e⟩
    · rename_i h16
      rcases pHead T (n + 1) with x | ⟨m, n1⟩
      · exact ⟨by show mo + 1 ≤ 16; omega, Nat.le_succ _, fun _ _ _ => rfl⟩
      · simp only []
        rcases pBody T (T.length + 1) 0 [] fs n1 with ⟨x | ⟨is, n2⟩, fs'⟩
        · exact ⟨by show mo + 1 ≤ 16; omega, Nat.le_succ _, fun _ _ _ => rfl⟩
        · exact ⟨by show mo + 1 ≤ 16; omega, Nat.le_succ _, fun _ _ _ => rfl⟩
  · exact ⟨h, Nat.le_refl _, fun m k e => by cases e⟩

end Go.Proofs.YtccjbpghpoblhaaDoor

namespace Go.Proofs.YtccjbpghpoblhaaDoor
open Go.RowKit

def DsRel (P : Pr) (w0 : World) (R : List Mo × Fs) (f : Nat) (wr : World) : Prop :=
  ∃ (V : Va) (m : Nat) (ms : List Mo) (fs : Fs) (v : Value), V.mo ≤ 16 ∧ ms.length ≤ V.mo ∧ fs.length ≤ 19 ∧ P.T.length < m + f ∧ Hid (FsOk P.T m fs) ∧ Hid (FQ P w0 wr) ∧ Hid (St P V m wr) ∧ Hid (FaAt P wr V.fa fs) ∧ Hid (ModsAt wr (New w0) ms v) ∧
    Hid (wr.heap[w0.heap.size]? = some (.cells #[.pointer (some ⟨P.b, 0, none⟩)] 65 (0, 0))) ∧ Hid (wr.heap[w0.heap.size + 1]? = some (.cells #[.slice none 0 0] 26 (0, 0))) ∧ Hid (wr.heap[w0.heap.size + 2]? = some (.cells #[v] 26 (0, 0))) ∧ Hid (pDesign P.T f V.mo ms fs m = R)

theorem info48 : (Tryd.prog.info? 48).map (fun i => (i.zero, i.size, i.bytes)) = some (some (.agg zero48), 4, 88) := by kernel_rfl

/-- what design leaves -/
def GotD (P : Pr) (w : World) (R : List Mo × Fs) (e : Ending) (w' : World) : Prop :=
  FQ P w w' ∧ (∃ (V : Va) (n : Nat), St P V n w' ∧ FaAt P w' V.fa R.2) ∧ ∃ v, e = .returned (.agg #[v]) ∧ ModsAt w' (New w) R.1 v

theorem gotd {P : Pr} {w W : World} {V : Va} {m : Nat} {ms : List Mo} {gs : Fs} {v : Value} {R : List Mo × Fs} (hR : R = (ms, gs)) (hB : P.B ≤ w.heap.size) (F : FQ P w W) (S : St P V m W) (A : FaAt P W V.fa gs) (I : ModsAt W (New w) ms v) (G : W.heap[w.heap.size + 1]? = some (.cells #[.slice none 0 0] 26 (0, 0))) :
    GotD P w R (.returned (.agg #[v])) (W.setCell ⟨w.heap.size + 1, 0, none⟩ v) := by
  subst hR
  have k1 := tyfr_set 0 v G
  exact ⟨F.put hB (a := ⟨w.heap.size + 1, 0, none⟩) (by show _ ≤ w.heap.size + 1; omega) _, ⟨V, m, S.put (a := ⟨w.heap.size + 1, 0, none⟩) (by show _ ≤ w.heap.size + 1; omega) _, RowAt.ty A k1 (by decide) (by decide)⟩, v, rfl, I.ty k1 (by decide) (by decide) (by decide) (by decide) (by decide) (by decide)⟩

theorem fill48 {i0 : TypeInfo} (hs : i0.size = 4) (cs : List Value) (hl : cs.length = 4) :
    Instr.fill (fun i => some (i * i0.size, i0.size)) ((Array.range (1 * i0.size)).map ((Value.agg zero48).cells[· % (Value.agg zero48).cells.size]!)) [(0, .agg cs.toArray)] = some cs.toArray := by
  rw [hs]; exact fill_one (by omega) cs _ hl (by simp)

set_option maxRecDepth 100000 in
set_option maxHeartbeats 4000000 in
theorem design_any (P : Pr) (V : Va) (w : World) (h : Hid (St P V 0 w)) (ha : Hid (FaAt P w V.fa [])) (hm0 : V.mo = 0) :
    Calls Tryd.prog 22 #[.pointer (some ⟨P.b, 0, none⟩)] w (GotD P w (pDesign P.T (P.T.length + 1) 0 [] [] 0)) := by
  have hmf : ∀ (fn : Fn) (first cap : Array Value) (w : World), (Instr.makeFunc fn first cap).run Tryd.prog w = .ok (.func fn first cap) w := fun _ _ _ _ => rfl
  obtain ⟨i0, hi, hz0, hz1, hz2⟩ := info_parts info48
  have HI := Lib.hid (And.intro hi (And.intro hz0 (And.intro hz1 hz2)))
  clear hi hz0 hz1 hz2
  have hlt := h.out.lt
  have hb1 : P.b < P.B := h.out.lb
  have hBw := h.out.hB
  have hgp : w.heap.size ≠ P.b := by omega
  go_enter Tryd.func22, Tryd.ntmps22
  go_wp2_with fail
  go_loopg [] (P.T.length + 1) (fun f wr => DsRel P w (pDesign P.T (P.T.length + 1) 0 [] [] 0) f wr)
  case atStart =>
    have f1 := ((Fr.alloc P.b w (.cells #[.pointer (some ⟨P.b, 0, none⟩)] 65)).more (.cells #[.slice none 0 0] 26)).more (.cells #[.slice none 0 0] 26)
    refine ⟨V, 0, [], [], .slice none 0 0, by omega, by simp, by simp, by omega, Lib.hid ⟨fun x hx => by simp at hx, List.Pairwise.nil⟩, Lib.hid (FQ.of f1 h.out), Lib.hid (((h.out.alloc _).alloc _).alloc _), Lib.hid (ha.out.fr f1 hb1), Lib.hid (mods_nil _ _), Lib.hid ?_, Lib.hid ?_, Lib.hid ?_, Lib.hid (by rw [hm0])⟩
    · exact (Below.heap_alloc _ _ _ (by simp; omega)).trans ((Below.heap_alloc _ _ _ (by simp)).trans (new_at w _))
    · have := new_at (w.alloc (.cells #[.pointer (some ⟨P.b, 0, none⟩)] 65)) (.cells #[.slice none 0 0] 26)
      refine (Below.heap_alloc _ _ _ (by simp)).trans ?_
      simpa using this
    · have := new_at ((w.alloc (.cells #[.pointer (some ⟨P.b, 0, none⟩)] 65)).alloc (.cells #[.slice none 0 0] 26)) (.cells #[.slice none 0 0] 26)
      simpa using this
  case round =>
    obtain ⟨V1, m, ms, gs, v, hmo, hms, hgl, hmf', HO, FR, SR, AR, IR, BR, GR, DR, ER⟩ := hrel
    have HM := Lib.hid hmf'
    clear hmf'
    have bR : wr.cell? ⟨w.heap.size, 0, none⟩ = some (.pointer (some ⟨P.b, 0, none⟩)) := by rw [cell_at BR.out]; rfl
    have d0 := SR.out.c0
    have d2 := SR.out.c2
    obtain ⟨f, hf'⟩ : ∃ f, gk = f + 1 := ⟨gk - 1, by have := HM.out; have := SR.out.le; omega⟩
    subst hf'
    by_cases hml : m < P.T.length
    · have hd : ((m : Int) < (P.T.length : Int)) := by omega
      go_wp2_with fail
      go_quiet (fail)
      obtain ⟨W, eW, F1, S1, A1, I1, B1, G1, D1⟩ : ∃ W, wr.drewN nq = W ∧ Hid (FQ P w W) ∧ Hid (St P V1 m W) ∧ Hid (FaAt P W V1.fa gs) ∧ Hid (ModsAt W (New w) ms v) ∧ Hid (W.heap[w.heap.size]? = some (.cells #[.pointer (some ⟨P.b, 0, none⟩)] 65 (0, 0))) ∧ Hid (W.heap[w.heap.size + 1]? = some (.cells #[.slice none 0 0] 26 (0, 0))) ∧ Hid (W.heap[w.heap.size + 2]? = some (.cells #[v] 26 (0, 0))) := ⟨_, rfl, Lib.hid (FR.out.trans (FQ.of ((Fr.refl P.b wr).drawn nq) SR.out)), Lib.hid (SR.out.drewN nq), Lib.hid (AR.out.fr ((Fr.refl P.b wr).drawn nq) hb1), Lib.hid (IR.out.fq (FQ.of ((Fr.refl P.b wr).drawn nq) SR.out)), BR, GR, DR⟩
      rw [eW]
      clear eW d0 d2 bR
      go_wp2_with fail
      refine (try_module P V1 m w.heap.size gs W S1 A1 hgl hmo B1).mono ?_
      rintro e w2 ⟨hq, hG⟩
      obtain ⟨p1, p2, p3, p4, p5⟩ := pModule_ok (mo := V1.mo) (Nat.le_of_lt hml) HO.out hgl
      obtain ⟨p6, p9, p7⟩ := pModule_mo (T := P.T) (n := m) (fs := gs) hmo
      have p8 := fun x => pastMod_goes (mo := V1.mo) (x := x) hml HO.out hgl
      rcases hM : pModule P.T V1.mo gs m with ⟨r, fs1, mo1⟩
      rw [hM] at hG p1 p2 p3 p4 p6 p7 p8 p9
      have HMD := Lib.hid hM
      clear hM p5
      have F2 := Lib.hid (F1.out.trans hq)
      have B2 := Lib.hid (hq.ty _ _ _ _ B1.out (by decide) (by decide))
      have G2 := Lib.hid (hq.ty _ _ _ _ G1.out (by decide) (by decide))
      have D2 := Lib.hid (hq.ty _ _ _ _ D1.out (by decide) (by decide))
      have I2 := Lib.hid (I1.out.fq hq)
      have b2 : w2.cell? ⟨w.heap.size, 0, none⟩ = some (.pointer (some ⟨P.b, 0, none⟩)) := by rw [cell_at B2.out]; rfl
      have hw2 := heap_lt B2.out
      have hne2 : w.heap.size ≠ w2.heap.size := by omega
      rcases r with x | ⟨md, m2⟩
      · obtain ⟨rfl, V2, m2, hmo2, hs, ha2⟩ := hG
        have S2 := Lib.hid hs
        have A2 := Lib.hid ha2
        clear hs ha2 hq
        have HX := Lib.hid (show ErrAt P.T m x from p1)
        have HO2 := Lib.hid (show FsOk P.T x.2 fs1 from p2)
        have hl2 : fs1.length ≤ 19 := p3
        have H8 := Lib.hid (p8 x rfl)
        have hmo2' : V2.mo ≤ 16 := by rw [hmo2]; exact p6
        have hmo3 : V1.mo ≤ V2.mo := by rw [hmo2]; exact p9
        clear p1 p2 p3 p4 p6 p7 p8 p9
        obtain ⟨A, c0, hfa⟩ := row_form A2.out
        have HFA := Lib.hid hfa
        clear hfa
        obtain ⟨lb, hlb⟩ : ∃ lb : Bool, (x.1 = 21 ∨ fs1.length = 19) ↔ lb = true := ⟨decide (x.1 = 21 ∨ fs1.length = 19), by simp⟩
        have HLB := Lib.hid hlb
        clear hlb
        go_wp2_with fail
        refine (isLast_any P V2 m2 x.1 x.2 fs1.length c0 A _ (Lib.hid (S2.out.alloc _)) HFA.out lb HLB.out).mono ?_
        rintro e w3 ⟨rfl, hf3, hs3⟩
        have C3 := hf3.keep (new_at w2 _) (by have := S2.out.lt; omega)
        have e0 := cell_at (o := 0) C3
        have e1 := cell_at (o := 1) C3
        have FF := (Fr.alloc P.b w2 (.cells #[.int .i64 (x.1 : Nat), .int .i64 (x.2 : Nat)] 89)).trans hf3
        have F3 := Lib.hid (F2.out.trans (FQ.of FF S2.out))
        have S3 := Lib.hid hs3
        have A3 := Lib.hid (A2.out.fr FF hb1)
        have B3 := Lib.hid (FF.keep B2.out (by omega))
        have G3 := Lib.hid (FF.keep G2.out (by omega))
        have D3 := Lib.hid (FF.keep D2.out (by omega))
        have I3 := Lib.hid (I2.out.fq (FQ.of FF S2.out))
        have C3 := Lib.hid C3
        have b3 : w3.cell? ⟨w.heap.size, 0, none⟩ = some (.pointer (some ⟨P.b, 0, none⟩)) := by rw [cell_at B3.out]; rfl
        clear FF hf3 hs3 b2
        go_wp2_with fail
        refine (tell_any P V2 m2 x.1 x.2 fs1 w3 S3 A3 (by omega)).mono ?_
        rintro e w4 ⟨rfl, hq4, v4, hs4, ha4⟩
        have C4 := hq4.ty _ _ _ _ C3.out (by decide) (by decide)
        have e0' := cell_at (o := 0) C4
        have e1' := cell_at (o := 1) C4
        have B4 := Lib.hid (hq4.ty _ _ _ _ B3.out (by decide) (by decide))
        have G4 := Lib.hid (hq4.ty _ _ _ _ G3.out (by decide) (by decide))
        have D4 := Lib.hid (hq4.ty _ _ _ _ D3.out (by decide) (by decide))
        have b4 : w4.cell? ⟨w.heap.size, 0, none⟩ = some (.pointer (some ⟨P.b, 0, none⟩)) := by rw [cell_at B4.out]; rfl
        have F4 := Lib.hid (F3.out.trans hq4)
        have I4 := Lib.hid (I3.out.fq hq4)
        have S4 := Lib.hid hs4
        have A4 := Lib.hid ha4
        clear C4 hq4 hs4 ha4 b3 e0 e1
        cases lb with
        | true =>
          have hlast := HLB.out.2 rfl
          have HL := Lib.hid hlast
          clear hlast
          have x0 := cell_at (o := 0) D4.out
          have y0 := cell_at (o := 0) G4.out
          have zr0 : w4.frozen? ⟨w.heap.size + 1, 0, none⟩ = false := frozen_at G4.out
          obtain ⟨css9, hi9, _⟩ := id I4.out
          obtain ⟨Ai, ci', hiv⟩ := row_form hi9
          subst hiv
          clear hi9
          go_wp2_with fail
          refine bodyPost_ret (v := .agg #[.slice Ai ms.length ci']) (by simp [results, Tryd.results22, go_sem, y0]) rfl ?_
          exact gotd (V := { V2 with fa := v4 }) (by rw [← ER.out, pDesign, if_pos hml, HMD.out]; simp only []; rw [if_pos HL.out]) hBw F4.out S4.out A4.out I4.out G4.out
        | false =>
          have hlast : ¬ (x.1 = 21 ∨ fs1.length = 19) := fun hh => by have := HLB.out.1 hh; cases this
          have HL := Lib.hid hlast
          clear hlast
          have hx21 : x.1 ≠ 21 := fun e => HL.out (.inl e)
          have hx19 : fs1.length ≠ 19 := fun e => HL.out (.inr e)
          obtain ⟨q1, q2, q3⟩ := H8.out hx21
          have hxl : x.2 < P.T.length := by have := HX.out.2; omega
          have HX21 := Lib.hid hx21
          clear hx21
          go_wp2_with fail
          refine (toModule_any P { V2 with fa := v4 } m2 x.1 x.2 w4 S4 (by omega) (fun _ => hxl)).mono ?_
          rintro e w5 ⟨rfl, hf, hs⟩
          have F5 := Lib.hid (F4.out.trans (FQ.of hf S4.out))
          have A5 := Lib.hid (A4.out.fr hf hb1)
          have S5 := Lib.hid hs
          have B5 := Lib.hid (hf.keep B4.out (by omega))
          have G5 := Lib.hid (hf.keep G4.out (by omega))
          have D5 := Lib.hid (hf.keep D4.out (by omega))
          have I5 := Lib.hid (I4.out.fq (FQ.of hf S4.out))
          clear hf hs
          go_wp2_with fail
          go_roundg f
          case measure => omega
          case rel =>
            refine ⟨{ V2 with fa := v4 }, pastMod P.T x.1 x.2, ms, fs1 ++ [(x.1, x.2)], v, hmo2', ?_, ?_, ?_, Lib.hid ?_, F5, S5, A5, I5, B5, G5, D5, Lib.hid ?_⟩
            · show ms.length ≤ V2.mo
              omega
            · simp; omega
            · have := HM.out; omega
            · exact (FsOk.snoc HO2.out ⟨Nat.le_refl _, HX.out.2⟩ HX21.out).mono q3
            · rw [← ER.out, pDesign, if_pos hml, HMD.out]
              simp only []
              rw [if_neg HL.out]
              show pDesign P.T f V2.mo _ _ _ = _
              rw [hmo2]
      · obtain ⟨rfl, ⟨V2, hmo2, hs, ha2⟩, cs, hbI, hat⟩ := hG
        have S2 := Lib.hid hs
        have A2 := Lib.hid ha2
        have hmo3 : V2.mo = V1.mo + 1 := by rw [hmo2]; exact p7 md m2 rfl
        have hmo2' : V2.mo ≤ 16 := by rw [hmo2]; exact p6
        have HO2 := Lib.hid (show FsOk P.T m2 fs1 from p2)
        have hl2 : fs1.length ≤ 19 := p3
        have hgo : m < m2 := p4 md m2 rfl
        have HMO := Lib.hid (And.intro hmo2 hmo3)
        have hWl := F1.out.size
        have hW2 := hq.size
        clear hs ha2 hq p1 p2 p3 p4 p6 p7 p8 p9 hmo2 hmo3
        have HAT := Lib.hid (hat.keep (F' := New w) (fun k hk => Nat.le_trans hWl hk) (fun _ _ _ h => h))
        obtain ⟨pv, qv, iv, rfl, m1, m2', m3⟩ := hat
        obtain ⟨Ap, cp', hpv⟩ := row_form m1
        obtain ⟨Aq, cq', hqv⟩ := row_form m2'
        obtain ⟨css9, hi9, _⟩ := id m3
        obtain ⟨Ai, ci', hiv⟩ := row_form hi9
        subst hpv hqv hiv
        clear m1 m2' m3 hi9
        have y0 : w2.cell? ⟨W.heap.size, 0, none⟩ = some (.string (str md.name)) := by rw [cell_at hbI]; rfl
        have y1 : w2.cell? ⟨W.heap.size, 1, none⟩ = some (.slice Ap md.params.length cp') := by rw [cell_at hbI]; rfl
        have y2 : w2.cell? ⟨W.heap.size, 2, none⟩ = some (.slice Aq md.ports.length cq') := by rw [cell_at hbI]; rfl
        have y3 : w2.cell? ⟨W.heap.size, 3, none⟩ = some (.slice Ai md.items.length ci') := by rw [cell_at hbI]; rfl
        have hwW := heap_lt hbI
        have hwWne : W.heap.size ≠ w2.heap.size := by omega
        clear hbI
        obtain ⟨css, hrow, hcl, hcs⟩ := I2.out
        obtain ⟨A, c0, rfl⟩ := row_form hrow
        have HROW := Lib.hid hrow
        have HCS := Lib.hid (And.intro hcl hcs)
        clear hrow hcl hcs
        have x0 : w2.cell? ⟨w.heap.size + 2, 0, none⟩ = some (.slice A ms.length c0) := by rw [cell_at D2.out]; rfl
        have hwD := heap_lt D2.out
        have hwDne : w.heap.size + 2 ≠ w2.heap.size := by omega
        have HISL := Lib.hid hms
        have hms16 : ms.length ≤ 16 := by omega
        clear hms
        go_wp2_with (first
          | (refine wpList_append_lies _ (by rfl) _ _ _ (by rfl) 0 48 i0 _ 4 88 Tryd.underlying24 HI.out.1 HI.out.2.1 HI.out.2.2.1 HI.out.2.2.2 (by rfl) (by omega) (.slice A ms.length c0) ms.length css.flatten (by rfl) ((HROW.out.1.alloc _).alloc _) ⟨w2.heap.size + 1, 0, none⟩ 1 1 [.string (str md.name), .slice Ap md.params.length cp', .slice Aq md.ports.length cq', .slice Ai md.items.length ci'] (by rfl) (by rfl) (World.news_of_block (cs := #[.string (str md.name), .slice Ap md.params.length cp', .slice Aq md.ports.length cq', .slice Ai md.items.length ci']) (t := 48) (fr := (0, 0)) (by have := heap_alloc_new (w2.alloc (.cells #[.int .i64 0, .int .i64 0] 89)) (.cells #[.string (str md.name), .slice Ap md.params.length cp', .slice Aq md.ports.length cq', .slice Ai md.items.length ci'] 48); simpa using this)) (by simp [Value.oneCell']) (by omega) (by unfold maxLen; omega) (by omega) (by simp) (w2.heap.size + 2) (by simp) ?_; intro g cap w5 hown5 hgrow5 hat5 hlt5;
             have Y := Lib.hid (app_grow (w3 := w2.alloc (.cells #[.int .i64 0, .int .i64 0] 89)) (F := New w) (RowAt.keep HROW.out (fun _ h => h) (fun j o _ ho => (Below.heap_alloc _ _ _ (heap_lt ho)).trans ho)) hgrow5 hown5 (by simpa using hat5) (by unfold New; simp; omega)); have T5 : TyFr 48 48 w2 w5 := (fun j c t z hj h1 h2 => Y.out.1 j c t z ((Below.heap_alloc _ _ _ (heap_lt hj)).trans hj) h1 h2); have D5 := T5 _ _ _ _ D2.out (by decide) (by decide); have k5 : w5.cell? ⟨w.heap.size + 2, 0, none⟩ = some (.slice A ms.length c0) := (by rw [cell_at D5]; rfl); have z5 : w5.frozen? ⟨w.heap.size + 2, 0, none⟩ = false := frozen_at D5))
        have hz2 : (w2.alloc (.cells #[.int .i64 0, .int .i64 0] 89)).heap.size = w2.heap.size + 1 := by simp
        have low5 : ∀ j, j < w.heap.size → w5.heap[j]? = w2.heap[j]? := fun j hj => (Y.out.2.2.2 j (by omega) (by unfold New; omega)).trans (Below.heap_alloc _ _ _ (by omega))
        have hsz5 := Y.out.2.2.1
        have FQ5 : FQ P w w5 := ⟨hgrow5.os.trans F2.out.os, hgrow5.tape.trans F2.out.tape, hgrow5.output.trans F2.out.output, by omega, fun j hj hb => (low5 j (by omega)).trans (F2.out.low j hj hb), fun j c t z hj h1 h2 => (low5 j (heap_lt hj)).trans (F2.out.ty j c t z hj h1 h2)⟩
        have D5 := T5 _ _ _ _ D2.out (by decide) (by decide)
        have k6 := tyfr_set 0 (.slice (some ⟨g, 0, none⟩) (ms.length + 1) cap) D5
        have g6 := blk_set 0 (.slice (some ⟨g, 0, none⟩) (ms.length + 1) cap) D5
        have I5 := mods_snoc HCS.out.1 HCS.out.2 HAT.out T5 Y.out.2.1
        go_roundg f
        case measure => omega
        case rel =>
          refine ⟨V2, m2, ms ++ [md], fs1, _, hmo2', ?_, hl2, ?_, HO2, Lib.hid (FQ5.put hBw (a := ⟨w.heap.size + 2, 0, none⟩) (by show _ ≤ w.heap.size + 2; omega) _), Lib.hid ((S2.out.far (fun j hj => low5 j (by omega)) (by omega)).put (a := ⟨w.heap.size + 2, 0, none⟩) (by show _ ≤ w.heap.size + 2; omega) _), Lib.hid (RowAt.ty (RowAt.ty A2.out T5 (by decide) (by decide)) k6 (by decide) (by decide)), Lib.hid (I5.ty k6 (by decide) (by decide) (by decide) (by decide) (by decide) (by decide)), Lib.hid ?_, Lib.hid ?_, Lib.hid g6, Lib.hid ?_⟩
          · have := HISL.out; have := HMO.out.2; simp; omega
          · have := HM.out; omega
          · exact k6 _ _ _ _ (T5 _ _ _ _ B2.out (by decide) (by decide)) (by decide) (by decide)
          · exact (Below.heap_setCell _ _ _ _ (by show w.heap.size + 1 ≠ w.heap.size + 2; omega)).trans (T5 _ _ _ _ G2.out (by decide) (by decide))
          · rw [← ER.out, pDesign, if_pos hml, HMD.out]
            simp only []
            rw [← HMO.out.1]
    · have hd : ¬ ((m : Int) < (P.T.length : Int)) := by omega
      go_wp2_with fail
      go_quiet (fail)
      obtain ⟨W, eW, F4, S4, A4, I4, G4, D4⟩ : ∃ W, wr.drewN nq = W ∧ Hid (FQ P w W) ∧ Hid (St P V1 m W) ∧ Hid (FaAt P W V1.fa gs) ∧ Hid (ModsAt W (New w) ms v) ∧ Hid (W.heap[w.heap.size + 1]? = some (.cells #[.slice none 0 0] 26 (0, 0))) ∧ Hid (W.heap[w.heap.size + 2]? = some (.cells #[v] 26 (0, 0))) := ⟨_, rfl, Lib.hid (FR.out.trans (FQ.of ((Fr.refl P.b wr).drawn nq) SR.out)), Lib.hid (SR.out.drewN nq), Lib.hid (AR.out.fr ((Fr.refl P.b wr).drawn nq) hb1), Lib.hid (IR.out.fq (FQ.of ((Fr.refl P.b wr).drawn nq) SR.out)), GR, DR⟩
      rw [eW]
      have x0 := cell_at (o := 0) D4.out
      have y0 := cell_at (o := 0) G4.out
      have zr0 : W.frozen? ⟨w.heap.size + 1, 0, none⟩ = false := frozen_at G4.out
      clear eW d0 d2 bR
      obtain ⟨css9, hi9, _⟩ := id I4.out
      obtain ⟨Ai, ci', hiv⟩ := row_form hi9
      subst hiv
      clear hi9
      go_wp2_with fail
      refine bodyPost_ret (v := .agg #[.slice Ai ms.length ci']) (by simp [results, Tryd.results22, go_sem, y0]) rfl ?_
      exact gotd (by rw [← ER.out, pDesign, if_neg hml]) hBw F4.out S4.out A4.out I4.out G4.out

end Go.Proofs.YtccjbpghpoblhaaDoor

