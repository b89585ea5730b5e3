/-
  newFinder and what it makes, WALKED.
-/
import Derived.Test.YtjkaeabnjkhllaaScKnd
import Derived.Test.YtjkaeabnjkhllaaScMap
namespace Go.Proofs.Ytjkaeabnjkhllaa
open Go.RowKit Go.Shelf
attribute [local go_sem] Oper.semAt_some

def plV (p : Nat × Nat) : Value := .agg #[.int .i64 (p.1 : Nat), .int .i64 (p.2 : Nat)]
def lookP (l : List Pl) (s : ByteArray) : Option (Nat × Nat) := match l with
  | [] => none
  | p :: r => if p.1 = s then some p.2 else lookP r s
theorem lookP_look (s : ByteArray) : ∀ l, (lookP l s).getD (0, 0) = look l s
  | [] => rfl
  | p :: r => by
    rw [lookP, look]
    split
    · rfl
    · exact lookP_look s r
theorem lookP_snoc (x : Pl) (s : ByteArray) : ∀ l, lookP (l ++ [x]) s = match lookP l s with | some p => some p | none => if x.1 = s then some x.2 else none
  | [] => by simp only [List.nil_append, lookP]
  | p :: r => by
    rw [List.cons_append, lookP, lookP]
    split
    · rfl
    · exact lookP_snoc x s r
/-- a map that has each name's first place -/
def Firsts (w : World) (b : Nat) (pl : List Pl) : Prop := ∃ l, MpAt w b l ∧ ∀ k, getS l k = (lookP pl k).map plV
theorem Firsts.keep {w w' : World} {b : Nat} {pl : List Pl} (h : Firsts w b pl) (hk : ∀ o, w.heap[b]? = some o → w'.heap[b]? = some o) : Firsts w' b pl := by
  obtain ⟨l, h1, h2⟩ := h
  exact ⟨l, h1.keep hk, h2⟩
/-- a finder of a module's names -/
def FindAt (w : World) (m : Mo) (v : Value) : Prop := ∃ g b, v = .func (.func 54) #[] #[.pointer (some ⟨g, 0, none⟩)] ∧ w.cell? ⟨g, 0, none⟩ = some (.map (some b)) ∧ Firsts w b (placesOf m)
theorem FindAt.gr {w w' : World} {m : Mo} {v : Value} (h : FindAt w m v) (hg : Gr w w') : FindAt w' m v := by
  obtain ⟨g, b, e, h1, h2⟩ := h
  exact ⟨g, b, e, gr_cell hg (World.block_lt_of_cell? _ _ h1) h1, h2.keep (fun _ ho => hg.keep ho)⟩

set_option maxHeartbeats 1000000 in
theorem find_any (m : Mo) (g b : Nat) (s : ByteArray) (w : World) (hg : Hid (w.cell? ⟨g, 0, none⟩ = some (.map (some b)))) (hf : Hid (Firsts w b (placesOf m))) :
    Calls Try.prog 54 #[.string s, .pointer (some ⟨g, 0, none⟩)] w fun e w' => e = .returned (plV (kindOf m s)) ∧ Gr w w' := by
  obtain ⟨l, h1, h2⟩ := hf.out
  have hl := look_str Try.underlying104 Try.zeroValue82 (h1.gr (Gr.alloc w (.cells #[.int .i64 0, .int .i64 0] 82))) s false
  rw [h2] at hl
  have hv : (Option.map plV (lookP (placesOf m) s)).getD (.agg #[.int .i64 0, .int .i64 0]) = .agg #[.int .i64 ((kindOf m s).1 : Nat), .int .i64 ((kindOf m s).2 : Nat)] := by
    rw [kindOf, ← lookP_look]
    cases lookP (placesOf m) s <;> rfl
  simp only [hv, Bool.false_eq_true, if_false] at hl
  have c0 : (w.alloc (.cells #[.int .i64 0, .int .i64 0] 82)).cell? ⟨g, 0, none⟩ = some (.map (some b)) := gr_cell (Gr.alloc _ _) (World.block_lt_of_cell? _ _ hg.out) hg.out
  have HH := Lib.hid (And.intro h1 h2)
  clear h1 h2 hv
  generalize (kindOf m s) = ks at hl ⊢
  go_enter Try.func54, Try.ntmps54
  go_wp2
  have d0 : (w.alloc (.cells #[.int .i64 (ks.1 : Nat), .int .i64 (ks.2 : Nat)] 82)).cell? ⟨w.heap.size, 0, none⟩ = some (.int .i64 (ks.1 : Nat)) := by rw [cell_at (new_at _ _)]; rfl
  have d1 : (w.alloc (.cells #[.int .i64 (ks.1 : Nat), .int .i64 (ks.2 : Nat)] 82)).cell? ⟨w.heap.size, 1, none⟩ = some (.int .i64 (ks.2 : Nat)) := by rw [cell_at (new_at _ _)]; rfl
  refine bodyPost_ret (v := plV ks) ?_ rfl ⟨rfl, Gr.alloc _ _⟩
  simp [results, Try.f54, go_sem, d0, d1, plV]

/-- between two rounds -/
def FI (w : World) (B : Nat) (pre : List Pl) (W : World) : Prop :=
  B ≤ W.heap.size ∧ W.cell? ⟨w.heap.size + 2, 0, none⟩ = some (.map (some (w.heap.size + 1))) ∧ Firsts W (w.heap.size + 1) pre ∧ Below w.heap.size w W
theorem FI.own (w : World) {B0 B : Nat} (hB : w.heap.size + 2 ≤ B) : OwnFrom B (FI w B0) := by
  intro s W W' row hs hg hr
  refine ⟨Nat.le_trans hs.1 hg.size, ?_, hs.2.2.1.keep (fun o ho => (hg.block _ (heap_lt ho) (fun e => by have := (hr _ e.symm).1; omega)).trans ho), ?_⟩
  · exact cell_kept hs.2.1 hg (fun r e => (hr r e).2)
  · exact ownFrom_below (Nat.le_refl _) (by omega) s W W' row hs.2.2.2 hg hr

theorem fi_put {w W V : World} {B : Nat} {L : List (ByteArray × Value)} {pre : List Pl} {x : Pl} {o : Obj} (hg : Gr W V) (hB : w.heap.size + 2 ≤ B) (hs : B ≤ W.heap.size) (hL : MpAt W (w.heap.size + 1) L) (hget : ∀ k, getS L k = (lookP pre k).map plV) (hp : lookP pre x.1 = none)
    (hmp : MpAt (V.putObj (w.heap.size + 1) o) (w.heap.size + 1) (putS L x.1 (plV x.2))) (hc : V.cell? ⟨w.heap.size + 2, 0, none⟩ = some (.map (some (w.heap.size + 1)))) (hb : Below w.heap.size w W) :
    KeepsFrom B W (V.putObj (w.heap.size + 1) o) ∧ Kn B W (V.putObj (w.heap.size + 1) o) ∧ FI w B (pre ++ [x]) (V.putObj (w.heap.size + 1) o) := by
  obtain ⟨es, clock, h1, _⟩ := hL.gr hg
  have hk : Kn B V (V.putObj (w.heap.size + 1) o) := Kn.putObj V _ _ o h1 rfl
  have h0 := hg.size
  have h3 := hb.size
  refine ⟨KeepsFrom.trans ⟨h0, fun k o' _ ho _ => hg.keep ho⟩ (KeepsFrom.of_grownBy (grownBy_putObj' V _ o) (fun j e => by cases e; omega)), (Kn.of_gr hg).trans hk, Nat.le_trans (Nat.le_trans hs h0) hk.1, ?_, ⟨_, hmp, fun k => ?_⟩, ?_⟩
  · rw [World.cell?_of_block (a := ⟨w.heap.size + 2, 0, none⟩) (World.putObj_heap_other (by simp))]
    exact hc
  · rw [getS_put, lookP_snoc, hget]
    by_cases hk : k = x.1
    · subst hk
      rw [if_pos rfl, hp]
      simp
    · rw [if_neg hk]
      cases lookP pre k with
      | none => simp only [Option.map_none]; rw [if_neg (fun e => hk e.symm)]; rfl
      | some p => rfl
  · exact (hb.trans ((bel_of hg).mono h3)).grown (grownBy_putObj' V _ o) (by omega) (fun k e => by cases e; omega)
theorem fi_same {w W V : World} {B : Nat} {pre : List Pl} {x : Pl} {p : Nat × Nat} (hg : Gr W V) (hs : B ≤ W.heap.size) (hF : Firsts W (w.heap.size + 1) pre) (hp : lookP pre x.1 = some p)
    (hc : W.cell? ⟨w.heap.size + 2, 0, none⟩ = some (.map (some (w.heap.size + 1)))) (hb : Below w.heap.size w W) : KeepsFrom B W V ∧ Kn B W V ∧ FI w B (pre ++ [x]) V := by
  obtain ⟨L, h1, h2⟩ := hF
  refine ⟨⟨hg.size, fun k o' _ ho _ => hg.keep ho⟩, Kn.of_gr hg, Nat.le_trans hs hg.size, gr_cell hg (World.block_lt_of_cell? _ _ hc) hc, ⟨L, h1.gr hg, fun k => ?_⟩, hb.trans ((bel_of hg).mono hb.size)⟩
  rw [h2, lookP_snoc]
  cases hk : lookP pre k with
  | some q => rfl
  | none =>
    simp only []
    rw [if_neg]
    rintro rfl
    rw [hk] at hp
    cases hp

set_option maxRecDepth 100000 in
set_option maxHeartbeats 4000000 in
theorem newFinder_any (m : Mo) (pA qA iA : Option Addr) (pC qC iC : Nat) (w : World) (hm : Hid (MoAt w m [.string m.name, .slice pA m.params.length pC, .slice qA m.ports.length qC, .slice iA m.items.length iC])) :
    Calls Try.prog 37 #[.agg #[.string m.name, .slice pA m.params.length pC, .slice qA m.ports.length qC, .slice iA m.items.length iC]] w fun e w' => e = .returned (.func (.func 54) #[] #[.pointer (some ⟨w.heap.size + 2, 0, none⟩)]) ∧ (w'.cell? ⟨w.heap.size + 2, 0, none⟩ = some (.map (some (w.heap.size + 1))) ∧ Firsts w' (w.heap.size + 1) (placesOf m)) ∧ Gr w w' := by
  have hmm := @run_makeMap Try.prog
  have hmf : ∀ (fn : Fn) (first cap : Array Value) (w : World), (Instr.makeFunc fn first cap).run Try.prog w = .ok (.func fn first cap) w := fun _ _ _ _ => rfl
  refine (callsIn_wide (n := 6)).1 ?_
  refine callsIn_of_wp_marks Try.func37 rfl trivial ?_ rfl
  simp only [Try.ntmps37, List.size_toArray, List.length_cons, List.length_nil, Nat.reduceAdd, Nat.reduceSub, Array.replicate_succ, Array.replicate_zero, List.push_toArray, List.append_toArray, List.nil_append, List.cons_append]
  gi_wp2_with (refine ⟨trivial, (callsIn_wide.2 (places_any _ _ _ _ _ _ _ _ _ _ _)).mono ?_⟩; rintro e w2 ⟨rfl, rfl⟩)
  obtain ⟨W0, eW, GW, C1, C2, C3, HZ⟩ : ∃ W0, (((w.alloc (.cells #[.string m.name, .slice pA m.params.length pC, .slice qA m.ports.length qC, .slice iA m.items.length iC] 34)).alloc (.map #[] 0)).alloc (.cells #[.map (some (w.heap.size + 1))] 104)).alloc (.cells #[.string m.name, .slice pA m.params.length pC, .slice qA m.ports.length qC, .slice iA m.items.length iC] 34) = W0 ∧ Hid (Gr w W0) ∧ Hid (MpAt W0 (w.heap.size + 1) []) ∧ Hid (W0.cell? ⟨w.heap.size + 2, 0, none⟩ = some (.map (some (w.heap.size + 1)))) ∧ Hid (W0.heap[w.heap.size + 3]? = some (.cells #[.string m.name, .slice pA m.params.length pC, .slice qA m.ports.length qC, .slice iA m.items.length iC] 34 (0, 0))) ∧ Hid (W0.heap.size = w.heap.size + 4) := by
    refine ⟨_, rfl, Lib.hid ((((Gr.alloc _ _).trans (Gr.alloc _ _)).trans (Gr.alloc _ _)).trans (Gr.alloc _ _)), Lib.hid ?_, Lib.hid ?_, Lib.hid ?_, Lib.hid (by simp)⟩
    · have h := MpAt.new (w.alloc (.cells #[.string m.name, .slice pA m.params.length pC, .slice qA m.ports.length qC, .slice iA m.items.length iC] 34))
      rw [World.size_alloc] at h
      exact (h.gr (Gr.alloc _ _)).gr (Gr.alloc _ _)
    · have h := new_at ((w.alloc (.cells #[.string m.name, .slice pA m.params.length pC, .slice qA m.ports.length qC, .slice iA m.items.length iC] 34)).alloc (.map #[] 0)) (.cells #[.map (some (w.heap.size + 1))] 104)
      simp only [World.size_alloc] at h
      rw [cell_at ((Gr.alloc _ _).keep h)]
      rfl
    · have h := new_at (((w.alloc (.cells #[.string m.name, .slice pA m.params.length pC, .slice qA m.ports.length qC, .slice iA m.items.length iC] 34)).alloc (.map #[] 0)).alloc (.cells #[.map (some (w.heap.size + 1))] 104)) (.cells #[.string m.name, .slice pA m.params.length pC, .slice qA m.ports.length qC, .slice iA m.items.length iC] 34)
      simpa using h
  rw [eW]
  clear eW
  simp only [Nat.add_assoc, Nat.reduceAdd]
  have HST := Lib.hid (places1_stops 5 (by omega) (w.heap.size + 3) m _ _ _ W0 (by rw [HZ.out]; omega) (fun j v hj => by rw [cell_at C3.out]; simpa using hj) (Lib.hid (hm.out.gr GW.out)))
  have hsz : w.heap.size + 2 ≤ W0.heap.size := by rw [HZ.out]; omega
  refine wpIn_rangeFunc_ownH (w0 := W0) rfl (by omega) (gf := 51) (lb := #[.pointer (some ⟨w.heap.size + 3, 0, none⟩)]) rfl trivial (enters_of Try.func51 (by kernel_rfl) rfl) HST.out (fun h k => h.trans k) (fun W l o o' _ h1 h2 _ => Kn.putObj W l o o' h1 h2) (Below.refl _ _) (fun _ => rfl)
    (FI w W0.heap.size) (fun _ _ _ => False) (FI.own w hsz) (fun c _ _ _ _ hs _ _ => hs) ⟨Nat.le_refl _, C2.out, ⟨[], C1.out, fun k => rfl⟩, bel_of GW.out⟩
    (KA W0.heap.size (fun x Bx => #[(.agg #[.string m.name, .slice pA m.params.length pC, .slice qA m.ports.length qC, .slice iA m.items.length iC]), .pointer (some ⟨w.heap.size, 0, none⟩), .nilFunc, .pointer (some ⟨w.heap.size + 2, 0, none⟩), .string x.1, .pointer (some ⟨Bx, 0, none⟩), undef, undef, .map (some (w.heap.size + 1)), (.agg #[.string m.name, .slice pA m.params.length pC, .slice qA m.ports.length qC, .slice iA m.items.length iC]), .func (.func 51) #[] #[.pointer (some ⟨w.heap.size + 3, 0, none⟩)], .string x.1, .agg #[.int .i64 (x.2.1 : Nat), .int .i64 (x.2.2 : Nat)], undef, undef, undef, undef, undef, undef, undef, undef, undef, undef, undef, undef])) (fun x a' => KA.own W0.heap.size _ x a' _) ?assign ?body ?done ?stop
  case assign =>
    rintro l pre x W K hi hK
    dsimp only [plVals]
    gi_wp2
    exact hK _ _ ((KeepsOthers.alloc _ _).from _) (Kn.of_gr (Gr.alloc _ _)) ((FI.own w hsz).alloc _ hi) ⟨W.heap.size, hi.1, by rw [cell_at (new_at _ _)]; rfl, by rw [cell_at (new_at _ _)]; rfl, rfl⟩
  case body =>
    rintro l pre x a' W hl ⟨r, hr⟩ ⟨hsW, k2, hF, hB⟩ ⟨Bx, hBx, d0, d1, rfl⟩ hlt
    obtain ⟨L, hL, hget⟩ := hF
    have hlk := look_str Try.underlying104 Try.zeroValue82 hL x.1 true
    rw [hget] at hlk
    have HL := Lib.hid (And.intro hL hget)
    have HBB := Lib.hid hB
    have hz := HZ.out
    have n2 : w.heap.size + 2 < W.heap.size := by omega
    have n5 : Bx < W.heap.size := World.block_lt_of_cell? _ _ d0
    clear hL hget hB hr hz
    rcases hp : lookP pre x.1 with _ | ⟨ka, kb⟩
    · rw [hp] at hlk
      simp only [Option.map_none, Option.getD_none, Option.isSome_none, if_true] at hlk
      have v2 := gr_cell (Gr.alloc W (.cells #[.int .i64 0, .int .i64 0] 82)) n2 k2
      have v0 := gr_cell (Gr.alloc W (.cells #[.int .i64 0, .int .i64 0] 82)) n5 d0
      have v1 := gr_cell (Gr.alloc W (.cells #[.int .i64 0, .int .i64 0] 82)) n5 d1
      obtain ⟨o, hrun, hmp⟩ := put_str Try.underlying104 (HL.out.1.gr (Gr.alloc W (.cells #[.int .i64 0, .int .i64 0] 82))) x.1 (.agg #[.int .i64 (x.2.1 : Nat), .int .i64 (x.2.2 : Nat)])
      have HP := Lib.hid hp
      have HMP := Lib.hid hmp
      clear hp hmp
      gi_wp2
      exact fi_put (Gr.alloc _ _) hsz hsW HL.out.1 HL.out.2 HP.out HMP.out v2 HBB.out
    · rw [hp] at hlk
      simp only [Option.map_some, Option.getD_some, Option.isSome_some, if_true, plV] at hlk
      have HP := Lib.hid hp
      clear hp
      gi_wp2
      exact fi_same (Gr.alloc _ _) hsW ⟨L, HL.out⟩ HP.out k2 HBB.out
  case done =>
    rintro D ys W hD rfl ⟨hsW, k2, hF, hB⟩ hK
    have HF := Lib.hid hF
    have HBB := Lib.hid hB
    clear hF hB
    gi_wp2
    refine ⟨by simp, .inl ⟨_, _, rfl, run_takeDeferred hK, ?_⟩⟩
    have hne : D ≠ w.heap.size + 1 := by omega
    have hc5 := cell_kept k2 (grownBy_putObj' _ D (.deferred none)) (fun r e => by cases e; exact ⟨_, hK, rfl⟩)
    exact ⟨_, results_tmp rfl _ _ _, rfl, ⟨hc5, HF.out.keep (fun o ho => (World.putObj_heap_other (Ne.symm hne)).trans ho)⟩, gr_of (HBB.out.trans (belowK_b (w := w) (Nat.le_refl _) _ D _ _ (by omega) hK rfl rfl))⟩
  case stop =>
    rintro D c pre W _ _ h _
    exact h.elim
end Go.Proofs.Ytjkaeabnjkhllaa
