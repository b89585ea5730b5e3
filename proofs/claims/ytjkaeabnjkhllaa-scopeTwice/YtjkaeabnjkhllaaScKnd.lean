/-
  places and Kind, WALKED.
-/
import Derived.Test.YtjkaeabnjkhllaaScPlc
namespace Go.Proofs.Ytjkaeabnjkhllaa
open Go.RowKit Go.Shelf
attribute [local go_sem] Oper.semAt_some

theorem places_any (nm : ByteArray) (pA qA iA : Option Addr) (pn pC qn qC inn iC : Nat) (w : World) :
    Calls Try.prog 32 #[.agg #[.string nm, .slice pA pn pC, .slice qA qn qC, .slice iA inn iC]] w fun e w' => e = .returned (.func (.func 51) #[] #[.pointer (some ⟨w.heap.size, 0, none⟩)]) ∧ w.alloc (.cells #[.string nm, .slice pA pn pC, .slice qA qn qC, .slice iA inn iC] 34) = w' := by
  go_enter Try.func32, Try.ntmps32
  go_wp2
  go_ret
  exact ⟨rfl, rfl⟩

theorem look_app {s : ByteArray} : ∀ (a b : List Pl), (∀ y ∈ a, y.1 ≠ s) → look (a ++ b) s = look b s
  | [], b, _ => rfl
  | x :: r, b, h => by
    rw [List.cons_append, look, if_neg (h x (by simp))]
    exact look_app r b (fun y hy => h y (by simp [hy]))
theorem look_hit {s : ByteArray} {q : List Pl} {y : Pl} {l : List Pl} (hq : ∀ z ∈ q, z.1 ≠ s) (hy : y.1 = s) (hp : q ++ [y] <+: l) : look l s = y.2 := by
  obtain ⟨t, rfl⟩ := hp
  rw [List.append_assoc, look_app q _ hq]
  rw [List.singleton_append, look, if_pos hy]
theorem look_miss {s : ByteArray} {l : List Pl} (h : ∀ y ∈ l, y.1 ≠ s) : look l s = (0, 0) := by
  have := look_app l [] h
  rw [List.append_nil] at this
  rw [this, look]

/-- between two rounds -/
def KI (w : World) (B : Nat) (s : ByteArray) (pre : List Pl) (W : World) : Prop :=
  B ≤ W.heap.size ∧ ((∀ y ∈ pre, y.1 ≠ s) ∧ W.cell? ⟨w.heap.size + 1, 0, none⟩ = some (.string s) ∧ W.cell? ⟨w.heap.size + 2, 0, none⟩ = some (.int .i64 0) ∧ W.frozen? ⟨w.heap.size + 2, 0, none⟩ = false ∧ W.cell? ⟨w.heap.size + 3, 0, none⟩ = some (.int .i64 0) ∧ W.frozen? ⟨w.heap.size + 3, 0, none⟩ = false) ∧ Below w.heap.size w W
/-- a round has returned -/
def KX (w : World) (s : ByteArray) (c : Code) (pre : List Pl) (W : World) : Prop :=
  (c = .ret ∧ ∃ q y, pre = q ++ [y] ∧ (∀ z ∈ q, z.1 ≠ s) ∧ y.1 = s ∧ W.cell? ⟨w.heap.size + 2, 0, none⟩ = some (.int .i64 (y.2.1 : Nat)) ∧ W.cell? ⟨w.heap.size + 3, 0, none⟩ = some (.int .i64 (y.2.2 : Nat))) ∧ Below w.heap.size w W
theorem KI.own (w : World) (B0 : Nat) (s : ByteArray) {B : Nat} (hB : w.heap.size ≤ B) : OwnFrom B (KI w B0 s) :=
  OwnFrom.and (fun _ _ _ _ hs hg _ => Nat.le_trans hs hg.size) (OwnFrom.and (Own.from (fun _ _ _ _ hs hg hr => ⟨hs.1, cell_kept hs.2.1 hg hr, cell_kept hs.2.2.1 hg hr, (frozen_kept hs.2.2.1 hg hr).trans hs.2.2.2.1, cell_kept hs.2.2.2.2.1 hg hr, (frozen_kept hs.2.2.2.2.1 hg hr).trans hs.2.2.2.2.2⟩) _) (ownFrom_below (Nat.le_refl _) hB))
theorem toList_ne {s t : ByteArray} (h : s ≠ t) : (s.toList == t.toList) = false := by
  rcases hc : (s.toList == t.toList) with _ | _
  · rfl
  · have h1 := eq_of_beq hc
    rw [ByteArray.toList_eq, ByteArray.toList_eq] at h1
    exact absurd (ByteArray.ext (Array.toList_inj.1 h1)) h
theorem KX.own (w : World) (s : ByteArray) (c : Code) {B : Nat} (hB : w.heap.size ≤ B) : OwnFrom B (KX w s c) :=
  OwnFrom.and (Own.from (fun _ _ _ _ hs hg hr => ⟨hs.1, by obtain ⟨q, y, h1, h2, h3, h4, h5⟩ := hs.2; exact ⟨q, y, h1, h2, h3, cell_kept h4 hg hr, cell_kept h5 hg hr⟩⟩) _) (ownFrom_below (Nat.le_refl _) hB)
theorem kx_ab {w W : World} {B : Nat} {s : ByteArray} {pre : List Pl} {x : Pl} (hp : ∀ y ∈ pre, y.1 ≠ s) (hx : x.1 = s) (k2 : W.cell? ⟨w.heap.size + 2, 0, none⟩ = some (.int .i64 0)) (k3 : W.cell? ⟨w.heap.size + 3, 0, none⟩ = some (.int .i64 0)) (hB : Below w.heap.size w W) :
    KeepsFrom B W ((W.setCell ⟨w.heap.size + 2, 0, none⟩ (.int .i64 (x.2.1 : Nat))).setCell ⟨w.heap.size + 3, 0, none⟩ (.int .i64 (x.2.2 : Nat))).drew ∧ KX w s .ret (pre ++ [x]) ((W.setCell ⟨w.heap.size + 2, 0, none⟩ (.int .i64 (x.2.1 : Nat))).setCell ⟨w.heap.size + 3, 0, none⟩ (.int .i64 (x.2.2 : Nat))).drew := by
  have ha : (W.setCell ⟨w.heap.size + 2, 0, none⟩ (.int .i64 (x.2.1 : Nat))).cell? ⟨w.heap.size + 2, 0, none⟩ = some (.int .i64 (x.2.1 : Nat)) := World.cell?_setCell_same' _ _ _ (by rw [k2]; rfl)
  have ha2 : ((W.setCell ⟨w.heap.size + 2, 0, none⟩ (.int .i64 (x.2.1 : Nat))).setCell ⟨w.heap.size + 3, 0, none⟩ (.int .i64 (x.2.2 : Nat))).cell? ⟨w.heap.size + 2, 0, none⟩ = some (.int .i64 (x.2.1 : Nat)) := (World.cell?_of_block (a := ⟨w.heap.size + 2, 0, none⟩) (set_block (b := w.heap.size + 3) (g := w.heap.size + 2) (by omega))).trans ha
  have hb : ((W.setCell ⟨w.heap.size + 2, 0, none⟩ (.int .i64 (x.2.1 : Nat))).setCell ⟨w.heap.size + 3, 0, none⟩ (.int .i64 (x.2.2 : Nat))).cell? ⟨w.heap.size + 3, 0, none⟩ = some (.int .i64 (x.2.2 : Nat)) := World.cell?_setCell_same' _ _ _ (by rw [World.cell?_of_block (a := ⟨w.heap.size + 3, 0, none⟩) (set_block (b := w.heap.size + 2) (g := w.heap.size + 3) (by omega)), k3]; rfl)
  exact ⟨(((KeepsOthers.setCell _ _ _).trans (KeepsOthers.setCell _ _ _)).trans (KeepsOthers.drew _)).from _, ⟨rfl, pre, x, rfl, hp, hx, ha2, hb⟩, ((hB.setCell (p := ⟨w.heap.size + 2, 0, none⟩) (by simp) _).setCell (p := ⟨w.heap.size + 3, 0, none⟩) (by simp) _).drew⟩
theorem kx_ba {w W : World} {B : Nat} {s : ByteArray} {pre : List Pl} {x : Pl} (hp : ∀ y ∈ pre, y.1 ≠ s) (hx : x.1 = s) (k2 : W.cell? ⟨w.heap.size + 2, 0, none⟩ = some (.int .i64 0)) (k3 : W.cell? ⟨w.heap.size + 3, 0, none⟩ = some (.int .i64 0)) (hB : Below w.heap.size w W) :
    KeepsFrom B W ((W.setCell ⟨w.heap.size + 3, 0, none⟩ (.int .i64 (x.2.2 : Nat))).setCell ⟨w.heap.size + 2, 0, none⟩ (.int .i64 (x.2.1 : Nat))).drew ∧ KX w s .ret (pre ++ [x]) ((W.setCell ⟨w.heap.size + 3, 0, none⟩ (.int .i64 (x.2.2 : Nat))).setCell ⟨w.heap.size + 2, 0, none⟩ (.int .i64 (x.2.1 : Nat))).drew := by
  have ha : (W.setCell ⟨w.heap.size + 3, 0, none⟩ (.int .i64 (x.2.2 : Nat))).cell? ⟨w.heap.size + 3, 0, none⟩ = some (.int .i64 (x.2.2 : Nat)) := World.cell?_setCell_same' _ _ _ (by rw [k3]; rfl)
  have ha2 : ((W.setCell ⟨w.heap.size + 3, 0, none⟩ (.int .i64 (x.2.2 : Nat))).setCell ⟨w.heap.size + 2, 0, none⟩ (.int .i64 (x.2.1 : Nat))).cell? ⟨w.heap.size + 3, 0, none⟩ = some (.int .i64 (x.2.2 : Nat)) := (World.cell?_of_block (a := ⟨w.heap.size + 3, 0, none⟩) (set_block (b := w.heap.size + 2) (g := w.heap.size + 3) (by omega))).trans ha
  have hb : ((W.setCell ⟨w.heap.size + 3, 0, none⟩ (.int .i64 (x.2.2 : Nat))).setCell ⟨w.heap.size + 2, 0, none⟩ (.int .i64 (x.2.1 : Nat))).cell? ⟨w.heap.size + 2, 0, none⟩ = some (.int .i64 (x.2.1 : Nat)) := World.cell?_setCell_same' _ _ _ (by rw [World.cell?_of_block (a := ⟨w.heap.size + 2, 0, none⟩) (set_block (b := w.heap.size + 3) (g := w.heap.size + 2) (by omega)), k2]; rfl)
  exact ⟨(((KeepsOthers.setCell _ _ _).trans (KeepsOthers.setCell _ _ _)).trans (KeepsOthers.drew _)).from _, ⟨rfl, pre, x, rfl, hp, hx, hb, ha2⟩, ((hB.setCell (p := ⟨w.heap.size + 3, 0, none⟩) (by simp) _).setCell (p := ⟨w.heap.size + 2, 0, none⟩) (by simp) _).drew⟩
/-- a round begins: the loop's variable lies in a box -/
def KA (B : Nat) (T : Pl → Nat → Array Value) (x : Pl) (a' : Act) (W : World) : Prop :=
  ∃ Bx, B ≤ Bx ∧ W.cell? ⟨Bx, 0, none⟩ = some (.int .i64 (x.2.1 : Nat)) ∧ W.cell? ⟨Bx, 1, none⟩ = some (.int .i64 (x.2.2 : Nat)) ∧ a' = { tmps := T x Bx, defers := [] }
theorem KA.own (B : Nat) (T : Pl → Nat → Array Value) (x : Pl) (a' : Act) (B' : Nat) : OwnFrom B' (fun (_ : Unit) W => KA B T x a' W) :=
  Own.from (fun _ _ _ _ ⟨Bx, h1, h2, h3, h4⟩ hg hr => ⟨Bx, h1, cell_kept h2 hg hr, cell_kept h3 hg hr, h4⟩) _

set_option maxRecDepth 100000 in
set_option maxHeartbeats 4000000 in
theorem Kind_any (m : Mo) (pA qA iA : Option Addr) (pC qC iC : Nat) (s : ByteArray) (w : World) (hm : Hid (MoAt w m [.string m.name, .slice pA m.params.length pC, .slice qA m.ports.length qC, .slice iA m.items.length iC])) :
    Calls Try.prog 16 #[.agg #[.string m.name, .slice pA m.params.length pC, .slice qA m.ports.length qC, .slice iA m.items.length iC], .string s] w fun e w' => e = .returned (.tuple #[.int .i64 ((kindOf m s).1 : Nat), .int .i64 ((kindOf m s).2 : Nat)]) ∧ Gr w w' := by
  refine (callsIn_wide (n := 6)).1 ?_
  refine callsIn_of_wp_marks Try.func16 rfl trivial ?_ rfl
  simp only [Try.ntmps16, List.size_toArray, List.length_cons, List.length_nil, Nat.reduceAdd, Nat.reduceSub, Array.replicate_succ, Array.replicate_zero, List.push_toArray, List.append_toArray, List.nil_append, List.cons_append]
  gi_wp2_with (refine ⟨trivial, (callsIn_wide.2 (places_any _ _ _ _ _ _ _ _ _ _ _)).mono ?_⟩; rintro e w2 ⟨rfl, rfl⟩)
  obtain ⟨W0, eW, GW, C0, C1, C2, C3, C4, HZ⟩ : ∃ W0, ((((w.alloc (.cells #[.string m.name, .slice pA m.params.length pC, .slice qA m.ports.length qC, .slice iA m.items.length iC] 34)).alloc (.cells #[.string s] 9)).alloc (.cells #[.int .i64 0] 3)).alloc (.cells #[.int .i64 0] 3)).alloc (.cells #[.string m.name, .slice pA m.params.length pC, .slice qA m.ports.length qC, .slice iA m.items.length iC] 34) = W0 ∧ Hid (Gr w W0) ∧ Hid (W0.heap[w.heap.size]? = some (.cells #[.string m.name, .slice pA m.params.length pC, .slice qA m.ports.length qC, .slice iA m.items.length iC] 34 (0, 0))) ∧ Hid (W0.heap[w.heap.size + 1]? = some (.cells #[.string s] 9 (0, 0))) ∧ Hid (W0.heap[w.heap.size + 2]? = some (.cells #[.int .i64 0] 3 (0, 0))) ∧ Hid (W0.heap[w.heap.size + 3]? = some (.cells #[.int .i64 0] 3 (0, 0))) ∧ Hid (W0.heap[w.heap.size + 4]? = some (.cells #[.string m.name, .slice pA m.params.length pC, .slice qA m.ports.length qC, .slice iA m.items.length iC] 34 (0, 0))) ∧ Hid (W0.heap.size = w.heap.size + 5) := by
    refine ⟨_, rfl, Lib.hid (((((Gr.alloc _ _).trans (Gr.alloc _ _)).trans (Gr.alloc _ _)).trans (Gr.alloc _ _)).trans (Gr.alloc _ _)), Lib.hid ?_, Lib.hid ?_, Lib.hid ?_, Lib.hid ?_, Lib.hid ?_, Lib.hid (by simp)⟩
    · exact ((((Gr.alloc _ _).trans (Gr.alloc _ _)).trans (Gr.alloc _ _)).trans (Gr.alloc _ _)).keep (new_at w _)
    · exact (((Gr.alloc _ _).trans (Gr.alloc _ _)).trans (Gr.alloc _ _)).keep (by have h := new_at (w.alloc (.cells #[.string m.name, .slice pA m.params.length pC, .slice qA m.ports.length qC, .slice iA m.items.length iC] 34)) (.cells #[.string s] 9); simpa using h)
    · exact ((Gr.alloc _ _).trans (Gr.alloc _ _)).keep (by have h := new_at ((w.alloc (.cells #[.string m.name, .slice pA m.params.length pC, .slice qA m.ports.length qC, .slice iA m.items.length iC] 34)).alloc (.cells #[.string s] 9)) (.cells #[.int .i64 0] 3); simpa using h)
    · exact (Gr.alloc _ _).keep (by have h := new_at (((w.alloc (.cells #[.string m.name, .slice pA m.params.length pC, .slice qA m.ports.length qC, .slice iA m.items.length iC] 34)).alloc (.cells #[.string s] 9)).alloc (.cells #[.int .i64 0] 3)) (.cells #[.int .i64 0] 3); simpa using h)
    · have h := new_at ((((w.alloc (.cells #[.string m.name, .slice pA m.params.length pC, .slice qA m.ports.length qC, .slice iA m.items.length iC] 34)).alloc (.cells #[.string s] 9)).alloc (.cells #[.int .i64 0] 3)).alloc (.cells #[.int .i64 0] 3)) (.cells #[.string m.name, .slice pA m.params.length pC, .slice qA m.ports.length qC, .slice iA m.items.length iC] 34)
      simpa using h
  rw [eW]
  clear eW
  simp only [Nat.add_assoc, Nat.reduceAdd]
  have HST := Lib.hid (places1_stops 5 (by omega) (w.heap.size + 4) m _ _ _ W0 (by rw [HZ.out]; omega) (fun j v hj => by rw [cell_at C4.out]; simpa using hj) (Lib.hid (hm.out.gr GW.out)))
  have c1 : W0.cell? ⟨w.heap.size + 1, 0, none⟩ = some (.string s) := by rw [cell_at C1.out]; rfl
  have c2 : W0.cell? ⟨w.heap.size + 2, 0, none⟩ = some (.int .i64 0) := by rw [cell_at C2.out]; rfl
  have c3 : W0.cell? ⟨w.heap.size + 3, 0, none⟩ = some (.int .i64 0) := by rw [cell_at C3.out]; rfl
  have hsz : w.heap.size ≤ W0.heap.size := GW.out.size
  refine wpIn_rangeFunc_ownH (w0 := W0) rfl (by omega) (gf := 51) (lb := #[.pointer (some ⟨w.heap.size + 4, 0, none⟩)]) rfl trivial (enters_of Try.func51 (by kernel_rfl) rfl) HST.out (fun h k => h.trans k) (fun W l o o' _ h1 h2 _ => Kn.putObj W l o o' h1 h2) (Below.refl _ _) (fun _ => rfl)
    (KI w W0.heap.size s) (KX w s) (KI.own w W0.heap.size s hsz) (fun c => KX.own w s c hsz) ⟨Nat.le_refl _, ⟨by simp, c1, c2, frozen_at C2.out, c3, frozen_at C3.out⟩, bel_of GW.out⟩
    (KA W0.heap.size (fun x Bx => #[(.agg #[.string m.name, .slice pA m.params.length pC, .slice qA m.ports.length qC, .slice iA m.items.length iC]), .string s, .pointer (some ⟨w.heap.size, 0, none⟩), .pointer (some ⟨w.heap.size + 1, 0, none⟩), .pointer (some ⟨w.heap.size + 2, 0, none⟩), .pointer (some ⟨w.heap.size + 3, 0, none⟩), .string x.1, .pointer (some ⟨Bx, 0, none⟩), (.agg #[.string m.name, .slice pA m.params.length pC, .slice qA m.ports.length qC, .slice iA m.items.length iC]), .func (.func 51) #[] #[.pointer (some ⟨w.heap.size + 4, 0, none⟩)], .string x.1, .agg #[.int .i64 (x.2.1 : Nat), .int .i64 (x.2.2 : Nat)], undef, undef, undef, undef, undef, undef, undef])) (fun x a' => KA.own W0.heap.size _ x a' _) ?assign ?body ?done ?stop
  case assign =>
    rintro l pre x W K hi hK
    dsimp only [plVals]
    gi_wp2
    exact hK _ _ ((KeepsOthers.alloc _ _).from _) (Kn.of_gr (Gr.alloc _ _)) ((KI.own w W0.heap.size s hsz).alloc _ hi) ⟨W.heap.size, hi.1, by rw [cell_at (new_at _ _)]; rfl, by rw [cell_at (new_at _ _)]; rfl, rfl⟩
  case body =>
    rintro l pre x a' W hl ⟨r, hr⟩ ⟨hsW, ⟨hp, k1, k2, f2, k3, f3⟩, hB⟩ ⟨Bx, hBx, d0, d1, rfl⟩ hlt
    have hz := HZ.out
    have n2 : ¬ (w.heap.size + 2 = Bx) := by omega
    have n3 : ¬ (w.heap.size + 3 = Bx) := by omega
    have HP := Lib.hid hp
    have HBB := Lib.hid hB
    clear hp hB hr hz
    by_cases hx : x.1 = s
    · have q : (x.1.toList == s.toList) = true := by rw [hx]; simp
      have HX := Lib.hid hx
      clear hx
      gi_upto_region 5 with fail
      gi_region
      all_goals gi_wp2
      all_goals first
        | exact kx_ab HP.out HX.out k2 k3 HBB.out
        | exact kx_ba HP.out HX.out k2 k3 HBB.out
    · have q := toList_ne hx
      have HX := Lib.hid hx
      clear hx
      gi_wp2
      refine ⟨KeepsFrom.refl _ _, Kn.refl _ _, hsW, ⟨fun y hy => ?_, k1, k2, f2, k3, f3⟩, HBB.out⟩
      rcases List.mem_append.1 hy with hy | hy
      · exact HP.out y hy
      · simp at hy
        subst hy
        exact HX.out
  case done =>
    rintro D ys W hD rfl ⟨hsW, ⟨hp, k1, k2, f2, k3, f3⟩, hB⟩ hK
    have hk := look_miss hp
    have HKK := Lib.hid hk
    have HBB := Lib.hid hB
    clear hk hp hB
    gi_wp2
    have hK' := (KeepsOthers.setCell _ ⟨w.heap.size + 3, 0, none⟩ (.int .i64 0)).same D _ ((KeepsOthers.setCell W ⟨w.heap.size + 2, 0, none⟩ (.int .i64 0)).same D _ hK rfl) rfl
    have ha : (W.setCell ⟨w.heap.size + 2, 0, none⟩ (.int .i64 0)).cell? ⟨w.heap.size + 2, 0, none⟩ = some (.int .i64 0) := World.cell?_setCell_same' _ _ _ (by rw [k2]; rfl)
    have ha2 : ((W.setCell ⟨w.heap.size + 2, 0, none⟩ (.int .i64 0)).setCell ⟨w.heap.size + 3, 0, none⟩ (.int .i64 0)).cell? ⟨w.heap.size + 2, 0, none⟩ = some (.int .i64 0) := (World.cell?_of_block (a := ⟨w.heap.size + 2, 0, none⟩) (set_block (b := w.heap.size + 3) (g := w.heap.size + 2) (by omega))).trans ha
    have hb : ((W.setCell ⟨w.heap.size + 2, 0, none⟩ (.int .i64 0)).setCell ⟨w.heap.size + 3, 0, none⟩ (.int .i64 0)).cell? ⟨w.heap.size + 3, 0, none⟩ = some (.int .i64 0) := World.cell?_setCell_same' _ _ _ (by rw [World.cell?_of_block (a := ⟨w.heap.size + 3, 0, none⟩) (set_block (b := w.heap.size + 2) (g := w.heap.size + 3) (by omega)), k3]; rfl)
    refine ⟨by simp, .inl ⟨_, _, rfl, run_takeDeferred hK', ?_⟩⟩
    have hc5 := cell_kept ha2 (grownBy_putObj' _ D (.deferred none)) (fun r e => by cases e; exact ⟨_, hK', rfl⟩)
    have hc6 := cell_kept hb (grownBy_putObj' _ D (.deferred none)) (fun r e => by cases e; exact ⟨_, hK', rfl⟩)
    refine ⟨.tuple #[.int .i64 0, .int .i64 0], ?_, by rw [kindOf, HKK.out]; rfl, gr_of (((HBB.out.setCell (p := ⟨w.heap.size + 2, 0, none⟩) (by simp) _).setCell (p := ⟨w.heap.size + 3, 0, none⟩) (by simp) _).trans (belowK_b (w := w) (Nat.le_refl _) _ D _ _ (by omega) hK' rfl rfl))⟩
    simp [results, Try.f16, go_sem, hc5, hc6]
  case stop =>
    rintro D c pre W hD hpre ⟨⟨rfl, q, y, rfl, hq, hy, k2, k3⟩, hB⟩ hK
    have hk := look_hit hq hy hpre
    have HKK := Lib.hid hk
    have HBB := Lib.hid hB
    clear hk hq hy hB hpre
    gi_wp2
    refine ⟨by simp, .inl ⟨_, _, rfl, run_takeDeferred hK, ?_⟩⟩
    have hc5 := cell_kept k2 (grownBy_putObj' _ D (.deferred none)) (fun r e => by cases e; exact ⟨_, hK, rfl⟩)
    have hc6 := cell_kept k3 (grownBy_putObj' _ D (.deferred none)) (fun r e => by cases e; exact ⟨_, hK, rfl⟩)
    refine ⟨.tuple #[.int .i64 (y.2.1 : Nat), .int .i64 (y.2.2 : Nat)], ?_, by rw [kindOf, HKK.out], gr_of (HBB.out.trans (belowK_b (w := w) (Nat.le_refl _) _ D _ _ (by omega) hK rfl rfl))⟩
    simp [results, Try.f16, go_sem, hc5, hc6]
end Go.Proofs.Ytjkaeabnjkhllaa
