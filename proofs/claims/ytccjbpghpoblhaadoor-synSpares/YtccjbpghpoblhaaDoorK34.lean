/-
  proofmarklaw02.few, WALKED; Lex and Parse as the laws take them.
-/
import Derived.Test.YtccjbpghpoblhaaDoorK33
import Derived.Test.YtccjbpghpoblhaaDoorK32
/-
  THE EXAMPLES OF proofmarklaw02.head: what Parse tells of its three texts, by the kernel.
-/
namespace Go.Proofs.YtccjbpghpoblhaaDoor

def hdTa : List UInt8 := [109, 111, 100, 117, 108, 101, 32, 109, 40, 105, 110, 32, 97, 32, 58, 32, 49, 41, 32, 123, 32, 97, 115, 115, 101, 114, 116, 32, 112, 32, 58, 32, 97, 59, 32, 125]
def hdTb : List UInt8 := [109, 111, 100, 117, 108, 101, 32, 109, 40, 41, 32, 123, 32, 119, 105, 114, 101, 32, 120, 32, 49, 59, 32, 99, 111, 118, 101, 114, 32, 99, 32, 58, 32, 49, 39, 49, 59, 32, 125]
def hdTc : List UInt8 := [109, 111, 100, 117, 108, 101, 32, 109, 40, 41, 32, 123]
def hd0 : Hd := ⟨0, ([], 0), ([], 0), ([], 0), ([], 0), []⟩
/-- a module with a port, and what is asserted of it -/
def hdMa : Mo := ⟨[109], [], [(true, [97], ([], 1))], [⟨8, [112], ([], 0), ([], 0), [], [], [], .n0 ⟨2, ([], 0), ([], 0), ([], 0), ([], 0), [97]⟩, .n0 hd0, .n0 hd0⟩]⟩
/-- a module with a cover alone: the item ahead was spoilt -/
def hdMb : Mo := ⟨[109], [], [], [⟨10, [99], ([], 0), ([], 0), [], [], [], .n0 ⟨1, ([], 1), ([], 1), ([], 0), ([], 0), []⟩, .n0 hd0, .n0 hd0⟩]⟩
theorem hd_a : parseOut hdTa = ([hdMa], []) := by kernel_rfl
theorem hd_b : parseOut hdTb = ([hdMb], [(20, 20)]) := by kernel_rfl
theorem hd_c : parseOut hdTc = ([], [(21, 12)]) := by kernel_rfl
/-- an item without args, binds and kids: its 42 cells -/
def plainIt (i : It) (he ha hi : Hd) : List Value := itCells i (.slice none 0 0) (.slice none 0 0) (hdCells he (.slice none 0 0)) (hdCells ha (.slice none 0 0)) (hdCells hi (.slice none 0 0))
theorem plainIt_at {w : World} {F : Nat → Prop} {i : It} {he ha hi : Hd} (h1 : i.args = []) (h2 : i.binds = []) (h3 : i.e = .n0 he) (h4 : i.at_ = .n0 ha) (h5 : i.if_ = .n0 hi) : ItAt w F i (plainIt i he ha hi) := by
  refine ⟨_, _, _, _, _, rfl, ?_, ?_, by rw [h3]; rfl, by rw [h4]; rfl, by rw [h5]; rfl⟩
  · rw [h1]; exact ⟨World.ownsRow_nil _ _ _ _, fun g h => by cases h⟩
  · rw [h2]; exact ⟨[], ⟨World.ownsRow_nil _ _ _ _, fun g h => by cases h⟩, rfl, fun j k hk => by simp at hk⟩
/-- a row of one item -/
theorem oneItem_at {w : World} {i : It} {he ha hi : Hd} {g : Nat} (hg : w.heap[g]? = some (.cells (plainIt i he ha hi).toArray 59 (0, 0))) (hat : ItAt w (fun _ => True) i (plainIt i he ha hi)) : ItemsAt w (fun _ => True) [i] (.slice (some ⟨g, 0, none⟩) 1 1) := by
  refine ⟨[plainIt i he ha hi], ⟨⟨rfl, .inr ⟨g, 1, (plainIt i he ha hi).toArray, rfl, Nat.zero_le _, hg, Nat.le_refl _, by unfold maxLen; omega, rfl, rfl⟩⟩, fun _ _ => trivial⟩, rfl, fun j k hk => ?_⟩
  cases j with
  | zero => obtain rfl : i = k := by simpa using hk
            exact ⟨_, rfl, hat⟩
  | succ j => simp at hk
def hdIa : List Value := plainIt ⟨8, [112], ([], 0), ([], 0), [], [], [], .n0 ⟨2, ([], 0), ([], 0), ([], 0), ([], 0), [97]⟩, .n0 hd0, .n0 hd0⟩ ⟨2, ([], 0), ([], 0), ([], 0), ([], 0), [97]⟩ hd0 hd0
def hdIb : List Value := plainIt ⟨10, [99], ([], 0), ([], 0), [], [], [], .n0 ⟨1, ([], 1), ([], 1), ([], 0), ([], 0), []⟩, .n0 hd0, .n0 hd0⟩ ⟨1, ([], 1), ([], 1), ([], 0), ([], 0), []⟩ hd0 hd0
theorem want_a {w : World} {p g : Nat} (hp : w.heap[p]? = some (.cells #[.bool true, .string (str [97]), .string (str []), .int .i64 1] 64 (0, 0))) (hg : w.heap[g]? = some (.cells hdIa.toArray 59 (0, 0))) :
    MoAt w (fun _ => True) hdMa [.string (str [109]), .slice none 0 0, .slice (some ⟨p, 0, none⟩) 1 1, .slice (some ⟨g, 0, none⟩) 1 1] :=
  ⟨_, _, _, rfl, ⟨World.ownsRow_nil _ _ _ _, fun g h => by cases h⟩,
    ⟨⟨rfl, .inr ⟨p, 1, #[.bool true, .string (str [97]), .string (str []), .int .i64 1], rfl, Nat.zero_le _, hp, Nat.le_refl _, by unfold maxLen; omega, rfl, rfl⟩⟩, fun _ _ => trivial⟩,
    oneItem_at hg (plainIt_at rfl rfl rfl rfl rfl)⟩
theorem want_b {w : World} {g : Nat} (hg : w.heap[g]? = some (.cells hdIb.toArray 59 (0, 0))) :
    MoAt w (fun _ => True) hdMb [.string (str [109]), .slice none 0 0, .slice none 0 0, .slice (some ⟨g, 0, none⟩) 1 1] :=
  ⟨_, _, _, rfl, ⟨World.ownsRow_nil _ _ _ _, fun g h => by cases h⟩, ⟨World.ownsRow_nil _ _ _ _, fun g h => by cases h⟩, oneItem_at hg (plainIt_at rfl rfl rfl rfl rfl)⟩
/-- a row of one fault -/
theorem oneFault_at {w : World} {x : Nat × Nat} {g : Nat} (hg : w.heap[g]? = some (.cells (flCells x).toArray 35 (0, 0))) : FlAt w (fun _ => True) [x] (.slice (some ⟨g, 0, none⟩) 1 1) :=
  ⟨⟨rfl, .inr ⟨g, 1, (flCells x).toArray, rfl, Nat.zero_le _, hg, Nat.le_refl _, by unfold maxLen; omega, rfl, rfl⟩⟩, fun _ _ => trivial⟩
end Go.Proofs.YtccjbpghpoblhaaDoor

/-
  proofmarklaw02.head, WALKED: the document's examples are told as it says.
-/
namespace Go.Proofs.YtccjbpghpoblhaaDoor
open Go.RowKit

theorem Parse_is {s : ByteArray} {ms : List Mo} {fs : List (Nat × Nat)} {w : World} (hs : s.size ≤ 20000) (hsg : SgLaid w) (hop : OpLaid w) (h : parseOut s.data.toList = (ms, fs)) :
    Calls Tryd.prog 11 #[.string s] w (ParseRet w (ms, fs)) := by
  have := Parse_any s w hs (Lib.hid hsg) (Lib.hid hop)
  rw [h] at this
  exact this
theorem mods_form {w : World} {F : Nat → Prop} {ms : List Mo} {v : Value} (h : ModsAt w F ms v) : ∃ A c, v = .slice A ms.length c := by
  obtain ⟨css, hi, _⟩ := h
  exact row_form hi
theorem gr_of {w w' : World} (h : Below w.heap.size w w') : Gr w w' := ⟨h.os, h.tape, h.output, h.size, fun k hk _ => h.block k hk⟩
theorem bel_of {w w' : World} (h : Gr w w') : Below w.heap.size w w' := ⟨h.os, h.tape, h.output, h.size, fun k hk => h.block k hk (by simp)⟩
theorem MoAt.gr {w w' : World} {F : Nat → Prop} {m : Mo} {cs : List Value} (h : MoAt w F m cs) (hg : Gr w w') : MoAt w' F m cs := h.keep (fun _ h => h) (fun _ _ _ ho => hg.keep ho)
theorem FlAt.gr {w w' : World} {F : Nat → Prop} {xs : List (Nat × Nat)} {v : Value} (h : FlAt w F xs v) (hg : Gr w w') : FlAt w' F xs v := RowAt.keep h (fun _ h => h) (fun _ _ _ ho => hg.keep ho)
theorem wp_world {P : Program} {c : Code} {Q : Exit → Act → World → Prop} {a : Act} {w w' : World} (h : w' = w) (k : Code.wp P c Q a w') : Code.wp P c Q a w := h ▸ k
theorem new_of {w : World} {k : Nat} (h : w.heap.size = k) (o : Obj) : (w.alloc o).heap[k]? = some o := by
  subst h; exact new_at w o
/-- four cells of a module -/
abbrev Mo4 (w : World) (g : Nat) (a b c d : Value) : Prop := w.cell? ⟨g, 0, none⟩ = some a ∧ w.cell? ⟨g, 1, none⟩ = some b ∧ w.cell? ⟨g, 2, none⟩ = some c ∧ w.cell? ⟨g, 3, none⟩ = some d
theorem mo4_gr {w w' : World} {g : Nat} {a b c d : Value} (h : Mo4 w g a b c d) (hl : g < w.heap.size) (hg : Gr w w') : Mo4 w' g a b c d := by
  have q : ∀ o, w'.cell? ⟨g, o, none⟩ = w.cell? ⟨g, o, none⟩ := fun o => World.cell?_of_block (a := ⟨g, o, none⟩) (hg.block g hl (by simp))
  exact ⟨(q 0).trans h.1, (q 1).trans h.2.1, (q 2).trans h.2.2.1, (q 3).trans h.2.2.2⟩
theorem oneMod {w : World} {F : Nat → Prop} {m : Mo} {A : Option Addr} {c : Nat} (h : ModsAt w F [m] (.slice A 1 c)) : ∃ g pv qv iv, A = some ⟨g, 0, none⟩ ∧ g < w.heap.size ∧ Mo4 w g (.string (str m.name)) pv qv iv ∧ MoAt w F m [.string (str m.name), pv, qv, iv] := by
  obtain ⟨css, hr, hl, hq⟩ := h
  obtain ⟨cs, hcs, hm⟩ := hq 0 m rfl
  have l4 : ∀ c ∈ css, c.length = 4 := css_len hl hq (fun k c hk => by obtain ⟨_, _, _, rfl, _⟩ := hk; rfl)
  obtain ⟨g, cap, hv, _, hgl, hrg⟩ := row_range hr hl l4 hcs
  obtain ⟨pv, qv, iv, rfl, h1, h2, h3⟩ := hm
  injection hv with hv _ _
  have r := fun j u hu => hrg j u hu
  simp only [Nat.zero_mul, Nat.zero_add] at r
  exact ⟨g, pv, qv, iv, hv, hgl, ⟨r 0 _ rfl, r 1 _ rfl, r 2 _ rfl, r 3 _ rfl⟩, ⟨pv, qv, iv, rfl, h1, h2, h3⟩⟩
/-- the tables, and how far the world has come -/
def Stg (w0 w : World) : Prop := Below w0.heap.size w0 w ∧ SgLaid w ∧ OpLaid w
theorem Stg.step {w0 w w' : World} (h : Stg w0 w) (hb : Below w.heap.size w w') : Stg w0 w' := by
  have h1 := op_lt h.2.2
  refine ⟨h.1.trans (hb.mono h.1.size), ?_, op_below h.2.2 h1 hb⟩
  obtain ⟨t, fr, hh⟩ := h.2.1
  exact ⟨t, fr, (hb.block 0 (heap_lt hh)).trans hh⟩

set_option maxRecDepth 100000 in
set_option maxHeartbeats 4000000 in
theorem head_any (w : World) (hsg : Hid (SgLaid w)) (hop : Hid (OpLaid w)) : Calls Tryd.prog 9 #[] w fun e w' => e = .returned (.bool true) ∧ Below w.heap.size w w' := by
  have S0 : Hid (Stg w w) := Lib.hid ⟨Below.refl _ _, hsg.out, hop.out⟩
  go_enter Tryd.func9, Tryd.ntmps9
  go_wp2_with fail
  refine (Parse_is (by decide) S0.out.2.1 S0.out.2.2 hd_a).mono ?_
  rintro e w1 ⟨hb, mv1, fv1, rfl, hm1, hf1⟩
  obtain ⟨A1, c1, rfl⟩ := mods_form hm1
  obtain ⟨B1, d1, rfl⟩ := row_form hf1
  have S1 := Lib.hid (S0.out.step hb)
  have M1 := Lib.hid (And.intro hm1 hf1)
  clear hb hm1 hf1
  go_wp2_with fail
  have hx1 : Below w1.heap.size w1 (w1.alloc (.cells #[.slice A1 1 c1] 26)) := (Below.refl _ _).alloc (Nat.le_refl _) _
  have T1 := Lib.hid (S1.out.step hx1)
  clear hx1
  refine (Parse_is (by decide) T1.out.2.1 T1.out.2.2 hd_b).mono ?_
  rintro e w2 ⟨hb, mv2, fv2, rfl, hm2, hf2⟩
  obtain ⟨A2, c2, rfl⟩ := mods_form hm2
  obtain ⟨B2, d2, rfl⟩ := row_form hf2
  have S2 := Lib.hid (T1.out.step hb)
  have M2 := Lib.hid (And.intro hm2 hf2)
  have X1 := Lib.hid (And.intro hb ((hb.block w1.heap.size (by simp)).trans (new_at w1 (.cells #[.slice A1 1 c1] 26))))
  clear hb hm2 hf2
  go_wp2_with fail
  have hx2 : Below w2.heap.size w2 (w2.alloc (.cells #[.slice A2 1 c2] 26)) := (Below.refl _ _).alloc (Nat.le_refl _) _
  have T2 := Lib.hid (S2.out.step hx2)
  clear hx2
  refine (Parse_is (by decide) T2.out.2.1 T2.out.2.2 hd_c).mono ?_
  rintro e w3 ⟨hb, mv3, fv3, rfl, hm3, hf3⟩
  obtain ⟨A3, c3, rfl⟩ := mods_form hm3
  obtain ⟨B3, d3, rfl⟩ := row_form hf3
  have S3 := Lib.hid (T2.out.step hb)
  have M3 := Lib.hid (And.intro hm3 hf3)
  have X2 := Lib.hid (And.intro hb ((hb.block w2.heap.size (by simp)).trans (new_at w2 (.cells #[.slice A2 1 c2] 26))))
  have X3 := Lib.hid ((hb.block w1.heap.size (by have := heap_lt X1.out.2; simp; omega)).trans ((Below.heap_alloc w2 (.cells #[.slice A2 1 c2] 26) w1.heap.size (heap_lt X1.out.2)).trans X1.out.2))
  clear hb hm3 hf3
  have ca : w3.cell? ⟨w1.heap.size, 0, none⟩ = some (.slice A1 1 c1) := by rw [cell_at X3.out]; rfl
  have cb : w3.cell? ⟨w2.heap.size, 0, none⟩ = some (.slice A2 1 c2) := by rw [cell_at X2.out.2]; rfl
  have la := heap_lt X3.out
  have lb := heap_lt X2.out.2
  go_upto_region 9 with fail
  obtain ⟨W, eW, GW, CP, CI, CQ, CJ, CR⟩ : ∃ W, ((((((((w3.alloc (.cells #[.slice A3 0 c3] 26)).alloc (.cells #[.bool true, .string ⟨#[97]⟩, .string ⟨#[]⟩, .int .i64 1] 64)).alloc (.cells hdIa.toArray 59)).alloc (.cells #[.string ⟨#[109]⟩, .slice none 0 0, .slice (some ⟨w3.heap.size + 1, 0, none⟩) 1 1, .slice (some ⟨w3.heap.size + 1 + 1, 0, none⟩) 1 1] 48)).alloc (.cells #[.string ⟨#[]⟩, .int .i64 1] 52)).alloc (.cells hdIb.toArray 59)).alloc (.cells #[.string ⟨#[109]⟩, .slice none 0 0, .slice none 0 0, .slice (some ⟨w3.heap.size + 1 + 1 + 1 + 1 + 1, 0, none⟩) 1 1] 48))) = W ∧ Hid (Gr w3 W) ∧
      Hid (W.heap[w3.heap.size + 1]? = some (.cells #[.bool true, .string ⟨#[97]⟩, .string ⟨#[]⟩, .int .i64 1] 64 (0, 0))) ∧ Hid (W.heap[w3.heap.size + 1 + 1]? = some (.cells hdIa.toArray 59 (0, 0))) ∧
      Hid (W.heap[w3.heap.size + 1 + 1 + 1]? = some (.cells #[.string ⟨#[109]⟩, .slice none 0 0, .slice (some ⟨w3.heap.size + 1, 0, none⟩) 1 1, .slice (some ⟨w3.heap.size + 1 + 1, 0, none⟩) 1 1] 48 (0, 0))) ∧
      Hid (W.heap[w3.heap.size + 1 + 1 + 1 + 1 + 1]? = some (.cells hdIb.toArray 59 (0, 0))) ∧ Hid (W.heap[w3.heap.size + 1 + 1 + 1 + 1 + 1 + 1]? = some (.cells #[.string ⟨#[109]⟩, .slice none 0 0, .slice none 0 0, .slice (some ⟨w3.heap.size + 1 + 1 + 1 + 1 + 1, 0, none⟩) 1 1] 48 (0, 0))) := by
    refine ⟨_, rfl, Lib.hid ?_, Lib.hid ?_, Lib.hid ?_, Lib.hid ?_, Lib.hid ?_, Lib.hid ?_⟩
    · exact ((((((Gr.alloc _ _).trans (Gr.alloc _ _)).trans (Gr.alloc _ _)).trans (Gr.alloc _ _)).trans (Gr.alloc _ _)).trans (Gr.alloc _ _)).trans (Gr.alloc _ _)
    all_goals
      repeat (first | (refine (new_of ?_ _).trans rfl; simp; done) | (refine (Below.heap_alloc _ _ _ (by simp <;> omega)).trans ?_))
  refine wp_world (w' := W) (eW.symm.trans rfl) ?_
  clear eW
  have G3 : Gr w3 W := GW.out
  have G2 : Gr w2 W := ((Gr.alloc _ _).trans (gr_of X2.out.1)).trans G3
  have G1 : Gr w1 W := ((Gr.alloc _ _).trans (gr_of X1.out.1)).trans G2
  obtain ⟨ga, pa, qa, ia, rfl, hla, ma4, maAt⟩ := oneMod M1.out.1
  obtain ⟨gb, pb, qb, ib, rfl, hlb, mb4, mbAt⟩ := oneMod M2.out.1
  have hsW := G3.size
  have hs1 := G1.size
  have hs2 := G2.size
  have KEEP := Lib.hid (show ∀ u, Gr W u → (u.cell? ⟨w1.heap.size, 0, none⟩ = some (.slice (some ⟨ga, 0, none⟩) 1 c1) ∧ u.cell? ⟨w2.heap.size, 0, none⟩ = some (.slice (some ⟨gb, 0, none⟩) 1 c2) ∧ Mo4 u ga (.string ⟨#[109]⟩) pa qa ia ∧ Mo4 u gb (.string ⟨#[109]⟩) pb qb ib ∧
      Mo4 u (w3.heap.size + 1 + 1 + 1) (.string ⟨#[109]⟩) (.slice none 0 0) (.slice (some ⟨w3.heap.size + 1, 0, none⟩) 1 1) (.slice (some ⟨w3.heap.size + 1 + 1, 0, none⟩) 1 1) ∧ Mo4 u (w3.heap.size + 1 + 1 + 1 + 1 + 1 + 1) (.string ⟨#[109]⟩) (.slice none 0 0) (.slice none 0 0) (.slice (some ⟨w3.heap.size + 1 + 1 + 1 + 1 + 1, 0, none⟩) 1 1)) from fun u hu => by
    refine ⟨?_, ?_, mo4_gr ma4 hla (G1.trans hu), mo4_gr mb4 hlb (G2.trans hu), ?_, ?_⟩
    · rw [cell_at ((G3.trans hu).keep X3.out)]; rfl
    · rw [cell_at ((G3.trans hu).keep X2.out.2)]; rfl
    · have h := hu.keep CQ.out
      exact ⟨by rw [cell_at h]; rfl, by rw [cell_at h]; rfl, by rw [cell_at h]; rfl, by rw [cell_at h]; rfl⟩
    · have h := hu.keep CR.out
      exact ⟨by rw [cell_at h]; rfl, by rw [cell_at h]; rfl, by rw [cell_at h]; rfl, by rw [cell_at h]; rfl⟩)
  have SA := Lib.hid (show ∀ u : World, Gr W u → Calls Tryd.prog 17 #[.agg #[.string ⟨#[109]⟩, pa, qa, ia], .agg #[.string ⟨#[109]⟩, .slice none 0 0, .slice (some ⟨w3.heap.size + 1, 0, none⟩) 1 1, .slice (some ⟨w3.heap.size + 1 + 1, 0, none⟩) 1 1]] u (fun e w' => e = .returned (.bool true) ∧ Gr u w') from fun u hu => SameModule_yes hdMa _ _ _ _ u (Lib.hid (maAt.gr (G1.trans hu))) (Lib.hid (want_a (hu.keep CP.out) (hu.keep CI.out))))
  have SB := Lib.hid (show ∀ u : World, Gr W u → Calls Tryd.prog 17 #[.agg #[.string ⟨#[109]⟩, pb, qb, ib], .agg #[.string ⟨#[109]⟩, .slice none 0 0, .slice none 0 0, .slice (some ⟨w3.heap.size + 1 + 1 + 1 + 1 + 1, 0, none⟩) 1 1]] u (fun e w' => e = .returned (.bool true) ∧ Gr u w') from fun u hu => SameModule_yes hdMb _ _ _ _ u (Lib.hid (mbAt.gr (G2.trans hu))) (Lib.hid (want_b (hu.keep CJ.out))))
  have FB := Lib.hid (show ∀ v : World, Gr W v → Calls Tryd.prog 16 #[.slice B2 1 d2, .slice (some ⟨v.heap.size, 0, none⟩) 1 1] (v.alloc (.cells #[.int .i64 20, .int .i64 20, .int .i64 0, .int .i64 0] 35)) (fun e w' => e = .returned (.bool true) ∧ Gr v w') from fun v hv => (SameFaults_yes [(20, 20)] _ _ _ _ _ (Lib.hid (M2.out.2.gr ((G2.trans hv).trans (Gr.alloc _ _)))) (Lib.hid (oneFault_at (new_at v _)))).mono fun e w' h => ⟨h.1, (Gr.alloc _ _).trans h.2⟩)
  have FC := Lib.hid (show ∀ v : World, Gr W v → Calls Tryd.prog 16 #[.slice B3 1 d3, .slice (some ⟨v.heap.size, 0, none⟩) 1 1] (v.alloc (.cells #[.int .i64 21, .int .i64 12, .int .i64 0, .int .i64 0] 35)) (fun e w' => e = .returned (.bool true) ∧ Gr v w') from fun v hv => (SameFaults_yes [(21, 12)] _ _ _ _ _ (Lib.hid (M3.out.2.gr ((G3.trans hv).trans (Gr.alloc _ _)))) (Lib.hid (oneFault_at (new_at v _)))).mono fun e w' h => ⟨h.1, (Gr.alloc _ _).trans h.2⟩)
  have WA := Lib.hid (show ∀ u : World, Calls Tryd.prog 19 #[.string ⟨#[97, 116]⟩] u (fun e w' => e = .returned (.bool true) ∧ w' = u) from fun u => Word_b (l := [97, 116]) u (by decide))
  have WM := Lib.hid (show ∀ u : World, Calls Tryd.prog 19 #[.string ⟨#[109]⟩] u (fun e w' => e = .returned (.bool false) ∧ w' = u) from fun u => Word_b (l := [109]) u (by decide))
  have BW := Lib.hid (show Gr w W from (gr_of S3.out.1).trans G3)
  clear G1 G2 G3 ma4 maAt mb4 mbAt hla hlb hsW hs1 hs2 ca cb la lb
  go_region_held3 (fun u => u.cell? ⟨w1.heap.size, 0, none⟩ = some (.slice (some ⟨ga, 0, none⟩) 1 c1) ∧ u.cell? ⟨w2.heap.size, 0, none⟩ = some (.slice (some ⟨gb, 0, none⟩) 1 c2) ∧ Mo4 u ga (.string ⟨#[109]⟩) pa qa ia ∧ Mo4 u gb (.string ⟨#[109]⟩) pb qb ib ∧ Mo4 u (w3.heap.size + 1 + 1 + 1) (.string ⟨#[109]⟩) (.slice none 0 0) (.slice (some ⟨w3.heap.size + 1, 0, none⟩) 1 1) (.slice (some ⟨w3.heap.size + 1 + 1, 0, none⟩) 1 1) ∧ Mo4 u (w3.heap.size + 1 + 1 + 1 + 1 + 1 + 1) (.string ⟨#[109]⟩) (.slice none 0 0) (.slice none 0 0) (.slice (some ⟨w3.heap.size + 1 + 1 + 1 + 1 + 1, 0, none⟩) 1 1))
    (first | exact KEEP.out _ (Gr.drew _) | exact KEEP.out _ (by assumption) | exact KEEP.out _ (Gr.trans (by assumption) (Gr.alloc _ _)))
    (first
      | (go_at_call 17; (with_reducible refine (SA.out _ (Gr.drew _)).mono ?_); rintro e u1 ⟨rfl, hu1'⟩; have hu1 : Gr W u1 := (Gr.drew _).trans hu1')
      | (go_at_call 17; (with_reducible refine (SB.out u1 hu1).mono ?_); rintro e u2 ⟨rfl, hu2'⟩; have hu2 : Gr W u2 := hu1.trans hu2')
      | (go_at_call 16; (with_reducible refine (FB.out u2 hu2).mono ?_); rintro e u3 ⟨rfl, hu3'⟩; have hu3 : Gr W u3 := hu2.trans hu3')
      | (go_at_call 16; (with_reducible refine (FC.out u3 hu3).mono ?_); rintro e u4 ⟨rfl, hu4'⟩; have hu4 : Gr W u4 := hu3.trans hu4')
      | (go_at_call 19; (with_reducible refine (WA.out _).mono ?_); rintro e u5 ⟨rfl, rfl⟩)
      | (go_at_call 19; (with_reducible refine (WM.out _).mono ?_); rintro e u6 ⟨rfl, rfl⟩))
  go_wp2_with fail
  go_ret
  exact ⟨rfl, bel_of (BW.out.trans hu4)⟩
end Go.Proofs.YtccjbpghpoblhaaDoor

namespace Go.Proofs.YtccjbpghpoblhaaDoor
open Go.RowKit

theorem few_any (s : ByteArray) (w : World) (hs : s.size ≤ maxLen) :
    Calls Tryd.prog 10 #[.string s] w fun e w' => e = .returned (.string (str (s.data.toList.take 3000))) ∧ w = w' := by
  unfold maxLen at hs
  have e : ∀ k : Nat, s.data.toList.take k = s.data.toList.take 3000 → s.extract 0 k = str (s.data.toList.take 3000) := fun k h => by
    rw [str_extract, List.drop_zero, Nat.sub_zero, h]
  have E := Lib.hid e
  clear e
  by_cases h : (s.size : Int) ≤ 3000
  · go_enter Tryd.func10, Tryd.ntmps10
    go_wp2
    go_ret
    refine ⟨congrArg (fun x => Ending.returned (Value.string x)) ?_, rfl⟩
    rw [List.take_of_length_le (by rw [← Lib.size_eq]; omega), str_of]
  · go_enter Tryd.func10, Tryd.ntmps10
    go_wp2
    go_ret
    exact ⟨congrArg (fun x => Ending.returned (Value.string x)) (E.out _ rfl), rfl⟩
theorem few_size (s : ByteArray) : (str (s.data.toList.take 3000)).size ≤ 3000 := by rw [str_size]; exact List.length_take_le _ _
end Go.Proofs.YtccjbpghpoblhaaDoor

