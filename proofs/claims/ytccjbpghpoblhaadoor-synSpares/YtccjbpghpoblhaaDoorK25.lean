/-
  body, WALKED: a module's items.
-/
import Derived.Test.YtccjbpghpoblhaaDoorK24
namespace Go.Proofs.YtccjbpghpoblhaaDoor
open Go.RowKit

def vItems (w : World) (is : List It) (w' : World) (v : Value) : Prop := ItemsAt w' (New w) is v
def BdRel (P : Pr) (w0 : World) (mo : Nat) (R : PR (List It) × Fs) (f : Nat) (v : Value) (wr : World) : Prop :=
  ∃ (V : Va) (m : Nat) (is : List It) (fs : Fs), V.mo = mo ∧ V.it ≤ 64 ∧ is.length ≤ V.it ∧ fs.length ≤ 19 ∧ P.T.length < m + f ∧ Hid (FQ P w0 wr) ∧ Hid (St P V m wr) ∧ Hid (FaAt P wr V.fa fs) ∧ Hid (ItemsAt wr (New w0) is v) ∧ Hid (wr.heap[w0.heap.size]? = some (.cells #[.pointer (some ⟨P.b, 0, none⟩)] 65 (0, 0))) ∧ Hid (pBody P.T f V.it is fs m = R)

theorem info59 : (Tryd.prog.info? 59).map (fun i => (i.zero, i.size, i.bytes)) = some (some (.agg zero59.toArray), 42, 568) := by kernel_rfl

theorem items_nil (w : World) (F : Nat → Prop) : ItemsAt w F [] (.slice none 0 0) := ⟨[], ⟨World.ownsRow_nil _ _ _ _, fun g h => by cases h⟩, rfl, fun j i h => by simp at h⟩

theorem setCell_size (w : World) (a : Addr) (v : Value) : (w.setCell a v).heap.size = w.heap.size := by simp [World.setCell]

/-- the cells of one part, laid whole -/
theorem fill_one {s : Nat} (hs : 0 < s) (cs : List Value) (cells : Array Value) (hl : cs.length = s) (hn : cells.size = s) :
    Instr.fill (fun i => some (i * s, s)) cells [(0, .agg cs.toArray)] = some cs.toArray := by
  have := Great.fill_whole hs [.agg cs.toArray] cells (fun v hv => by
    obtain rfl : v = .agg cs.toArray := by simpa using hv
    simpa [Value.cells] using hl) (by simp [hn])
  simpa [Value.cells] using this

theorem fill59 {i0 : TypeInfo} (hs : i0.size = 42) (cs : List Value) (hl : cs.length = 42) :
    Instr.fill (fun i => some (i * i0.size, i0.size)) ((Array.range (1 * i0.size)).map ((Value.agg zero59.toArray).cells[· % (Value.agg zero59.toArray).cells.size]!)) [(0, .agg cs.toArray)] = some cs.toArray := by
  rw [hs]; exact fill_one (by omega) cs _ hl (by simp)

set_option maxRecDepth 100000 in
set_option maxHeartbeats 4000000 in
theorem body_any (P : Pr) (V : Va) (n : Nat) (fs : Fs) (w : World) (h : Hid (St P V n w)) (ha : Hid (FaAt P w V.fa fs)) (hl : fs.length ≤ 19) :
    Calls Tryd.prog 61 #[.pointer (some ⟨P.b, 0, none⟩)] w (GotQ P V.mo w (pBody P.T (P.T.length + 1) 0 [] fs n) (vItems w)) := by
  have hmf : ∀ (fn : Fn) (first cap : Array Value) (w : World), (Instr.makeFunc fn first cap).run Tryd.prog w = .ok (.func fn first cap) w := fun _ _ _ _ => rfl
  obtain ⟨i0, hi, hz0, hz1, hz2⟩ := info_parts info59
  have HI := Lib.hid (And.intro hi (And.intro hz0 (And.intro hz1 hz2)))
  clear hi hz0 hz1 hz2
  have c4 := h.out.c4
  have z4 := h.out.fz 4
  have hlt := h.out.lt
  have hne : P.b ≠ w.heap.size := by omega
  have hb1 : P.b < P.B := h.out.lb
  have hBw := h.out.hB
  go_enter Tryd.func61, Tryd.ntmps61
  go_wp2_with fail
  go_loopg [3] (P.T.length + 1) (fun f v wr => BdRel P w V.mo (pBody P.T (P.T.length + 1) 0 [] fs n) f v wr)
  case atStart =>
    have q := h.out.none
    have f1 := q.1.more (.cells #[.pointer (some ⟨P.b, 0, none⟩)] 65)
    refine ⟨{ V with it := 0 }, n, [], fs, rfl, by simp, by simp, hl, by omega, Lib.hid (FQ.of f1 h.out), Lib.hid (q.2.alloc _), Lib.hid (ha.out.fr f1 hb1), Lib.hid (items_nil _ _), Lib.hid ?_, Lib.hid rfl⟩
    have := new_at (w.setCell ⟨P.b, 4, none⟩ (.int .i64 0)) (.cells #[.pointer (some ⟨P.b, 0, none⟩)] 65)
    rw [setCell_size] at this
    exact this
  case round =>
    clear c4 z4
    obtain ⟨V1, m, is, gs, hmo, hit, his, hgl, hmf', FR, SR, AR, IR, BR, ER⟩ := hrel
    have HM := Lib.hid hmf'
    clear hmf'
    have bR : wr.cell? ⟨w.heap.size, 0, none⟩ = some (.pointer (some ⟨P.b, 0, none⟩)) := by rw [cell_at BR.out]; rfl
    obtain ⟨f, hf'⟩ : ∃ f, gk = f + 1 := ⟨gk - 1, by have := HM.out; have := SR.out.le; omega⟩
    subst hf'
    by_cases hT : tokIs P.T m [125] = true
    · go_wp2_with fail
      refine (take_yes P V1 m [125] wr SR hT).mono ?_
      rintro e w1 ⟨rfl, hf, hs⟩
      have F1 := Lib.hid (FR.out.trans (FQ.of hf SR.out))
      have I1 := Lib.hid (IR.out.fq (FQ.of hf SR.out))
      have A1 := Lib.hid (AR.out.fr hf hb1)
      have S1 := Lib.hid hs
      clear hf hs
      go_wp2_with fail
      go_ret
      refine gotq_ok ?_ hmo F1.out S1.out A1.out I1.out
      rw [← ER.out, pBody, if_pos hT]
    · have hT' : tokIs P.T m [125] = false := by simpa using hT
      go_wp2_with fail
      refine (take_no P V1 m [125] wr SR hT').mono ?_
      rintro e w1 ⟨rfl, hf, hs⟩
      have F1 := Lib.hid (FR.out.trans (FQ.of hf SR.out))
      have I1 := Lib.hid (IR.out.fq (FQ.of hf SR.out))
      have A1 := Lib.hid (AR.out.fr hf hb1)
      have B1 := Lib.hid (hf.keep BR.out (by omega))
      have S1 := Lib.hid hs
      clear hf hs bR
      go_wp2_with fail
      refine (try_item P V1 m w.heap.size w1 S1 hit B1).mono ?_
      rintro e w2 ⟨hf, hG⟩
      obtain ⟨V2, hV2⟩ : ∃ V2, V2 = begun P.T V1 m := ⟨_, rfl⟩
      rw [← hV2] at hG
      have hfa2 : V2.fa = V1.fa := by rw [hV2, begun_it]
      have hmo2 : V2.mo = V.mo := by rw [hV2, begun_it]; exact hmo
      have hit2 : V2.it = bk P.T V1.it m := by rw [hV2, begun_it]
      have HV2 := Lib.hid (And.intro hmo2 hit2)
      have F2 := Lib.hid (F1.out.trans (FQ.of hf S1.out))
      have A2 : Hid (FaAt P w2 V2.fa gs) := Lib.hid (by rw [hfa2]; exact A1.out.fr hf hb1)
      have B2 := Lib.hid (hf.keep B1.out (by omega))
      have I2 := Lib.hid (I1.out.fq (FQ.of hf S1.out))
      have b2 : w2.cell? ⟨w.heap.size, 0, none⟩ = some (.pointer (some ⟨P.b, 0, none⟩)) := by rw [cell_at B2.out]; rfl
      have hw2 := heap_lt B2.out
      have hne2 : w.heap.size ≠ w2.heap.size := by omega
      clear hmo2 hit2 hV2 hfa2
      rcases hN : pItem P.T V1.it m with x | ⟨i, m2⟩
      · rw [hN] at hG
        obtain ⟨rfl, m2, hs⟩ := hG
        have E2 := Lib.hid hN
        have S2 := Lib.hid hs
        clear hN hs hf
        obtain ⟨A, c0, hfa⟩ := row_form A2.out
        have HFA := Lib.hid hfa
        clear hfa
        have hx := pItem_g (T := P.T) (k := V1.it) S1.out.le
        rw [E2.out] at hx
        have HX := Lib.hid (show ErrAt P.T m x from hx)
        clear hx
        by_cases hlast : x.1 = 21 ∨ gs.length = 19
        · have HL := Lib.hid hlast
          clear hlast
          go_wp2_with fail
          refine (isLast_any P V2 m2 x.1 x.2 gs.length c0 A _ (Lib.hid (S2.out.alloc _)) HFA.out true (by simp [HL.out])).mono ?_
          rintro e w3 ⟨rfl, hf3, hs3⟩
          have C3 := hf3.keep (new_at w2 _) (by have := S2.out.lt; omega)
          have e0 := cell_at (o := 0) C3
          have e1 := cell_at (o := 1) C3
          have FF := (Fr.alloc P.b w2 (.cells #[.int .i64 (x.1 : Nat), .int .i64 (x.2 : Nat)] 89)).trans hf3
          have F3 := Lib.hid (F2.out.trans (FQ.of FF S2.out))
          have S3 := Lib.hid hs3
          have A3 := Lib.hid (A2.out.fr FF hb1)
          clear C3 FF hf3 hs3 b2
          go_wp2_with fail
          refine ⟨rfl, ?_⟩
          refine gotq_bad ?_ HV2.out.1 F3.out S3.out A3.out rfl
          rw [← ER.out, pBody, if_neg hT, E2.out]
          simp only []
          rw [if_pos HL.out]
        · have HL := Lib.hid hlast
          clear hlast
          go_wp2_with fail
          refine (isLast_any P V2 m2 x.1 x.2 gs.length c0 A _ (Lib.hid (S2.out.alloc _)) HFA.out false (by simp [HL.out])).mono ?_
          rintro e w3 ⟨rfl, hf3, hs3⟩
          have C3 := hf3.keep (new_at w2 _) (by have := S2.out.lt; omega)
          have e0 := cell_at (o := 0) C3
          have e1 := cell_at (o := 1) C3
          have FF := (Fr.alloc P.b w2 (.cells #[.int .i64 (x.1 : Nat), .int .i64 (x.2 : Nat)] 89)).trans hf3
          have F3 := Lib.hid (F2.out.trans (FQ.of FF S2.out))
          have S3 := Lib.hid hs3
          have A3 := Lib.hid (A2.out.fr FF hb1)
          have B3 := Lib.hid (FF.keep B2.out (by omega))
          have I3 := Lib.hid (I2.out.fq (FQ.of FF S2.out))
          have C3 := Lib.hid C3
          have b3 : w3.cell? ⟨w.heap.size, 0, none⟩ = some (.pointer (some ⟨P.b, 0, none⟩)) := by rw [cell_at B3.out]; rfl
          clear FF hf3 hs3 b2
          go_wp2_with fail
          refine (tell_any P V2 m2 x.1 x.2 gs w3 S3 A3 (by omega)).mono ?_
          rintro e w4 ⟨rfl, hq4, v4, hs4, ha4⟩
          have C4 := hq4.ty _ _ _ _ C3.out (by decide) (by decide)
          have e0' := cell_at (o := 0) C4
          have e1' := cell_at (o := 1) C4
          have B4 := Lib.hid (hq4.ty _ _ _ _ B3.out (by decide) (by decide))
          have b4 : w4.cell? ⟨w.heap.size, 0, none⟩ = some (.pointer (some ⟨P.b, 0, none⟩)) := by rw [cell_at B4.out]; rfl
          have F4 := Lib.hid (F3.out.trans hq4)
          have I4 := Lib.hid (I3.out.fq hq4)
          have S4 := Lib.hid hs4
          have A4 := Lib.hid ha4
          clear C4 hq4 hs4 ha4 b3 e0 e1
          go_wp2_with fail
          refine (pastItem_any P { V2 with fa := v4 } m2 x.1 x.2 w4 S4 (by have := HX.out; unfold ErrAt at this; omega)).mono ?_
          intro e w5 hG
          rcases hG.elim with ⟨y, m5, hN, hf, hs, rfl⟩ | ⟨u, m5, v5, hN, hf, hs, rfl, hv⟩
          · have E5 := Lib.hid hN
            have F5 := Lib.hid (F4.out.trans (FQ.of hf S4.out))
            have A5 := Lib.hid (A4.out.fr hf hb1)
            have S5 := Lib.hid hs
            clear hN hf hs hG
            go_wp2_with fail
            refine ⟨rfl, ?_⟩
            refine gotq_bad (V := { V2 with fa := v4 }) ?_ HV2.out.1 F5.out S5.out A5.out rfl
            rw [← ER.out, pBody, if_neg hT, E2.out]
            simp only []
            rw [if_neg HL.out, E5.out]
          · obtain rfl : v5 = _ := hv
            have E5 := Lib.hid hN
            have F5 := Lib.hid (F4.out.trans (FQ.of hf S4.out))
            have A5 := Lib.hid (A4.out.fr hf hb1)
            have S5 := Lib.hid hs
            have B5 := Lib.hid (hf.keep B4.out (by omega))
            have I5 := Lib.hid (I4.out.fq (FQ.of hf S4.out))
            clear hN hf hs hG
            go_wp2_with fail
            go_roundg f
            case measure => omega
            case rel =>
              refine ⟨{ V2 with fa := v4 }, m5, is, gs ++ [(x.1, x.2)], HV2.out.1, ?_, ?_, ?_, ?_, F5, S5, A5, I5, B5, Lib.hid ?_⟩
              · show V2.it ≤ 64
                rw [HV2.out.2]; exact bk_le hit
              · show is.length ≤ V2.it
                rw [HV2.out.2]; unfold bk; split <;> omega
              · have := HL.out
                simp; omega
              · have h1 := HX.out.1
                have h2 := pPast_g (T := P.T) (b := x.2) (P.T.length - x.2) x.2 (Nat.le_refl _) (by have := HX.out; unfold ErrAt at this; omega)
                rw [E5.out] at h2
                have h3 : x.2 ≤ m5 := h2.1
                have h4 : m < m5 := by
                  rcases Nat.lt_or_ge m x.2 with h5 | h5
                  · omega
                  · have h6 : x.2 = m := by omega
                    have h7 := E5.out
                    rw [h6] at h7
                    exact pPast_goes _ _ _ hT' h7
                have := HM.out
                omega
              · rw [← ER.out, pBody, if_neg hT, E2.out]
                simp only []
                rw [if_neg HL.out, E5.out]
                simp only []
                rw [← HV2.out.2]
      · rw [hN] at hG
        obtain ⟨rfl, hs, hi⟩ := hG
        have E2 := Lib.hid hN
        have S2 := Lib.hid hs
        obtain ⟨hk1, hk2⟩ := pItem_began hN
        have hgo := pItem_goes S1.out.le hN
        have hw12 := hf.size
        have hwr1 := F1.out.size
        clear hN hs hf
        obtain ⟨hgI, cs, hbI, hat⟩ := hi
        have hl42 := it_len hat
        have HR := Lib.hid (World.rangeAt_alloc (range_of hbI) (.cells #[.int .i64 0, .int .i64 0] 89))
        have HS59 := Lib.hid (show (Tryd.prog.info? 59).map (·.size) = some cs.length by rw [size59, hl42])
        have HFI := Lib.hid (fill59 HI.out.2.2.1 cs hl42)
        have HOC := Lib.hid (show ∀ u ∈ cs, u.oneCell' = true from fun u hu => by
          have := it_one hat
          rw [Array.all_eq_true'] at this
          exact this u (by simpa using hu))
        have HAT := Lib.hid (hat.keep (F' := New w) (fun k hk => Nat.le_trans hwr1 hk) (fun _ _ _ h => h))
        have HL42 := Lib.hid hl42
        clear hat hbI hl42
        obtain ⟨css, hrow, hcl, hcs⟩ := I2.out
        obtain ⟨A, c0, rfl⟩ := row_form hrow
        have HROW := Lib.hid hrow
        have HCS := Lib.hid (And.intro hcl hcs)
        clear hrow hcl hcs
        have HISL := Lib.hid his
        clear his
        go_wp2_with (first
          | (refine wpList_load_mid rfl 59 _ rfl w1.heap.size 0 rfl cs _ HR.out Tryd.underlying59 rfl HS59.out ?_)
          | (refine wpList_buildSlice rfl 46 59 1 #[(0, .tmp 21)] rfl cs.toArray i0 (.agg zero59.toArray) Tryd.underlying46 HI.out.1 HI.out.2.1 (by rw [HI.out.2.2.1]; decide) (by rw [HI.out.2.2.1]; decide) (by rw [Array.toList_map]; exact HFI.out) ?_)
          | (refine wpList_append_lies _ (by rfl) _ _ _ (by rfl) 0 59 i0 _ 42 568 Tryd.underlying46 HI.out.1 HI.out.2.1 HI.out.2.2.1 HI.out.2.2.2 (by rfl) (by omega) (.slice A is.length c0) is.length css.flatten (by rfl) ((HROW.out.1.alloc _).alloc _) ⟨(w2.alloc (.cells #[.int .i64 0, .int .i64 0] 89)).heap.size, 0, none⟩ 1 1 cs (by rfl) (by rw [HL42.out]) (World.news_of_block (cs := cs.toArray) (t := 59) (fr := (0, 0)) (heap_alloc_new (w2.alloc (.cells #[.int .i64 0, .int .i64 0] 89)) (.cells cs.toArray 59))) HOC.out (by omega) (by have := HISL.out; unfold maxLen; omega) (by have := HISL.out; omega) (by simp) (w2.heap.size + 2) (by simp) ?_; intro g cap w5 hown5 hgrow5 hat5 hlt5))
        have Y := Lib.hid (app_grow (w3 := w2.alloc (.cells #[.int .i64 0, .int .i64 0] 89)) (F := New w) (RowAt.keep HROW.out (fun _ h => h) (fun j o _ ho => (Below.heap_alloc _ _ _ (heap_lt ho)).trans ho)) hgrow5 hown5 (by simpa using hat5) (by unfold New; simp; omega))
        have hz2 : (w2.alloc (.cells #[.int .i64 0, .int .i64 0] 89)).heap.size = w2.heap.size + 1 := by simp
        have T5 : TyFr 59 59 w2 w5 := fun j c t z hj h1 h2 => Y.out.1 j c t z ((Below.heap_alloc _ _ _ (heap_lt hj)).trans hj) h1 h2
        have low5 : ∀ j, j < w.heap.size → w5.heap[j]? = w2.heap[j]? := fun j hj => (Y.out.2.2.2 j (by omega) (by unfold New; omega)).trans (Below.heap_alloc _ _ _ (by omega))
        have hsz5 := Y.out.2.2.1
        have FQ5 : FQ P w w5 := ⟨hgrow5.os.trans F2.out.os, hgrow5.tape.trans F2.out.tape, hgrow5.output.trans F2.out.output, by omega, fun j hj hb => (low5 j (by omega)).trans (F2.out.low j hj hb), fun j c t z hj h1 h2 => (low5 j (heap_lt hj)).trans (F2.out.ty j c t z hj h1 h2)⟩
        go_roundg f
        case measure => omega
        case rel =>
          refine ⟨V2, m2, is ++ [i], gs, HV2.out.1, ?_, ?_, hgl, ?_, Lib.hid FQ5, Lib.hid (S2.out.far (fun j hj => low5 j (by omega)) (by omega)), Lib.hid (RowAt.ty A2.out T5 (by decide) (by decide)), Lib.hid ?_, Lib.hid (T5 _ _ _ _ B2.out (by decide) (by decide)), Lib.hid ?_⟩
          · rw [HV2.out.2]; exact bk_le hit
          · rw [HV2.out.2, hk1]; have := HISL.out; simp; omega
          · have := HM.out; omega
          · exact items_snoc HCS.out.1 HCS.out.2 HAT.out T5 Y.out.2.1
          · rw [← ER.out, pBody, if_neg hT, E2.out]
            simp only []
            rw [← HV2.out.2]

end Go.Proofs.YtccjbpghpoblhaaDoor

