/-
  exprsOf, WALKED, of an instance.
-/
import Derived.Test.YtjkaeabnjkhllaaScExs
import Derived.Laws.AppendOwn
namespace Go.Proofs.Ytjkaeabnjkhllaa
open Go.RowKit

theorem info47 : (Try.prog.info? 47).map (fun i => (i.zero, i.size, i.bytes)) = some (some (.agg #[.int .i64 0, .string ⟨#[]⟩, .int .i64 0, .string ⟨#[]⟩, .int .i64 0, .string ⟨#[]⟩, .int .i64 0, .string ⟨#[]⟩, .int .i64 0, .string ⟨#[]⟩, .slice none 0 0]), 11, 144) := by kernel_rfl
theorem flat_at {size : Nat} : ∀ {css : List (List Value)} {j i : Nat} {d : List Value} {u : Value}, (∀ c ∈ css, c.length = size) → css[j]? = some d → d[i]? = some u → css.flatten[j * size + i]? = some u
  | [], j, i, d, u, _, hd, _ => by simp at hd
  | c :: r, 0, i, d, u, _, hd, hu => by
    simp at hd
    subst hd
    rw [Nat.zero_mul, Nat.zero_add, List.flatten_cons, List.getElem?_append_left (List.getElem?_eq_some_iff.1 hu).1]
    exact hu
  | c :: r, j + 1, i, d, u, hl, hd, hu => by
    have hc := hl c (by simp)
    rw [List.flatten_cons, List.getElem?_append_right (by rw [hc, Nat.add_mul]; omega), hc, show (j + 1) * size + i - size = j * size + i by rw [Nat.add_mul]; omega]
    exact flat_at (fun c hc => hl c (by simp [hc])) (by simpa using hd) hu
/-- rows of one's own are rows -/
theorem own_rowc {w : World} {base n size : Nat} {e : TypeId} {v : Value} {css : List (List Value)} (h : w.ownsRow base e size v n css.flatten) (hl : ∀ c ∈ css, c.length = size) (hn : css.length = n) (hm : n ≤ maxLen) : RowC w size v css := by
  subst hn
  rcases h.2 with ⟨rfl, h0⟩ | ⟨g, cap, cur, rfl, _, hh, hc, _, _, ht⟩
  · obtain rfl : css = [] := List.eq_nil_of_length_eq_zero h0
    exact RowC.nil _ _
  · refine ⟨hm, hl, _, _, rfl, hc, fun j d hd => ⟨g, 0, rfl, heap_lt hh, fun i u hu => ?_⟩, unf_new hh⟩
    have h1 := flat_at hl hd hu
    rw [← ht, List.getElem?_take] at h1
    split at h1
    · rw [cell_at hh, Nat.zero_add]
      simpa using h1
    · cases h1
theorem add_zero' (g j : Nat) : (⟨g, 0, none⟩ : Addr).add j = ⟨g, j, none⟩ := by
  by_cases hq : j = 0
  · subst hq; rfl
  · simp [Addr.add, hq]
/-- so far: a row of one's own -/
def ExLoop (W : World) (bs : List (ByteArray × Ex)) (k : Nat) (v : Value) (wr : World) : Prop := Gr W wr ∧ ∃ css : List (List Value), wr.ownsRow W.heap.size 47 11 v k css.flatten ∧ css.length = k ∧ (∀ c ∈ css, c.length = 11) ∧ ∀ (j : Nat) (b : ByteArray × Ex), (bs.take k)[j]? = some b → ∃ c, css[j]? = some c ∧ ExAt W b.2 c

set_option maxRecDepth 100000 in
set_option maxHeartbeats 4000000 in
theorem exprsOf_inst (x : It) (cs : List Value) (w : World) (hx : Hid (ItAt w x cs)) (h7 : x.kind = 7) (hbn : x.binds.length ≤ 1000) : Calls Try.prog 44 #[.agg cs.toArray] w (ExsRet w (exprsOf x)) := by
  obtain ⟨av, bv, ce, ca, ci, hcs, _, hb, _⟩ := hx.out
  obtain ⟨bss, b1, b2, b3⟩ := hb
  obtain ⟨bA, bC, rfl⟩ := b1.form
  rw [b2] at hcs b1
  have HB := Lib.hid (show BindsAt w x.binds (.slice bA x.binds.length bC) from ⟨bss, b1, b2, b3⟩)
  have HCS := Lib.hid hcs
  have HD := Lib.hid (show exprsOf x = x.binds.map (·.2) by simp [exprsOf, h7])
  obtain ⟨i0, hi0, hz0, hz1, hz2⟩ := info_parts info47
  have HI0 := Lib.hid (And.intro hi0 (And.intro hz0 (And.intro hz1 hz2)))
  clear hcs b1 b2 b3 hx hi0 hz0 hz1 hz2
  go_enter Try.func44, Try.ntmps44
  go_upto_region 1 with fail
  obtain ⟨W, eW, GW, B0⟩ : ∃ W, w.alloc (.cells cs.toArray 49) = W ∧ Hid (Gr w W) ∧ Hid (W.heap[w.heap.size]? = some (.cells cs.toArray 49 (0, 0))) := ⟨_, rfl, Lib.hid (Gr.alloc _ _), Lib.hid (new_at _ _)⟩
  rw [eW]
  clear eW
  obtain ⟨k0, k1, k2, k3, k4, k5, k6, k7, k8⟩ := it9 HCS.out B0.out
  rw [h7] at k0
  clear k1 k2 k3 k4 k5 k6 k7 h7
  go_wp2_with fail
  clear k0 k8
  go_loopg [22, 3] x.binds.length (fun g y z wr => ∃ (k : Nat) (v : Value), k + g = x.binds.length ∧ y = .int .i64 (k : Nat) ∧ v = z ∧ Hid (ExLoop W x.binds k v wr))
  case atStart => exact ⟨0, .slice none 0 0, by omega, rfl, rfl, Lib.hid ⟨Gr.refl _, [], World.ownsRow_nil _ _ _ _, rfl, by simp, by simp⟩⟩
  case round =>
    obtain ⟨k, v, hkg, rfl, rfl, HL⟩ := hrel
    have HK := Lib.hid hkg
    have hkl : k ≤ x.binds.length := by omega
    clear hkg
    by_cases hlt : k < x.binds.length
    · obtain ⟨b, hbk⟩ : ∃ b, x.binds[k]? = some b := ⟨_, List.getElem?_eq_getElem hlt⟩
      obtain ⟨g, o, hd, kA, kn, kC, rfl, hg, hr, hex⟩ := bind_cells (HB.out.gr GW.out) hbk
      have hr' := range_gr hr hg HL.out.1
      have c0 := hr' 0 _ rfl
      have c1 := hr' 1 _ rfl
      have c2 := hr' 2 _ rfl
      have c3 := hr' 3 _ rfl
      have c4 := hr' 4 _ rfl
      have c5 := hr' 5 _ rfl
      have c6 := hr' 6 _ rfl
      have c7 := hr' 7 _ rfl
      have c8 := hr' 8 _ rfl
      have c9 := hr' 9 _ rfl
      have c10 := hr' 10 _ rfl
      have c11 := hr' 11 _ rfl
      rw [Nat.add_zero] at c0
      have HEX := Lib.hid (And.intro hex hbk)
      have hd1 : (k : Int) < (x.binds.length : Int) := by omega
      have hd0 : (0 : Int) ≤ (k : Int) := by omega
      clear hr hr' hex hbk hg
      obtain ⟨hgr, css, ho, hcl, h11, hexs⟩ := HL.out
      have HX := Lib.hid (And.intro hgr (And.intro ho (And.intro hcl (And.intro h11 hexs))))
      clear hgr ho hcl h11 hexs HL
      have HNB := Lib.hid (show ((wr.alloc (.cells #[.string b.1, .int .i64 hd.op, .string hd.val.1, .int .i64 hd.val.2, .string hd.wid.1, .int .i64 hd.wid.2, .string hd.hi.1, .int .i64 hd.hi.2, .string hd.lo.1, .int .i64 hd.lo.2, .string hd.name, .slice kA kn kC] 64)).alloc (.cells #[.int .i64 hd.op, .string hd.val.1, .int .i64 hd.val.2, .string hd.wid.1, .int .i64 hd.wid.2, .string hd.hi.1, .int .i64 hd.hi.2, .string hd.lo.1, .int .i64 hd.lo.2, .string hd.name, .slice kA kn kC] 47)).heap[wr.heap.size + 1]? = some (.cells #[.int .i64 hd.op, .string hd.val.1, .int .i64 hd.val.2, .string hd.wid.1, .int .i64 hd.wid.2, .string hd.hi.1, .int .i64 hd.hi.2, .string hd.lo.1, .int .i64 hd.lo.2, .string hd.name, .slice kA kn kC] 47 (0, 0)) from by
        have h := new_at (wr.alloc (.cells #[.string b.1, .int .i64 hd.op, .string hd.val.1, .int .i64 hd.val.2, .string hd.wid.1, .int .i64 hd.wid.2, .string hd.hi.1, .int .i64 hd.hi.2, .string hd.lo.1, .int .i64 hd.lo.2, .string hd.name, .slice kA kn kC] 64)) (.cells #[.int .i64 hd.op, .string hd.val.1, .int .i64 hd.val.2, .string hd.wid.1, .int .i64 hd.wid.2, .string hd.hi.1, .int .i64 hd.hi.2, .string hd.lo.1, .int .i64 hd.lo.2, .string hd.name, .slice kA kn kC] 47)
        rw [World.size_alloc] at h
        exact h)
      go_upto_region 10 with (at_builtin; refine wpList_append_own _ rfl _ _ 45 rfl W.heap.size 47 i0 _ 11 144 Try.underlying45 HI0.out.1 HI0.out.2.1 HI0.out.2.2.1 HI0.out.2.2.2 rfl (by decide) v k css.flatten rfl ((HX.out.2.1.alloc _).alloc _) ⟨wr.heap.size + 1, 0, none⟩ 1 1 (hdCells hd (.slice kA kn kC)) rfl rfl (fun j u hu => by rw [add_zero', cell_at HNB.out]; simpa [hdCells] using hu) (by simp [hdCells, Value.oneCell']) (by unfold maxLen; omega) (by omega) (by have := HX.out.1.size; simp; omega) ?_; intro v' w' hown hgrow _; have HN := Lib.hid (And.intro hown hgrow); clear hown hgrow)
      go_wp2_with fail
      go_roundg (gk - 1)
      case measure => have := HK.out; omega
      case rel =>
        refine ⟨k + 1, v', by have := HK.out; omega, by go_num, rfl, Lib.hid ⟨?_, css ++ [hdCells hd (.slice kA kn kC)], by simpa using HN.out.1, by simp [HX.out.2.2.1], ?_, fun j b' hb' => ?_⟩⟩
        · exact gr_of (((bel_of HX.out.1).trans ((bel_of ((Gr.alloc _ _).trans (Gr.alloc _ _))).mono HX.out.1.size)).grown HN.out.2 (by have := HX.out.1.size; simp; omega) (fun k hk => (HX.out.2.1.lt k hk).1))
        · intro c hc
          rcases List.mem_append.1 hc with hc | hc
          · exact HX.out.2.2.2.1 c hc
          · simp at hc
            subst hc
            rfl
        · rw [List.take_add_one, HEX.out.2] at hb'
          simp only [Option.toList_some] at hb'
          rw [List.getElem?_append] at hb' ⊢
          have hl : (x.binds.take k).length = css.length := by rw [List.length_take, HX.out.2.2.1]; omega
          rw [hl] at hb'
          split at hb'
          · rename_i hj
            rw [if_pos hj]
            exact HX.out.2.2.2.2 j b' hb'
          · rename_i hj
            rw [if_neg hj]
            have : j - css.length = 0 := by
              rcases Nat.eq_zero_or_pos (j - css.length) with h | h
              · exact h
              · rw [List.getElem?_eq_none (by simp; omega)] at hb'; cases hb'
            rw [this] at hb' ⊢
            simp at hb'
            subst hb'
            exact ⟨_, rfl, HEX.out.1⟩
    · obtain rfl : k = x.binds.length := by omega
      have hd1 : ¬ ((x.binds.length : Int) < (x.binds.length : Int)) := by omega
      obtain ⟨hgr, css, ho, hcl, h11, hex⟩ := HL.out
      obtain ⟨A, c, rfl⟩ : ∃ A c, v = .slice A x.binds.length c := by
        rcases ho.2 with ⟨rfl, h0⟩ | ⟨g, cap, cur, rfl, _⟩
        · exact ⟨none, 0, by rw [h0]⟩
        · exact ⟨_, _, rfl⟩
      have HX := Lib.hid (And.intro hgr (And.intro ho (And.intro hcl (And.intro h11 hex))))
      clear hgr ho hcl h11 hex HL
      go_wp2_with fail
      go_ret
      rw [HD.out]
      refine ⟨A, c, by rw [List.length_map]; rfl, ⟨css, by rw [List.length_map]; exact own_rowc HX.out.2.1 HX.out.2.2.2.1 HX.out.2.2.1 (by unfold maxLen; omega), by rw [HX.out.2.2.1, List.length_map], fun j t c' ht hc' => ?_⟩, GW.out.trans HX.out.1⟩
      obtain ⟨b, hb, rfl⟩ : ∃ b, x.binds[j]? = some b ∧ b.2 = t := by simpa using ht
      obtain ⟨c2, e1, e2⟩ := HX.out.2.2.2.2 j b (by rw [List.take_length]; exact hb)
      rw [hc'] at e1
      cases e1
      exact e2.gr HX.out.1
end Go.Proofs.Ytjkaeabnjkhllaa
