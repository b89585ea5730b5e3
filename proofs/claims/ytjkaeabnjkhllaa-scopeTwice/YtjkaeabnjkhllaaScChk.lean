/-
  The checker in memory; lacksParam, WALKED.
-/
import Derived.Test.YtjkaeabnjkhllaaScFnd
namespace Go.Proofs.Ytjkaeabnjkhllaa
open Go.RowKit

def intV (i : Nat) : Value := .int .i64 (i : Nat)
/-- how many kids an op takes, in a map -/
def TakesAt (w : World) (b : Nat) : Prop := ∀ (op : Int) (u : World), Gr w u → (Instr.lookup 68 (.map (some b)) (.int .i64 op) true).run Try.prog u = .ok (.tuple #[.int .i64 (((takes op).getD 0 : Nat) : Int), .bool (takes op).isSome]) u
/-- a checker's four cells -/
structure CkAt (w : World) (ms : List Mo) (mv : Value) (fb : Nat) (fv : Value) (tb : Nat) : Prop where
  mods : ModsAt w ms mv
  first : ∃ l, MpAt w fb l ∧ ∀ k, getS l k = (modAt ms k).map intV
  finds : ∃ fs : List Value, RowC w 1 fv (fs.map fun v => [v]) ∧ fs.length = ms.length ∧ ∀ (i : Nat) (m : Mo), ms[i]? = some m → ∃ v, fs[i]? = some v ∧ FindAt w m v
  takes : TakesAt w tb
theorem CkAt.gr {w w' : World} {ms : List Mo} {mv fv : Value} {fb tb : Nat} (h : CkAt w ms mv fb fv tb) (hg : Gr w w') : CkAt w' ms mv fb fv tb where
  mods := h.mods.gr hg
  first := by obtain ⟨l, h1, h2⟩ := h.first; exact ⟨l, h1.gr hg, h2⟩
  finds := by
    obtain ⟨fs, h1, h2, h3⟩ := h.finds
    exact ⟨fs, h1.gr hg, h2, fun i m hm => by obtain ⟨v, e1, e2⟩ := h3 i m hm; exact ⟨v, e1, e2.gr hg⟩⟩
  takes := fun op u hu => h.takes op u (hg.trans hu)
/-- the finder of a module -/
theorem CkAt.find {w : World} {ms : List Mo} {mv fv : Value} {fb tb : Nat} (h : CkAt w ms mv fb fv tb) {i : Nat} {m : Mo} (hm : ms[i]? = some m) :
    ∃ A n c g o fg, fv = .slice A n c ∧ A = some ⟨g, o, none⟩ ∧ i < n ∧ n = ms.length ∧ g < w.heap.size ∧ w.cell? ⟨g, o + i, none⟩ = some (.func (.func 54) #[] #[.pointer (some ⟨fg, 0, none⟩)]) ∧ ∀ u s, Gr w u → Calls Try.prog 54 #[.string s, .pointer (some ⟨fg, 0, none⟩)] u fun e w' => e = .returned (.agg #[.int .i64 ((kindOf m s).1 : Nat), .int .i64 ((kindOf m s).2 : Nat)]) ∧ Gr u w' := by
  obtain ⟨fs, h1, h2, h3⟩ := h.finds
  obtain ⟨v, e1, fg, b, rfl, e2, e3⟩ := h3 i m hm
  obtain ⟨A, cap, rfl⟩ := h1.form
  obtain ⟨g, o, eA, hg, hr⟩ := h1.at (j := i) (c := [.func (.func 54) #[] #[.pointer (some ⟨fg, 0, none⟩)]]) (by simp [e1])
  refine ⟨A, _, cap, g, o, fg, rfl, eA, ?_, ?_, hg, ?_, fun u s hu => ?_⟩
  · simp only [List.length_map]
    exact (List.getElem?_eq_some_iff.1 e1).1
  · simpa using h2
  · have := hr 0 _ rfl
    simpa using this
  · exact find_any m fg b s u (Lib.hid (gr_cell hu (World.block_lt_of_cell? _ _ e2) e2)) (Lib.hid (e3.keep (fun _ ho => hu.keep ho)))

theorem ba_len (s : ByteArray) : s.size = s.data.toList.length := by
  show s.data.size = _
  simp only [Array.length_toList]
theorem str_size_ne {s : ByteArray} (h : s.size ≠ 0) : (s.toList == []) = false := by
  rcases hc : (s.toList == []) with _ | _
  · rfl
  · have h1 := eq_of_beq hc
    rw [ByteArray.toList_eq] at h1
    exact absurd (by rw [ba_len, h1]; rfl) h

theorem Gr.drewN (w : World) (n : Nat) : Gr w (w.drewN n) := ⟨rfl, rfl, rfl, Nat.le_refl _, fun _ _ _ => rfl⟩
/-- a place's kind -/
theorem fld82 (a b : Int) (u : World) : (Instr.field 82 (.agg #[.int .i64 a, .int .i64 b]) 0).run Try.prog u = .ok (.int .i64 a) u := by kernel_rfl

set_option maxRecDepth 100000 in
set_option maxHeartbeats 2000000 in
theorem lacks1_any (ms : List Mo) (i : Nat) (m : Mo) (d : Dm) (cb mb : Nat) (mv fv : Value) (fb tb : Nat) (w : World) (hm : Hid (ms[i]? = some m)) (hck : Hid (CkAt w ms mv fb fv tb)) (hcb : Hid (w.cell? ⟨cb, 2, none⟩ = some fv)) (hmb : Hid (w.cell? ⟨mb, 0, none⟩ = some (.int .i64 (i : Nat)))) :
    Calls Try.prog 56 #[.agg #[.string d.1, .int .i64 d.2], .pointer (some ⟨cb, 0, none⟩), .pointer (some ⟨mb, 0, none⟩)] w fun e w' => e = .returned (.bool (lacks m d)) ∧ Gr w w' := by
  obtain ⟨A, n, c, g, o, fg, rfl, rfl, hin, hnn, hg, cf, hcall⟩ := hck.out.find hm.out
  have HC := Lib.hid hcall
  have KEEP := Lib.hid (show ∀ u, Gr w u → (u.cell? ⟨cb, 2, none⟩ = some (.slice (some ⟨g, o, none⟩) n c) ∧ u.cell? ⟨mb, 0, none⟩ = some (.int .i64 (i : Nat)) ∧ u.cell? ⟨g, o + i, none⟩ = some (.func (.func 54) #[] #[.pointer (some ⟨fg, 0, none⟩)])) from fun u hu => ⟨gr_cell hu (World.block_lt_of_cell? _ _ hcb.out) hcb.out, gr_cell hu (World.block_lt_of_cell? _ _ hmb.out) hmb.out, gr_cell hu hg cf⟩)
  have hi1 : (i : Int) < (n : Int) := by omega
  have hi0 : (0 : Int) ≤ (i : Int) := by omega
  clear hcall cf hck hcb hmb hm hnn hg
  go_enter Try.func56, Try.ntmps56
  go_upto_region 1 with fail
  obtain ⟨W, eW, GW, CB⟩ : ∃ W, w.alloc (.cells #[.string d.1, .int .i64 d.2] 42) = W ∧ Hid (Gr w W) ∧ Hid (W.heap[w.heap.size]? = some (.cells #[.string d.1, .int .i64 d.2] 42 (0, 0))) := ⟨_, rfl, Lib.hid (Gr.alloc _ _), Lib.hid (new_at _ _)⟩
  rw [eW]
  clear eW
  have BX := Lib.hid (show ∀ u, Gr W u → u.cell? ⟨w.heap.size, 0, none⟩ = some (.string d.1) from fun u hu => by rw [cell_at (hu.keep CB.out)]; rfl)
  by_cases hz : d.1.size = 0
  · obtain ⟨nm, nn⟩ := d
    simp only at hz BX
    obtain rfl : nm = ⟨#[]⟩ := ByteArray.ext (Array.toList_inj.1 (List.eq_nil_of_length_eq_zero (by rw [← ba_len]; exact hz)))
    have HQ := Lib.hid (show lacks m (⟨#[]⟩, nn) = false from by simp [lacks, hz])
    clear hz
    have x0 := BX.out _ (Gr.refl W)
    go_quiet (fail)
    go_wp2
    go_ret
    exact ⟨by rw [HQ.out]; rfl, GW.out.trans (Gr.drewN W nq)⟩
  · have q := str_size_ne hz
    have hfl := fld82
    go_region_held3 (fun v => v.cell? ⟨w.heap.size, 0, none⟩ = some (.string d.1) ∧ v.cell? ⟨cb, 2, none⟩ = some (.slice (some ⟨g, o, none⟩) n c) ∧ v.cell? ⟨mb, 0, none⟩ = some (.int .i64 (i : Nat)) ∧ v.cell? ⟨g, o + i, none⟩ = some (.func (.func 54) #[] #[.pointer (some ⟨fg, 0, none⟩)]))
      (first | exact ⟨BX.out _ (Gr.drew W), KEEP.out _ (GW.out.trans (Gr.drew W))⟩ | exact ⟨BX.out _ hu1, KEEP.out _ (GW.out.trans hu1)⟩)
      (first | (go_at_call 54; (with_reducible refine (HC.out _ d.1 (GW.out.trans (Gr.drew W))).mono ?_); rintro e w5 ⟨rfl, hg5⟩; have hu1 : Gr W w5 := (Gr.drew W).trans hg5; clear hg5))
    all_goals go_wp2
    all_goals go_ret
    have hq : lacks m d = ((((kindOf m d.1).1 : Nat) : Int) != 1) := by
      simp only [lacks, decide_eq_true hz, Bool.true_and]
      by_cases hk : (kindOf m d.1).1 = 1
      · simp [hk]
      · have : ¬ (((kindOf m d.1).1 : Nat) : Int) = 1 := by omega
        simp [hk, this]
    all_goals exact ⟨by rw [hq]; rfl, GW.out.trans hu1⟩

/-- some, or none at all -/
def AnyRet (b : Bool) (e : Ending) : Prop := ∃ i : Int, e = .returned (.int .i64 i) ∧ (b = true → 0 ≤ i) ∧ (b = false → i = -1)
set_option maxRecDepth 100000 in
set_option maxHeartbeats 2000000 in
theorem IndexFunc_any (p : Dm → Bool) (ds : List Dm) (A : Option Addr) (c cb mb : Nat) (w : World) (hr : Hid (RowC w 2 (.slice A ds.length c) (ds.map dmCells)))
    (hcall : Hid (∀ u d, Gr w u → Calls Try.prog 56 #[.agg #[.string d.1, .int .i64 d.2], .pointer (some ⟨cb, 0, none⟩), .pointer (some ⟨mb, 0, none⟩)] u fun e w' => e = .returned (.bool (p d)) ∧ Gr u w')) :
    Calls Try.prog 65 #[.slice A ds.length c, .func (.func 56) #[] #[.pointer (some ⟨cb, 0, none⟩), .pointer (some ⟨mb, 0, none⟩)]] w fun e w' => AnyRet (ds.any p) e ∧ Gr w w' := by
  have hn : ds.length ≤ maxLen := by have := hr.out.1; simpa using this
  unfold maxLen at hn
  go_enter Try.func65, Try.ntmps65
  go_wp2
  go_loopg [8] ds.length (fun g i wr => ∃ k : Nat, k + g = ds.length ∧ i = .int .i64 (k : Nat) ∧ Hid (∀ (j : Nat) (d : Dm), j < k → ds[j]? = some d → p d = false) ∧ Hid (Gr w wr))
  case atStart => exact ⟨0, by omega, rfl, Lib.hid (by omega), Lib.hid (Gr.refl _)⟩
  case round =>
    obtain ⟨k, hkg, rfl, HN, GR⟩ := hrel
    have HK := Lib.hid hkg
    have hkl : k ≤ ds.length := by omega
    clear hkg
    by_cases hlt : k < ds.length
    · obtain ⟨d, hd⟩ : ∃ d, ds[k]? = some d := ⟨_, List.getElem?_eq_getElem hlt⟩
      obtain ⟨g, o, rfl, _, hrg⟩ := (hr.out.gr GR.out).at (j := k) (c := dmCells d) (by simp [hd])
      have c0 := hrg 0 _ rfl
      have c1 := hrg 1 _ rfl
      rw [Nat.add_zero] at c0
      have HD := Lib.hid hd
      clear hd hrg
      have hi1 : (k : Int) < (ds.length : Int) := by omega
      have hi0 : (0 : Int) ≤ (k : Int) := by omega
      have CL := Lib.hid (hcall.out wr d GR.out)
      rcases hp : p d with _ | _
      · rw [hp] at CL
        have HP := Lib.hid hp
        clear hp
        go_wp2_with (go_at_call 56; refine CL.out.mono ?_; rintro e w5 ⟨rfl, hg5⟩; have G5 := Lib.hid hg5; clear hg5)
        go_roundg (gk - 1)
        case measure => have := HK.out; omega
        case rel => exact ⟨k + 1, by have := HK.out; omega, by go_num, Lib.hid (fun j d' hj hd' => by
          rcases Nat.lt_or_ge j k with h | h
          · exact HN.out j d' h hd'
          · obtain rfl : j = k := by omega
            rw [HD.out] at hd'
            obtain rfl := Option.some.inj hd'
            exact HP.out), Lib.hid (GR.out.trans G5.out)⟩
      · rw [hp] at CL
        have HP := Lib.hid hp
        clear hp
        go_wp2_with (go_at_call 56; refine CL.out.mono ?_; rintro e w5 ⟨rfl, hg5⟩; have G5 := Lib.hid hg5; clear hg5)
        go_ret
        refine ⟨⟨_, rfl, fun _ => by omega, fun h => ?_⟩, GR.out.trans G5.out⟩
        have : ds.any p = true := List.any_eq_true.2 ⟨d, List.mem_of_getElem? HD.out, HP.out⟩
        rw [this] at h
        cases h
    · have hi1 : ¬ ((k : Int) < (ds.length : Int)) := by omega
      go_wp2
      go_ret
      refine ⟨⟨_, rfl, fun h => ?_, fun _ => rfl⟩, GR.out⟩
      obtain ⟨d, hd, hp⟩ := List.any_eq_true.1 h
      obtain ⟨j, hj⟩ := List.getElem?_of_mem hd
      have hjl := (List.getElem?_eq_some_iff.1 hj).1
      rw [HN.out j d (by omega) hj] at hp
      cases hp
theorem ContainsFunc_any (p : Dm → Bool) (ds : List Dm) (A : Option Addr) (c cb mb : Nat) (w : World) (hr : Hid (RowC w 2 (.slice A ds.length c) (ds.map dmCells)))
    (hcall : Hid (∀ u d, Gr w u → Calls Try.prog 56 #[.agg #[.string d.1, .int .i64 d.2], .pointer (some ⟨cb, 0, none⟩), .pointer (some ⟨mb, 0, none⟩)] u fun e w' => e = .returned (.bool (p d)) ∧ Gr u w')) :
    Calls Try.prog 55 #[.slice A ds.length c, .func (.func 56) #[] #[.pointer (some ⟨cb, 0, none⟩), .pointer (some ⟨mb, 0, none⟩)]] w fun e w' => e = .returned (.bool (ds.any p)) ∧ Gr w w' := by
  have IX := Lib.hid (IndexFunc_any p ds A c cb mb w hr hcall)
  go_enter Try.func55, Try.ntmps55
  rcases hx : ds.any p with _ | _
  · rw [hx] at IX
    go_wp2_with (go_at_call 65; refine IX.out.mono ?_; rintro e w2 ⟨⟨i, rfl, h1, h2⟩, hg⟩; obtain rfl := h2 rfl; clear h1 h2)
    go_ret
    exact ⟨rfl, hg⟩
  · rw [hx] at IX
    go_wp2_with (go_at_call 65; refine IX.out.mono ?_; rintro e w2 ⟨⟨i, rfl, h1, h2⟩, hg⟩; have hi := h1 rfl; clear h1 h2)
    go_ret
    exact ⟨rfl, hg⟩
end Go.Proofs.Ytjkaeabnjkhllaa
