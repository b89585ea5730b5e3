/-
  proofmarklaw05.Fits, WALKED: size.
-/
import Derived.Test.YtjkaeabnjkhllaaScChe
namespace Go.Proofs.Ytjkaeabnjkhllaa
open Go.RowKit

/-- no string is longer than a string can be -/
def StrHd (h : Hd) : Prop := h.name.size ≤ reachBytes ∧ h.wid.1.size ≤ reachBytes ∧ h.val.1.size ≤ reachBytes ∧ h.hi.1.size ≤ reachBytes ∧ h.lo.1.size ≤ reachBytes
/-- names such as are gone through -/
def ShortHd (h : Hd) : Prop := h.name.size ≤ 60 ∧ h.wid.1.size + h.val.1.size + h.hi.1.size + h.lo.1.size ≤ 240
def SizeRet (w : World) (t : Ex) (left : Nat) (e : Ending) (w' : World) : Prop := ∃ n : Nat, e = .returned (.int .i64 n) ∧ n < left ∧ (0 < n → n + exSize t = left ∧ ExAll ShortHd t) ∧ Gr w w'

set_option maxRecDepth 100000 in
set_option maxHeartbeats 4000000 in
theorem size_any {w0 : World} {t : Ex} {cs : List Value} (hx : ExAt w0 t cs) (hs : ExAll StrHd t) : ∀ (left : Nat) (w : World), 0 < left → left ≤ 3000 → Gr w0 w → Calls Try.prog 35 #[.agg cs.toArray, .int .i64 (left : Nat)] w (SizeRet w t left) := by
  induction hx with
  | mk hd ks kv css hr hl hk hc ih =>
    intro left w h1 h2 hg
    obtain ⟨kA, kC, rfl⟩ := hr.form
    have H := Lib.hid (And.intro hr (And.intro hl (And.intro ih (And.intro hs hg))))
    have hlen : css.length ≤ maxLen := hr.1
    have hS := Lib.hid hs.hd
    clear hr hl hk hc ih hs hg
    rw [H.out.2.1] at hlen ⊢
    have hlb : ks.length ≤ 9223372036854775807 := hlen
    change Calls Try.prog 35 #[.agg #[.int .i64 hd.op, .string hd.val.1, .int .i64 hd.val.2, .string hd.wid.1, .int .i64 hd.wid.2, .string hd.hi.1, .int .i64 hd.hi.2, .string hd.lo.1, .int .i64 hd.lo.2, .string hd.name, .slice kA ks.length kC], .int .i64 (left : Nat)] w _
    go_enter Try.func35, Try.ntmps35
    go_wp2_with fail
    obtain ⟨W, eW, GW, B⟩ : ∃ W, w.alloc (.cells #[.int .i64 hd.op, .string hd.val.1, .int .i64 hd.val.2, .string hd.wid.1, .int .i64 hd.wid.2, .string hd.hi.1, .int .i64 hd.hi.2, .string hd.lo.1, .int .i64 hd.lo.2, .string hd.name, .slice kA ks.length kC] 47) = W ∧ Hid (Gr w W) ∧ Hid (W.heap[w.heap.size]? = some (.cells #[.int .i64 hd.op, .string hd.val.1, .int .i64 hd.val.2, .string hd.wid.1, .int .i64 hd.wid.2, .string hd.hi.1, .int .i64 hd.hi.2, .string hd.lo.1, .int .i64 hd.lo.2, .string hd.name, .slice kA ks.length kC] 47 (0, 0))) := ⟨_, rfl, Lib.hid (Gr.alloc _ _), Lib.hid (new_at _ _)⟩
    rw [eW]
    clear eW
    have HAT := Lib.hid (show ∀ u, Gr W u → ∀ (j : Nat) (v : Value), (#[Value.int .i64 hd.op, .string hd.val.1, .int .i64 hd.val.2, .string hd.wid.1, .int .i64 hd.wid.2, .string hd.hi.1, .int .i64 hd.hi.2, .string hd.lo.1, .int .i64 hd.lo.2, .string hd.name, .slice kA ks.length kC])[j]? = some v → u.cell? ⟨w.heap.size, j, none⟩ = some v from fun u hu j v hv => by rw [cell_at (hu.keep B.out)]; exact hv)
    go_loopg [6, 5] (ks.length + 1) (fun g y z wr => ∃ (k n : Nat), k + g = ks.length + 1 ∧ 0 < g ∧ y = .int .i64 (k : Nat) ∧ z = .int .i64 (n : Nat) ∧ n < left ∧ Hid (0 < n → n + exsSize (ks.take k) + 1 = left ∧ ∀ x ∈ ks.take k, ExAll ShortHd x) ∧ Hid (Gr W wr))
    case atStart => exact ⟨0, left - 1, by omega, by omega, rfl, by go_num, by omega, Lib.hid (fun _ => ⟨by simp [exsSize]; omega, by simp⟩), Lib.hid (Gr.refl _)⟩
    case round =>
      obtain ⟨k, n, hkg, hg0, rfl, rfl, hn, HN, HG⟩ := hrel
      obtain ⟨wo, rfl⟩ : ∃ x, x = wr := ⟨_, rfl⟩
      have HK := Lib.hid hkg
      have hkl : k ≤ ks.length := by omega
      clear hkg hg0
      have a10 := HAT.out wo HG.out 10 _ rfl
      have a9 := HAT.out wo HG.out 9 _ rfl
      have a1 := HAT.out wo HG.out 1 _ rfl
      have a3 := HAT.out wo HG.out 3 _ rfl
      have a5 := HAT.out wo HG.out 5 _ rfl
      have a7 := HAT.out wo HG.out 7 _ rfl
      by_cases hlt : k < ks.length
      · have hd1 : (k : Int) < (ks.length : Int) := by omega
        have hd0 : (0 : Int) ≤ (k : Int) := by omega
        by_cases hz : 0 < n
        · have hz1 : (0 : Int) < (n : Int) := by omega
          obtain ⟨x, hx⟩ : ∃ x, ks[k]? = some x := ⟨_, List.getElem?_eq_getElem hlt⟩
          obtain ⟨c, hc⟩ : ∃ c, css[k]? = some c := ⟨_, List.getElem?_eq_getElem (by rw [H.out.2.1]; exact hlt)⟩
          obtain ⟨g, o, eA, hg', hr'⟩ := (show RowC w0 11 (.slice kA css.length kC) css from H.out.1).at hc
          subst eA
          have hcl := H.out.1.2.1 c (List.mem_of_getElem? hc)
          have HR := Lib.hid (range_gr hr' hg' (H.out.2.2.2.2.trans (GW.out.trans HG.out)))
          have HS' := Lib.hid (show (Try.prog.info? 47).map (·.size) = some c.length by rw [size47, hcl])
          have IH := Lib.hid (H.out.2.2.1 k x c hx hc (H.out.2.2.2.1.kids x (List.mem_of_getElem? hx)) n wo hz (by omega) (H.out.2.2.2.2.trans (GW.out.trans HG.out)))
          have HXX := Lib.hid hx
          clear hx hc hr' hg' hcl
          go_upto_region 4 with (first
            | (refine wpList_load_mid (by rfl) 47 _ rfl g (o + k * 11) rfl c _ HR.out Try.underlying47 rfl HS'.out ?_)
            | (go_at_call 35; refine IH.out.mono ?_; rintro e w5 ⟨n2, rfl, hn2, hn3, hg5⟩; have G5 := Lib.hid hg5; have H3 := Lib.hid hn3; clear hg5 hn3))
          go_wp2_with fail
          go_roundg (ks.length - k)
          case measure => have := HK.out; omega
          case rel => exact ⟨k + 1, n2, by omega, by omega, by go_num, rfl, by omega, Lib.hid (fun hp => by
            obtain ⟨e1, e2⟩ := H3.out hp
            obtain ⟨e3, e4⟩ := HN.out (by omega)
            refine ⟨?_, ?_⟩
            · rw [List.take_add_one, HXX.out]
              simp only [Option.toList_some]
              rw [exsSize_app]
              simp only [exsSize]
              omega
            · intro y hy
              rw [List.take_add_one, HXX.out] at hy
              simp only [Option.toList_some, List.mem_append, List.mem_singleton] at hy
              rcases hy with hy | rfl
              · exact e4 y hy
              · exact e2), Lib.hid (HG.out.trans G5.out)⟩
        · obtain rfl : n = 0 := by omega
          have hs := hS.out
          have b1 : hd.name.size ≤ reachBytes := hs.1
          have b2 : hd.wid.1.size ≤ reachBytes := hs.2.1
          have b3 : hd.val.1.size ≤ reachBytes := hs.2.2.1
          have b4 : hd.hi.1.size ≤ reachBytes := hs.2.2.2.1
          have b5 : hd.lo.1.size ≤ reachBytes := hs.2.2.2.2
          clear hs
          unfold reachBytes at b1 b2 b3 b4 b5
          by_cases c0 : hd.name.size ≤ 60
          · have c1 : ¬ ((60 : Int) < (hd.name.size : Int)) := by omega
            by_cases c2 : hd.wid.1.size + hd.val.1.size + hd.hi.1.size + hd.lo.1.size ≤ 240
            · have c3 : ¬ ((240 : Int) < (hd.wid.1.size : Int) + hd.val.1.size + hd.hi.1.size + hd.lo.1.size) := by omega
              go_wp2_with fail
              go_ret
              exact ⟨0, rfl, h1, fun h => absurd h (by omega), GW.out.trans HG.out⟩
            · have c3 : (240 : Int) < (hd.wid.1.size : Int) + hd.val.1.size + hd.hi.1.size + hd.lo.1.size := by omega
              go_wp2_with fail
              go_ret
              exact ⟨0, rfl, h1, fun h => absurd h (by omega), GW.out.trans HG.out⟩
          · have c1 : (60 : Int) < (hd.name.size : Int) := by omega
            go_wp2_with fail
            go_ret
            exact ⟨0, rfl, h1, fun h => absurd h (by omega), GW.out.trans HG.out⟩
      · obtain rfl : k = ks.length := by omega
        have hd1 : ¬ ((ks.length : Int) < (ks.length : Int)) := by omega
        have hs := hS.out
        have b1 : hd.name.size ≤ reachBytes := hs.1
        have b2 : hd.wid.1.size ≤ reachBytes := hs.2.1
        have b3 : hd.val.1.size ≤ reachBytes := hs.2.2.1
        have b4 : hd.hi.1.size ≤ reachBytes := hs.2.2.2.1
        have b5 : hd.lo.1.size ≤ reachBytes := hs.2.2.2.2
        clear hs
        unfold reachBytes at b1 b2 b3 b4 b5
        by_cases c0 : hd.name.size ≤ 60
        · have c1 : ¬ ((60 : Int) < (hd.name.size : Int)) := by omega
          by_cases c2 : hd.wid.1.size + hd.val.1.size + hd.hi.1.size + hd.lo.1.size ≤ 240
          · have c3 : ¬ ((240 : Int) < (hd.wid.1.size : Int) + hd.val.1.size + hd.hi.1.size + hd.lo.1.size) := by omega
            go_wp2_with fail
            go_ret
            exact ⟨n, rfl, hn, fun h => by
            obtain ⟨e3, e4⟩ := HN.out h
            rw [List.take_length] at e3 e4
            exact ⟨by rw [exSize]; omega, .mk hd ks ⟨c0, c2⟩ e4⟩, GW.out.trans HG.out⟩
          · have c3 : (240 : Int) < (hd.wid.1.size : Int) + hd.val.1.size + hd.hi.1.size + hd.lo.1.size := by omega
            go_wp2_with fail
            go_ret
            exact ⟨0, rfl, h1, fun h => absurd h (by omega), GW.out.trans HG.out⟩
        · have c1 : (60 : Int) < (hd.name.size : Int) := by omega
          go_wp2_with fail
          go_ret
          exact ⟨0, rfl, h1, fun h => absurd h (by omega), GW.out.trans HG.out⟩
end Go.Proofs.Ytjkaeabnjkhllaa
