/-
  Small functions of scope, WALKED: portKind, itemKind, hasName, slices.Index and Contains of numbers, wanted.
-/
import Derived.Test.YtjkaeabnjkhllaaScMem
namespace Go.Proofs.Ytjkaeabnjkhllaa
open Go.RowKit

set_option maxHeartbeats 1000000 in
theorem portKind_any (p : Bool × ByteArray × Dm) (w : World) :
    Calls Try.prog 52 #[.agg #[.bool p.1, .string p.2.1, .string p.2.2.1, .int .i64 p.2.2.2]] w fun e w' => e = .returned (.int .i64 ((if p.1 then 2 else 3 : Nat) : Nat)) ∧ Gr w w' := by
  go_enter Try.func52, Try.ntmps52
  rcases hp : p.1 with _ | _
  · go_wp2
    go_ret
    exact ⟨rfl, Gr.alloc _ _⟩
  · go_wp2
    go_ret
    exact ⟨rfl, Gr.alloc _ _⟩

/-- the kind's cell, in the box -/
theorem box_cell {w : World} {cs : List Value} {t : TypeId} {j : Nat} {v : Value} (h : cs[j]? = some v) : (w.alloc (.cells cs.toArray t)).cell? ⟨w.heap.size, j, none⟩ = some v := by
  rw [cell_at (new_at w _)]
  simpa using h

set_option maxHeartbeats 1000000 in
theorem itemKind_any (cs : List Value) (k : Int) (w : World) (h : Hid (cs[0]? = some (.int .i64 k))) :
    Calls Try.prog 53 #[.agg cs.toArray] w fun e w' => e = .returned (.int .i64 (itemKind k : Nat)) ∧ Gr w w' := by
  have c0 := box_cell (w := w) (t := 49) h.out
  clear h
  go_enter Try.func53, Try.ntmps53
  go_upto_region 1 with fail
  obtain ⟨W, eW, GW⟩ : ∃ W, w.alloc (.cells cs.toArray 49) = W ∧ Hid (Gr w W) := ⟨_, rfl, Lib.hid (Gr.alloc _ _)⟩
  rw [eW] at c0 ⊢
  clear eW
  by_cases h1 : k = 1
  · subst h1
    go_wp2
    go_ret
    exact ⟨rfl, GW.out⟩
  have q1 : (k == 1) = false := by simpa using h1
  by_cases h2 : k = 2
  · subst h2
    go_wp2
    go_ret
    exact ⟨rfl, GW.out⟩
  have q2 : (k == 2) = false := by simpa using h2
  by_cases h3 : k = 5
  · subst h3
    go_wp2
    go_ret
    exact ⟨rfl, GW.out⟩
  have q3 : (k == 5) = false := by simpa using h3
  by_cases h4 : k = 7
  · subst h4
    go_wp2
    go_ret
    exact ⟨rfl, GW.out⟩
  have q4 : (k == 7) = false := by simpa using h4
  go_wp2
  go_ret
  unfold itemKind
  rw [if_neg h1, if_neg h2, if_neg h3, if_neg h4]
  exact ⟨rfl, GW.out⟩

set_option maxRecDepth 20000 in
set_option maxHeartbeats 1000000 in
theorem hasName_any (cs : List Value) (k : Int) (w : World) (hl : Hid (cs.length = 42)) (h : Hid (cs[0]? = some (.int .i64 k))) :
    Calls Try.prog 41 #[.agg cs.toArray] w fun e w' => e = .returned (.bool (named k)) ∧ Gr w w' := by
  have c0 := box_cell (w := w) (t := 49) h.out
  have hr : Hid ((w.alloc (.cells cs.toArray 49)).rangeAt w.heap.size 0 cs) := Lib.hid fun j v hj => by rw [Nat.zero_add]; exact box_cell hj
  go_enter Try.func41, Try.ntmps41
  go_upto_region 1 with fail
  obtain ⟨W, eW, GW⟩ : ∃ W, w.alloc (.cells cs.toArray 49) = W ∧ Hid (Gr w W) := ⟨_, rfl, Lib.hid (Gr.alloc _ _)⟩
  rw [eW] at c0 hr ⊢
  clear eW
  by_cases h1 : k = 8
  · subst h1
    go_wp2
    go_ret
    exact ⟨rfl, GW.out⟩
  have q1 : (k == 8) = false := by simpa using h1
  by_cases h2 : k = 9
  · subst h2
    go_wp2
    go_ret
    exact ⟨rfl, GW.out⟩
  have q2 : (k == 9) = false := by simpa using h2
  by_cases h3 : k = 10
  · subst h3
    go_wp2
    go_ret
    exact ⟨rfl, GW.out⟩
  have q3 : (k == 10) = false := by simpa using h3
  have IK := Lib.hid (fun u => itemKind_any cs k u h)
  have HS := Lib.hid (show (Try.prog.info? 49).map (·.size) = some cs.length by rw [size49, hl.out])
  clear h hl
  go_wp2_with (first
    | (refine wpList_load_mid (by rfl) 49 _ rfl w.heap.size 0 rfl cs _ hr.out Try.underlying49 rfl HS.out ?_)
    | (go_at_call 53; refine (IK.out _).mono ?_; rintro e w2 ⟨rfl, hg⟩))
  go_ret
  refine ⟨?_, GW.out.trans hg⟩
  unfold named
  simp [h1, h2, h3]
  by_cases hz : itemKind k = 0
  · simp [hz]
  · have : ((itemKind k : Nat) : Int) ≠ 0 := by omega
    simp [hz, this]

/-- a row of small numbers -/
def Nats (w : World) (A : Option Addr) (ns : List Nat) : Prop :=
  ∀ (i n : Nat), ns[i]? = some n → ∃ b off, A = some ⟨b, off, none⟩ ∧ w.cell? ⟨b, off + i, none⟩ = some (.int .i64 (n : Nat))
/-- a place, or -1: nowhere -/
def IdxRet (x : Nat) (ns : List Nat) (e : Ending) : Prop := ∃ i : Int, e = .returned (.int .i64 i) ∧ (x ∈ ns → 0 ≤ i) ∧ (¬ x ∈ ns → i = -1)
set_option maxHeartbeats 1000000 in
theorem Index_any (A : Option Addr) (c : Nat) (ns : List Nat) (x : Nat) (w : World) (hn : ns.length ≤ maxLen) (hT : Hid (Nats w A ns)) :
    Calls Try.prog 72 #[.slice A ns.length c, .int .i64 (x : Nat)] w fun e w' => IdxRet x ns e ∧ w = w' := by
  unfold maxLen at hn
  go_enter Try.func72, Try.ntmps72
  go_wp2
  go_loopg [8] ns.length (fun g i wr => ∃ k : Nat, k + g = ns.length ∧ i = .int .i64 (k : Nat) ∧ Hid (∀ (j n : Nat), j < k → ns[j]? = some n → n ≠ x) ∧ w = wr)
  case atStart => exact ⟨0, by omega, rfl, Lib.hid (by omega), rfl⟩
  case round =>
    obtain ⟨k, hkg, rfl, HN, rfl⟩ := hrel
    have HK := Lib.hid hkg
    have hkl : k ≤ ns.length := by omega
    clear hkg
    by_cases hlt : k < ns.length
    · obtain ⟨m, hm⟩ : ∃ m, ns[k]? = some m := ⟨_, List.getElem?_eq_getElem hlt⟩
      obtain ⟨b, off, rfl, c0⟩ := hT.out k m hm
      have HM := Lib.hid hm
      clear hm
      have hi1 : (k : Int) < (ns.length : Int) := by omega
      have hi0 : (0 : Int) ≤ (k : Int) := by omega
      by_cases hmx : m = x
      · have q : ((x : Int) == (m : Int)) = true := by simp; omega
        have HMX := Lib.hid hmx
        clear hmx
        go_wp2
        go_ret
        exact ⟨⟨_, rfl, fun _ => by omega, fun h => absurd (List.mem_of_getElem? (HMX.out ▸ HM.out)) h⟩, rfl⟩
      · have q : ((x : Int) == (m : Int)) = false := by simp; omega
        have HMX := Lib.hid hmx
        clear hmx
        go_wp2
        go_roundg (gk - 1)
        case measure => have := HK.out; omega
        case rel => exact ⟨k + 1, by have := HK.out; omega, by go_num, Lib.hid (fun j n hj hn => by
          rcases Nat.lt_or_ge j k with h | h
          · exact HN.out j n h hn
          · obtain rfl : j = k := by omega
            rw [HM.out] at hn
            obtain rfl := Option.some.inj hn
            exact HMX.out), rfl⟩
    · have hi1 : ¬ ((k : Int) < (ns.length : Int)) := by omega
      go_wp2
      go_ret
      refine ⟨⟨_, rfl, fun h => ?_, fun _ => rfl⟩, rfl⟩
      obtain ⟨j, hj⟩ := List.getElem?_of_mem h
      have hjl := (List.getElem?_eq_some_iff.1 hj).1
      exact absurd rfl (HN.out j x (by omega) hj)
theorem Contains_any (A : Option Addr) (c : Nat) (ns : List Nat) (x : Nat) (w : World) (hn : ns.length ≤ maxLen) (hT : Hid (Nats w A ns)) :
    Calls Try.prog 67 #[.slice A ns.length c, .int .i64 (x : Nat)] w fun e w' => e = .returned (.bool (ns.contains x)) ∧ w = w' := by
  have IX := Lib.hid (Index_any A c ns x w hn hT)
  go_enter Try.func67, Try.ntmps67
  by_cases hx : x ∈ ns
  · have hc : ns.contains x = true := by simpa using hx
    go_wp2_with (go_at_call 72; refine IX.out.mono ?_; rintro e w2 ⟨⟨i, rfl, h1, h2⟩, rfl⟩; have hi := h1 hx; clear h1 h2)
    go_ret
    exact ⟨by rw [hc]; rfl, rfl⟩
  · have hc : ns.contains x = false := by simpa using hx
    go_wp2_with (go_at_call 72; refine IX.out.mono ?_; rintro e w2 ⟨⟨i, rfl, h1, h2⟩, rfl⟩; obtain rfl := h2 hx; clear h1 h2)
    go_ret
    exact ⟨by rw [hc]; rfl, rfl⟩
set_option maxHeartbeats 1000000 in
theorem wanted_any (k at_ : Nat) (A : Option Addr) (c : Nat) (ns : List Nat) (w : World) (hn : ns.length ≤ 3) (hT : Hid (∀ u, Gr w u → Nats u A ns)) :
    Calls Try.prog 58 #[.agg #[.int .i64 (k : Nat), .int .i64 (at_ : Nat)], .slice A ns.length c] w fun e w' => e = .returned (.int .i64 (wanted k ns : Nat)) ∧ Gr w w' := by
  have CT := Lib.hid (fun (u : World) (hu : Gr w u) => Contains_any A c ns k u (by unfold maxLen; omega) (Lib.hid (hT.out u hu)))
  go_enter Try.func58, Try.ntmps58
  by_cases h0 : k = 0
  · subst h0
    go_wp2
    go_ret
    exact ⟨rfl, Gr.alloc _ _⟩
  · have q : ((k : Int) == 0) = false := by simp; omega
    rcases hc : ns.contains k with _ | _
    · rw [hc] at CT
      go_wp2_with (go_at_call 67; refine (CT.out _ (Gr.alloc _ _)).mono ?_; rintro e w2 ⟨rfl, rfl⟩)
      go_ret
      refine ⟨?_, Gr.alloc _ _⟩
      unfold wanted
      rw [if_neg h0, hc]
      rfl
    · rw [hc] at CT
      go_wp2_with (go_at_call 67; refine (CT.out _ (Gr.alloc _ _)).mono ?_; rintro e w2 ⟨rfl, rfl⟩)
      go_ret
      refine ⟨?_, Gr.alloc _ _⟩
      unfold wanted
      rw [if_neg h0, hc]
      rfl
end Go.Proofs.Ytjkaeabnjkhllaa
