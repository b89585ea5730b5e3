/-
  repeats and what it makes, WALKED.
-/
import Derived.Test.YtjkaeabnjkhllaaScDms
namespace Go.Proofs.Ytjkaeabnjkhllaa
open Go.RowKit

/-- the names that were met, in a map in a box -/
def TkAt (w : World) (g b : Nat) (ns : List ByteArray) : Prop := w.cell? ⟨g, 0, none⟩ = some (.map (some b)) ∧ ∃ l, MpAt w b l ∧ ∀ k, getS l k = if ns.contains k then some (.bool true) else none
theorem TkAt.gr {w w' : World} {g b : Nat} {ns : List ByteArray} (h : TkAt w g b ns) (hg : Gr w w') : TkAt w' g b ns := by
  obtain ⟨h1, l, h2, h3⟩ := h
  exact ⟨gr_cell hg (World.block_lt_of_cell? _ _ h1) h1, l, h2.gr hg, h3⟩
theorem ins_get (v : Value) (k : ByteArray) : ∀ (ns : List ByteArray) (l : List (ByteArray × Value)), getS (insAll l v ns) k = if ns.contains k then some v else getS l k
  | [], l => by simp [insAll]
  | a :: r, l => by
    rw [insAll, ins_get v k r, getS_put]
    by_cases h : r.contains k = true
    · rw [if_pos h, if_pos (has_iff.2 (by simp [has_iff.1 h]))]
    · rw [if_neg h]
      have h' : ¬ k ∈ r := fun e => h (has_iff.2 e)
      by_cases e : k = a
      · rw [if_pos e, if_pos (has_iff.2 (by simp [e]))]
      · rw [if_neg e, if_neg]
        intro hc
        have := has_iff.1 hc
        simp [e, h'] at this

set_option maxRecDepth 100000 in
set_option maxHeartbeats 2000000 in
theorem rep1_any (x : It) (cs : List Value) (g b : Nat) (ns : List ByteArray) (w : World) (hx : Hid (ItAt w x cs)) (ht : Hid (TkAt w g b ns)) :
    Calls Try.prog 40 #[.agg cs.toArray, .pointer (some ⟨g, 0, none⟩)] w fun e w' => e = .returned (.bool (named x.kind && ns.contains x.name)) ∧ Fr b w w' ∧ TkAt w' g b (if named x.kind then ns ++ [x.name] else ns) := by
  have HL := Lib.hid (it_len hx.out)
  have HK := Lib.hid (it_kind hx.out)
  have HN := Lib.hid (it_name hx.out)
  have HS := Lib.hid (show (Try.prog.info? 49).map (·.size) = some cs.length by rw [size49, it_len hx.out])
  have HHN := Lib.hid (fun u => hasName_any cs x.kind u HL HK)
  clear hx
  generalize named x.kind = nm at HHN ⊢
  rcases nm with _ | _
  · simp only [Bool.false_eq_true, if_false, Bool.false_and]
    go_enter Try.func40, Try.ntmps40
    go_upto_region 1 with fail
    obtain ⟨W, eW, GW, B0⟩ : ∃ W, w.alloc (.cells cs.toArray 49) = W ∧ Hid (Gr w W) ∧ Hid (W.heap[w.heap.size]? = some (.cells cs.toArray 49 (0, 0))) := ⟨_, rfl, Lib.hid (Gr.alloc _ _), Lib.hid (new_at _ _)⟩
    rw [eW]
    clear eW
    have HR := Lib.hid (range_of B0.out)
    have HH := Lib.hid (HHN.out W)
    go_wp2_with (first
      | (refine wpList_load_mid (by rfl) 49 _ rfl w.heap.size 0 rfl cs _ HR.out Try.underlying49 rfl HS.out ?_)
      | (go_at_call 41; refine HH.out.mono ?_; rintro e w2 ⟨rfl, hg⟩; have G2 := Lib.hid hg; clear hg))
    go_ret
    have hgr := GW.out.trans G2.out
    exact ⟨rfl, ⟨hgr.os, hgr.tape, hgr.output, hgr.size, fun j hj _ => hgr.block j hj (by simp)⟩, ht.out.gr hgr⟩
  · simp only [if_true, Bool.true_and]
    go_enter Try.func40, Try.ntmps40
    go_upto_region 1 with fail
    obtain ⟨W, eW, GW, B0⟩ : ∃ W, w.alloc (.cells cs.toArray 49) = W ∧ Hid (Gr w W) ∧ Hid (W.heap[w.heap.size]? = some (.cells cs.toArray 49 (0, 0))) := ⟨_, rfl, Lib.hid (Gr.alloc _ _), Lib.hid (new_at _ _)⟩
    rw [eW]
    clear eW
    have HR := Lib.hid (range_of B0.out)
    have HH := Lib.hid (HHN.out W)
    go_upto_region 3 with (first
      | (refine wpList_load_mid (by rfl) 49 _ rfl w.heap.size 0 rfl cs _ HR.out Try.underlying49 rfl HS.out ?_)
      | (go_at_call 41; refine HH.out.mono ?_; rintro e w2 ⟨rfl, hg⟩; have G2 := Lib.hid hg; clear hg))
    have HG := Lib.hid (GW.out.trans G2.out)
    obtain ⟨t0, l, hl1, hl2⟩ := ht.out.gr HG.out
    have n1 : w2.cell? ⟨w.heap.size, 1, none⟩ = some (.string x.name) := by rw [cell_at (G2.out.keep B0.out)]; simpa using HN.out
    have hlk := look_str Try.underlying93 Try.zeroValue4 hl1 x.name false
    obtain ⟨ob, hrun, hmp⟩ := put_str Try.underlying93 hl1 x.name (.bool true)
    rw [hl2] at hlk
    have hv : (if ns.contains x.name then some (Value.bool true) else none).getD (.bool false) = .bool (ns.contains x.name) := by cases ns.contains x.name <;> rfl
    simp only [hv, Bool.false_eq_true, if_false] at hlk
    have H2 := Lib.hid (And.intro hmp (And.intro hl1 hl2))
    have T0 := Lib.hid t0
    clear hmp hl1 hl2 hv
    go_wp2_with fail
    go_ret
    refine ⟨by rw [List.contains_eq_mem]; rfl, ?_, ?_⟩
    · have hgr := HG.out
      exact (show Fr b w w2 from ⟨hgr.os, hgr.tape, hgr.output, hgr.size, fun j hj _ => hgr.block j hj (by simp)⟩).trans (Fr.put _ _ _)
    · obtain ⟨es, cl, q1, _⟩ := H2.out.2.1
      refine ⟨(Kn.putObj (n := w2.heap.size) w2 b _ ob q1 rfl).2.1 _ _ _ (World.block_lt_of_cell? _ _ T0.out) T0.out, _, H2.out.1, fun k => ?_⟩
      rw [getS_put, H2.out.2.2]
      by_cases e : k = x.name
      · rw [if_pos e, if_pos (has_iff.2 (by simp [e]))]
      · rw [if_neg e]
        by_cases h : ns.contains k = true
        · rw [if_pos h, if_pos (has_iff.2 (by simp [has_iff.1 h]))]
        · rw [if_neg h, if_neg]
          intro hc
          have := has_iff.1 hc
          simp [e] at this
          exact h (has_iff.2 this)

set_option maxRecDepth 100000 in
set_option maxHeartbeats 2000000 in
theorem repeats_any (m : Mo) (pA qA iA : Option Addr) (pC qC iC : Nat) (w : World) (hm : Hid (MoAt w m [.string m.name, .slice pA m.params.length pC, .slice qA m.ports.length qC, .slice iA m.items.length iC])) :
    Calls Try.prog 28 #[.agg #[.string m.name, .slice pA m.params.length pC, .slice qA m.ports.length qC, .slice iA m.items.length iC]] w fun e w' => e = .returned (.func (.func 40) #[] #[.pointer (some ⟨w.heap.size + 2, 0, none⟩)]) ∧ TkAt w' (w.heap.size + 2) (w.heap.size + 1) (headNames m) ∧ Gr w w' := by
  have hmm := @run_makeMap Try.prog
  have hmf : ∀ (fn : Fn) (first cap : Array Value) (w : World), (Instr.makeFunc fn first cap).run Try.prog w = .ok (.func fn first cap) w := fun _ _ _ _ => rfl
  obtain ⟨p, q, i, e, m1, m2, _⟩ := hm.out
  simp at e
  obtain ⟨rfl, rfl, rfl⟩ := e
  have l1 : m.params.length ≤ maxLen := by have := m1.1; simpa using this
  have l2 : m.ports.length ≤ maxLen := by have := m2.1; simpa using this
  unfold maxLen at l1 l2
  have HM1 := Lib.hid m1
  have HM2 := Lib.hid m2
  clear m1 m2 hm
  go_enter Try.func28, Try.ntmps28
  go_upto_region 2 with fail
  obtain ⟨W, eW, GW, C0, CM, CX⟩ : ∃ W, ((w.alloc (.cells #[.string m.name, .slice pA m.params.length pC, .slice qA m.ports.length qC, .slice iA m.items.length iC] 34)).alloc (.map #[] 0)).alloc (.cells #[.map (some (w.heap.size + 1))] 93) = W ∧ Hid (Gr w W) ∧ Hid (W.heap[w.heap.size]? = some (.cells #[.string m.name, .slice pA m.params.length pC, .slice qA m.ports.length qC, .slice iA m.items.length iC] 34 (0, 0))) ∧ Hid (W.heap[w.heap.size + 1]? = some (.map #[] 0)) ∧ Hid (W.heap[w.heap.size + 2]? = some (.cells #[.map (some (w.heap.size + 1))] 93 (0, 0))) := by
    refine ⟨_, rfl, Lib.hid (((Gr.alloc _ _).trans (Gr.alloc _ _)).trans (Gr.alloc _ _)), Lib.hid (((Gr.alloc _ _).trans (Gr.alloc _ _)).keep (new_at w _)), Lib.hid ?_, Lib.hid ?_⟩
    · have h := new_at (w.alloc (.cells #[.string m.name, .slice pA m.params.length pC, .slice qA m.ports.length qC, .slice iA m.items.length iC] 34)) (.map #[] 0)
      rw [World.size_alloc] at h
      exact (Gr.alloc _ _).keep h
    · have h := new_at ((w.alloc (.cells #[.string m.name, .slice pA m.params.length pC, .slice qA m.ports.length qC, .slice iA m.items.length iC] 34)).alloc (.map #[] 0)) (.cells #[.map (some (w.heap.size + 1))] 93)
      simpa using h
  rw [eW]
  clear eW
  have AT := Lib.hid (show ∀ u, Fr (w.heap.size + 1) W u → (u.cell? ⟨w.heap.size, 1, none⟩ = some (.slice pA m.params.length pC) ∧ u.cell? ⟨w.heap.size, 2, none⟩ = some (.slice qA m.ports.length qC) ∧ u.cell? ⟨w.heap.size + 2, 0, none⟩ = some (.map (some (w.heap.size + 1)))) from fun u hu => ⟨by rw [cell_at (hu.keep C0.out (by omega))]; rfl, by rw [cell_at (hu.keep C0.out (by omega))]; rfl, by rw [cell_at (hu.keep CX.out (by omega))]; rfl⟩)
  have KW := Lib.hid (show ∀ u, Fr (w.heap.size + 1) W u → Kn w.heap.size w u from fun u hu => (Kn.of_gr GW.out).trans (hu.kn CM.out))
  obtain ⟨a1, a2, a3⟩ := AT.out W (Fr.refl _ _)
  go_wp2_with fail
  clear a1 a2 a3
  go_loopg [12] m.params.length (fun g x wr => ∃ k : Nat, k + g = m.params.length ∧ x = .int .i64 (k : Nat) ∧ Hid (Fr (w.heap.size + 1) W wr) ∧ Hid (MpAt wr (w.heap.size + 1) (insAll [] (.bool true) (m.params.take k))))
  case atStart => exact ⟨0, by omega, rfl, Lib.hid (Fr.refl _ _), Lib.hid ⟨#[], 0, CM.out, rfl⟩⟩
  case round =>
    obtain ⟨k, hkg, rfl, FR, HMP⟩ := hrel
    have HK := Lib.hid hkg
    have hkl : k ≤ m.params.length := by omega
    clear hkg
    by_cases hlt : k < m.params.length
    · obtain ⟨s, hs⟩ : ∃ s, m.params[k]? = some s := ⟨_, List.getElem?_eq_getElem hlt⟩
      obtain ⟨g, o, rfl, _, hr⟩ := (HM1.out.kn (KW.out _ FR.out)).at (j := k) (c := [.string s]) (by simp [hs])
      have c0 := hr 0 _ rfl
      rw [Nat.mul_one, Nat.add_zero] at c0
      have HS := Lib.hid hs
      clear hs hr
      have hd1 : (k : Int) < (m.params.length : Int) := by omega
      have hd0 : (0 : Int) ≤ (k : Int) := by omega
      obtain ⟨a1, a2, a3⟩ := AT.out _ FR.out
      clear a1 a2
      obtain ⟨ob, hrun, hmp⟩ := put_str Try.underlying93 HMP.out s (.bool true)
      have H2 := Lib.hid hmp
      clear hmp
      go_wp2_with fail
      go_roundg (gk - 1)
      case measure => have := HK.out; omega
      case rel => exact ⟨k + 1, by have := HK.out; omega, by go_num, Lib.hid (FR.out.trans (Fr.put _ _ _)), Lib.hid (by have h := H2.out; rw [← insAll_snoc] at h; have e := take_snoc id HS.out; simp only [List.map_id, id_eq] at e; rw [e]; exact h)⟩
    · obtain rfl : k = m.params.length := by omega
      have hd1 : ¬ ((m.params.length : Int) < (m.params.length : Int)) := by omega
      have HM := Lib.hid (show MpAt _ (w.heap.size + 1) (insAll [] (.bool true) m.params) from by have h := HMP.out; rw [List.take_length] at h; exact h)
      clear HMP HK
      obtain ⟨a1, a2, a3⟩ := AT.out _ FR.out
      go_wp2_with fail
      clear a1 a2 a3
      go_loopg [22] m.ports.length (fun g x wr => ∃ k : Nat, k + g = m.ports.length ∧ x = .int .i64 (k : Nat) ∧ Hid (Fr (w.heap.size + 1) W wr) ∧ Hid (MpAt wr (w.heap.size + 1) (insAll [] (.bool true) (m.params ++ (m.ports.take k).map (·.2.1)))))
      case atStart => exact ⟨0, by omega, rfl, FR, Lib.hid (by simpa using HM.out)⟩
      case round =>
        obtain ⟨k, hkg, rfl, FR2, HMP⟩ := hrel
        have HK := Lib.hid hkg
        have hkl : k ≤ m.ports.length := by omega
        clear hkg
        by_cases hlt : k < m.ports.length
        · obtain ⟨p, hp⟩ : ∃ p, m.ports[k]? = some p := ⟨_, List.getElem?_eq_getElem hlt⟩
          obtain ⟨g, o, rfl, _, hr⟩ := (HM2.out.kn (KW.out _ FR2.out)).at (j := k) (c := portCells p) (by simp [hp])
          have c0 := hr 0 _ rfl
          have c1 := hr 1 _ rfl
          have c2 := hr 2 _ rfl
          have c3 := hr 3 _ rfl
          rw [Nat.add_zero] at c0
          have HP := Lib.hid hp
          clear hp hr
          have hd1 : (k : Int) < (m.ports.length : Int) := by omega
          have hd0 : (0 : Int) ≤ (k : Int) := by omega
          obtain ⟨a1, a2, a3⟩ := AT.out _ FR2.out
          have a4 := gr_cell (Gr.alloc _ (.cells #[.bool p.1, .string p.2.1, .string p.2.2.1, .int .i64 p.2.2.2] 59)) (World.block_lt_of_cell? _ _ a3) a3
          clear a1 a2
          obtain ⟨ob, hrun, hmp⟩ := put_str Try.underlying93 (HMP.out.gr (Gr.alloc _ (.cells #[.bool p.1, .string p.2.1, .string p.2.2.1, .int .i64 p.2.2.2] 59))) p.2.1 (.bool true)
          have H2 := Lib.hid hmp
          clear hmp
          go_wp2_with fail
          go_roundg (gk - 1)
          case measure => have := HK.out; omega
          case rel => exact ⟨k + 1, by have := HK.out; omega, by go_num, Lib.hid ((FR2.out.trans (Fr.alloc _ _ _)).trans (Fr.put _ _ _)), Lib.hid (by have h := H2.out; rw [← insAll_snoc, List.append_assoc] at h; rw [take_snoc (·.2.1) HP.out]; exact h)⟩
        · obtain rfl : k = m.ports.length := by omega
          have hd1 : ¬ ((m.ports.length : Int) < (m.ports.length : Int)) := by omega
          have HMM := Lib.hid (show MpAt _ (w.heap.size + 1) (insAll [] (.bool true) (headNames m)) from by have h := HMP.out; rw [List.take_length] at h; exact h)
          go_wp2_with fail
          go_ret
          exact ⟨rfl, ⟨(AT.out _ FR2.out).2.2, _, HMM.out, fun k => by rw [ins_get]; rfl⟩, Fr.gr GW.out FR2.out (by omega)⟩
end Go.Proofs.Ytjkaeabnjkhllaa
