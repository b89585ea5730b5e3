/-
  bound, WALKED.
-/
import Derived.Test.YtjkaeabnjkhllaaScRep
namespace Go.Proofs.Ytjkaeabnjkhllaa
open Go.RowKit

theorem insOf_snoc {ports : List (Bool × ByteArray × Dm)} {k : Nat} {p : Bool × ByteArray × Dm} (h : ports[k]? = some p) : insOf (ports.take (k + 1)) = insOf (ports.take k) ++ (if p.1 then [p.2.1] else []) := by
  rw [List.take_add_one, h]
  unfold insOf
  rw [List.filter_append, List.map_append]
  congr 1
  rcases p with ⟨b, _⟩
  cases b <;> rfl
theorem insOf_le (ports : List (Bool × ByteArray × Dm)) : (insOf ports).length ≤ ports.length := by
  unfold insOf
  rw [List.length_map]
  exact List.length_filter_le _ _
/-- what is open of the ports that go in -/
def OpenAt (w : World) (b : Nat) (ins gone : List ByteArray) : Prop := ∃ l, MpAt w b l ∧ ∀ k, getS l k = if ins.contains k then some (.bool (!gone.contains k)) else none
theorem BindsAt.kn {w w' : World} (hg : Kn w.heap.size w w') {bs : List (ByteArray × Ex)} {v : Value} (h : BindsAt w bs v) : BindsAt w' bs v := by
  obtain ⟨css, r1, r2, r3⟩ := h
  exact ⟨css, r1.kn hg, r2, fun j b hb => by obtain ⟨ce, e1, e2⟩ := r3 j b hb; exact ⟨ce, e1, e2.kn hg⟩⟩
theorem open_put {ins gone : List ByteArray} {b s : ByteArray} (hb : ins.contains b = true) : (if s = b then some (Value.bool false) else if ins.contains s then some (Value.bool (!gone.contains s)) else none) = if ins.contains s then some (Value.bool (!(b :: gone).contains s)) else none := by
  by_cases h : s = b
  · subst h
    have : (s :: gone).contains s = true := has_iff.2 (by simp)
    rw [if_pos rfl, if_pos hb, this]
    rfl
  · rw [if_neg h]
    have : (b :: gone).contains s = gone.contains s := by
      rw [Bool.eq_iff_iff, has_iff, has_iff]
      simp [h]
    rw [this]
/-- a bind's twelve cells -/
theorem bind_cells {w : World} {bs : List (ByteArray × Ex)} {A : Option Addr} {n c : Nat} (h : BindsAt w bs (.slice A n c)) {k : Nat} {b : ByteArray × Ex} (hb : bs[k]? = some b) : ∃ g o hd kA kn kC, A = some ⟨g, o, none⟩ ∧ g < w.heap.size ∧ w.rangeAt g (o + k * 12) (.string b.1 :: hdCells hd (.slice kA kn kC)) ∧ ExAt w b.2 (hdCells hd (.slice kA kn kC)) := by
  obtain ⟨css, hr, hl, hcs⟩ := h
  obtain ⟨ce, h1, h2⟩ := hcs k b hb
  obtain ⟨g, o, e, hg, hrg⟩ := hr.at h1
  obtain ⟨v, css2, rfl, hr2, _⟩ := h2.open
  obtain ⟨kA, kC, rfl⟩ := hr2.form
  exact ⟨g, o, _, kA, _, kC, e, hg, hrg, h2⟩

set_option maxRecDepth 100000 in
set_option maxHeartbeats 4000000 in
theorem bound_any (ports : List (Bool × ByteArray × Dm)) (binds : List (ByteArray × Ex)) (pA bA : Option Addr) (pC bC : Nat) (w : World) (hp : Hid (RowC w 4 (.slice pA ports.length pC) (ports.map portCells))) (hb : Hid (BindsAt w binds (.slice bA binds.length bC))) :
    Calls Try.prog 66 #[.slice pA ports.length pC, .slice bA binds.length bC] w fun e w' => e = .returned (.bool (boundOk ports binds)) ∧ Gr w w' := by
  have hmm := @run_makeMap Try.prog
  have l1 : ports.length ≤ maxLen := by have := hp.out.1; simpa using this
  have l2 : binds.length ≤ maxLen := by obtain ⟨css, h1, h2, _⟩ := hb.out; have := h1.1; rw [h2] at this; exact this
  unfold maxLen at l1 l2
  go_enter Try.func66, Try.ntmps66
  go_upto_region 2 with fail
  obtain ⟨W, eW, GW, CM⟩ : ∃ W, w.alloc (.map #[] 0) = W ∧ Hid (Gr w W) ∧ Hid (W.heap[w.heap.size]? = some (.map #[] 0)) := ⟨_, rfl, Lib.hid (Gr.alloc _ _), Lib.hid (new_at _ _)⟩
  rw [eW]
  clear eW
  have KW := Lib.hid (show ∀ u, Fr w.heap.size W u → Kn w.heap.size w u from fun u hu => (Kn.of_gr GW.out).trans (hu.kn CM.out))
  go_wp2_with fail
  go_loopg [14, 5] ports.length (fun g x y wr => ∃ k c : Nat, k + g = ports.length ∧ x = .int .i64 (k : Nat) ∧ y = .int .i64 (c : Nat) ∧ c ≤ k ∧ Hid (c = (insOf (ports.take k)).length) ∧ Hid (Fr w.heap.size W wr) ∧ Hid (MpAt wr w.heap.size (insAll [] (.bool true) (insOf (ports.take k)))))
  case atStart => exact ⟨0, 0, by omega, rfl, rfl, by omega, Lib.hid rfl, Lib.hid (Fr.refl _ _), Lib.hid ⟨#[], 0, CM.out, rfl⟩⟩
  case round =>
    obtain ⟨k, c, hkg, rfl, rfl, hck, HC, FR, HMP⟩ := hrel
    have HK := Lib.hid hkg
    have hkl : k ≤ ports.length := by omega
    clear hkg
    by_cases hlt : k < ports.length
    · obtain ⟨p, hpk⟩ : ∃ p, ports[k]? = some p := ⟨_, List.getElem?_eq_getElem hlt⟩
      obtain ⟨g, o, rfl, _, hr⟩ := (hp.out.kn (KW.out _ FR.out)).at (j := k) (c := portCells p) (by simp [hpk])
      have c0 := hr 0 _ rfl
      have c1 := hr 1 _ rfl
      have c2 := hr 2 _ rfl
      have c3 := hr 3 _ rfl
      rw [Nat.add_zero] at c0
      have HP := Lib.hid hpk
      clear hpk hr
      have hd1 : (k : Int) < (ports.length : Int) := by omega
      have hd0 : (0 : Int) ≤ (k : Int) := by omega
      have hd2 : (c : Int) ≤ (k : Int) := by omega
      obtain ⟨pb, ps, pd, pn⟩ := p
      simp only at c0 c1 c2 c3
      rcases pb with _ | _
      · go_wp2_with fail
        go_roundg (gk - 1)
        case measure => have := HK.out; omega
        case rel => exact ⟨k + 1, c, by have := HK.out; omega, by go_num, rfl, by omega, Lib.hid (by rw [insOf_snoc HP.out, HC.out]; simp), Lib.hid (FR.out.trans (Fr.alloc _ _ _)), Lib.hid (by rw [insOf_snoc HP.out]; simpa using HMP.out.gr (Gr.alloc _ _))⟩
      · obtain ⟨ob, hrun, hmp⟩ := put_str Try.underlying93 (HMP.out.gr (Gr.alloc _ (.cells #[.bool true, .string ps, .string pd, .int .i64 pn] 59))) ps (.bool true)
        have H2 := Lib.hid hmp
        clear hmp
        go_wp2_with fail
        go_roundg (gk - 1)
        case measure => have := HK.out; omega
        case rel => exact ⟨k + 1, c + 1, by have := HK.out; omega, by go_num, by go_num, by omega, Lib.hid (by rw [insOf_snoc HP.out, List.length_append, ← HC.out]; rfl), Lib.hid ((FR.out.trans (Fr.alloc _ _ _)).trans (Fr.put _ _ _)), Lib.hid (by rw [insOf_snoc HP.out]; have h := H2.out; rw [← insAll_snoc] at h; exact h)⟩
    · obtain rfl : k = ports.length := by omega
      have hd1 : ¬ ((ports.length : Int) < (ports.length : Int)) := by omega
      have HC2 := Lib.hid (show c = (insOf ports).length from by have h := HC.out; rw [List.take_length] at h; exact h)
      have HOP := Lib.hid (show OpenAt _ w.heap.size (insOf ports) [] from ⟨_, HMP.out, fun s => by rw [List.take_length, ins_get]; rfl⟩)
      clear HC HMP HK
      by_cases hcb : c = binds.length
      case neg =>
        have q : ((c : Int) != (binds.length : Int)) = true := by simp; omega
        have HE := Lib.hid (show boundOk ports binds = false by rw [boundOk, decide_eq_false (by rw [← HC2.out]; exact hcb)]; rfl)
        clear hcb
        go_wp2_with fail
        go_ret
        exact ⟨by rw [HE.out]; rfl, Fr.gr GW.out FR.out (Nat.le_refl _)⟩
      have HE := Lib.hid (show boundOk ports binds = bindsOk (insOf ports) [] (binds.map (·.1)) by rw [boundOk, decide_eq_true (by rw [← HC2.out]; exact hcb)]; rfl)
      subst hcb
      have q : ((binds.length : Int) != (binds.length : Int)) = false := by simp
      go_wp2_with fail
      go_loopg [32] binds.length (fun g x wr => ∃ k : Nat, k + g = binds.length ∧ x = .int .i64 (k : Nat) ∧ Hid (Fr w.heap.size W wr) ∧ Hid (∃ gone, OpenAt wr w.heap.size (insOf ports) gone ∧ boundOk ports binds = bindsOk (insOf ports) gone ((binds.map (·.1)).drop k)))
      case atStart => exact ⟨0, by omega, rfl, FR, Lib.hid ⟨[], HOP.out, HE.out⟩⟩
      case round =>
        obtain ⟨k, hkg, rfl, FR2, HG⟩ := hrel
        have HK := Lib.hid hkg
        have hkl : k ≤ binds.length := by omega
        clear hkg
        by_cases hlt : k < binds.length
        · obtain ⟨b, hbk⟩ : ∃ b, binds[k]? = some b := ⟨_, List.getElem?_eq_getElem hlt⟩
          have hbk' := hb.out.kn (KW.out _ FR2.out)
          obtain ⟨g, o, hd, kA, kn, kC, rfl, _, hr, _⟩ := bind_cells hbk' hbk
          have c0 := hr 0 _ rfl
          have c1 := hr 1 _ rfl
          have c2 := hr 2 _ rfl
          have c3 := hr 3 _ rfl
          have c4 := hr 4 _ rfl
          have c5 := hr 5 _ rfl
          have c6 := hr 6 _ rfl
          have c7 := hr 7 _ rfl
          have c8 := hr 8 _ rfl
          have c9 := hr 9 _ rfl
          have c10 := hr 10 _ rfl
          have c11 := hr 11 _ rfl
          rw [Nat.add_zero] at c0
          obtain ⟨gone, ⟨l, hl1, hl2⟩, hout⟩ := HG.out
          have hdrop : (binds.map (·.1)).drop k = b.1 :: (binds.map (·.1)).drop (k + 1) := by
            rw [← List.getElem_cons_drop (by simpa using hlt)]
            congr 1
            have : (binds.map (·.1))[k]? = some b.1 := by simp [hbk]
            rw [List.getElem?_eq_getElem (by simpa using hlt)] at this
            exact Option.some.inj this
          rw [hdrop, bindsOk] at hout
          have hl1' := hl1.gr (Gr.alloc _ (.cells #[.string b.1, .int .i64 hd.op, .string hd.val.1, .int .i64 hd.val.2, .string hd.wid.1, .int .i64 hd.wid.2, .string hd.hi.1, .int .i64 hd.hi.2, .string hd.lo.1, .int .i64 hd.lo.2, .string hd.name, .slice kA kn kC] 64))
          have hlk := look_str Try.underlying93 Try.zeroValue4 hl1' b.1 false
          have hv : (if (insOf ports).contains b.1 then some (Value.bool (!gone.contains b.1)) else none).getD (.bool false) = .bool ((insOf ports).contains b.1 && !gone.contains b.1) := by
            cases (insOf ports).contains b.1 <;> simp
          rw [hl2] at hlk
          simp only [hv, Bool.false_eq_true, if_false] at hlk
          obtain ⟨ob, hrun, hmp⟩ := put_str Try.underlying93 hl1' b.1 (.bool false)
          have HMP := Lib.hid (And.intro hmp hl2)
          have hd1 : (k : Int) < (binds.length : Int) := by omega
          have hd0 : (0 : Int) ≤ (k : Int) := by omega
          have HB := Lib.hid hbk
          rcases hok : ((insOf ports).contains b.1 && !gone.contains b.1) with _ | _
          · rw [hok] at hlk hout
            have HO := Lib.hid hout
            clear hbk hbk' hr hl1 hl2 hl1' hv hmp hrun hout hok hdrop HG
            go_wp2_with fail
            go_ret
            exact ⟨by rw [HO.out]; rfl, Fr.gr GW.out (FR2.out.trans (Fr.alloc _ _ _)) (Nat.le_refl _)⟩
          · have HIN := Lib.hid (show (insOf ports).contains b.1 = true from by rw [Bool.and_eq_true] at hok; exact hok.1)
            rw [hok, Bool.true_and] at hout
            rw [hok] at hlk
            have HO := Lib.hid hout
            clear hbk hbk' hr hl1 hl2 hl1' hv hmp hout hok hdrop HG
            go_wp2_with fail
            go_roundg (gk - 1)
            case measure => have := HK.out; omega
            case rel => exact ⟨k + 1, by have := HK.out; omega, by go_num, Lib.hid ((FR2.out.trans (Fr.alloc _ _ _)).trans (Fr.put _ _ _)), Lib.hid ⟨b.1 :: gone, ⟨_, HMP.out.1, fun s => by
              rw [getS_put, HMP.out.2]
              exact open_put HIN.out⟩, HO.out⟩⟩
        · obtain rfl : k = binds.length := by omega
          have hd1 : ¬ ((binds.length : Int) < (binds.length : Int)) := by omega
          have HO := Lib.hid (show boundOk ports binds = true from by
            obtain ⟨gone, _, h⟩ := HG.out
            rw [h, List.drop_of_length_le (by simp), bindsOk])
          clear HG
          go_wp2_with fail
          go_ret
          exact ⟨by rw [HO.out]; rfl, Fr.gr GW.out FR2.out (Nat.le_refl _)⟩
end Go.Proofs.Ytjkaeabnjkhllaa
