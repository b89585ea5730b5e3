/-
  headTwice, WALKED: names put into a map, and counted.
-/
import Derived.Test.YtjkaeabnjkhllaaScLck
namespace Go.Proofs.Ytjkaeabnjkhllaa
open Go.RowKit

/-- all but one block stays -/
abbrev Fr (b : Nat) (w w' : World) : Prop := w.grownBy w' (some b)
theorem Fr.refl (b : Nat) (w : World) : Fr b w w := ⟨rfl, rfl, rfl, Nat.le_refl _, fun _ _ _ => rfl⟩
theorem Fr.trans {b : Nat} {w w1 w2 : World} (h : Fr b w w1) (k : Fr b w1 w2) : Fr b w w2 :=
  ⟨k.os.trans h.os, k.tape.trans h.tape, k.output.trans h.output, Nat.le_trans h.size k.size, fun j hj hb => (k.block j (Nat.lt_of_lt_of_le hj h.size) hb).trans (h.block j hj hb)⟩
theorem Fr.alloc (b : Nat) (w : World) (o : Obj) : Fr b w (w.alloc o) := ⟨rfl, rfl, rfl, by simp, fun k hk _ => Below.heap_alloc _ _ _ hk⟩
theorem Fr.keep {b g : Nat} {w w' : World} {o : Obj} (h : Fr b w w') (ho : w.heap[g]? = some o) (hb : g ≠ b) : w'.heap[g]? = some o :=
  (h.block g (heap_lt ho) (fun e => hb (Option.some.inj e))).trans ho
theorem Fr.put (b : Nat) (w : World) (o : Obj) : Fr b w (w.putObj b o) := grownBy_putObj' w b o
theorem Fr.gr {b : Nat} {w0 w w' : World} (h : Gr w0 w) (k : Fr b w w') (hb : w0.heap.size ≤ b) : Gr w0 w' :=
  ⟨k.os.trans h.os, k.tape.trans h.tape, k.output.trans h.output, Nat.le_trans h.size k.size, fun j hj hn => (k.block j (Nat.lt_of_lt_of_le hj h.size) (fun e => by have := Option.some.inj e; omega)).trans (h.block j hj hn)⟩
/-- cells stay, where the one block is none of cells -/
theorem Fr.kn {b : Nat} {w w' : World} {es : Array MapEntry} {cl : Nat} (h : Fr b w w') (hb : w.heap[b]? = some (.map es cl)) {n : Nat} : Kn n w w' := by
  refine ⟨h.size, fun g o v _ hv => ?_, fun g c t z _ hc => ⟨c, ?_⟩⟩
  rotate_left
  · have hne : g ≠ b := by
      rintro rfl
      rw [hb] at hc
      cases Option.some.inj hc
    exact h.keep hc hne
  obtain ⟨ob, h1, h2⟩ := cells_of_cell hv
  have hne : g ≠ b := by
    rintro rfl
    rw [hb] at h1
    obtain rfl := Option.some.inj h1
    cases h2
  rw [World.cell?_of_block (a := ⟨g, o, none⟩) (h.block g (heap_lt h1) (fun e => hne (Option.some.inj e)))]
  exact hv

instance : LawfulBEq ByteArray where
  eq_of_beq := fun {a b} h => by rw [ba_beq] at h; simpa using h
  rfl := fun {a} => by rw [ba_beq]; simp
theorem has_iff {a : ByteArray} {l : List ByteArray} : l.contains a = true ↔ a ∈ l := List.contains_iff_mem
theorem has_not {a : ByteArray} {l : List ByteArray} : l.contains a = false ↔ ¬ a ∈ l := by
  rw [← has_iff]
  cases l.contains a <;> simp

def insAll (l : List (ByteArray × Value)) (v : Value) : List ByteArray → List (ByteArray × Value)
  | [] => l
  | a :: r => insAll (putS l a v) v r
theorem insAll_snoc (v : Value) (k : ByteArray) : ∀ (ns : List ByteArray) (l : List (ByteArray × Value)), insAll l v (ns ++ [k]) = putS (insAll l v ns) k v
  | [], l => rfl
  | a :: r, l => by rw [List.cons_append, insAll, insAll, insAll_snoc v k r]
theorem putS_len (k : ByteArray) (v : Value) : ∀ l : List (ByteArray × Value), (putS l k v).length = if (getS l k).isSome then l.length else l.length + 1
  | [] => rfl
  | t :: r => by
    rw [putS, getS]
    split
    · rfl
    · rw [List.length_cons, List.length_cons, putS_len k v r]
      split <;> rfl
theorem insAll_len (v : Value) : ∀ (ns : List ByteArray) (l : List (ByteArray × Value)), (insAll l v ns).length ≤ l.length + ns.length ∧ ((insAll l v ns).length = l.length + ns.length ↔ nodup ns = true ∧ ∀ n ∈ ns, getS l n = none)
  | [], l => by simp [insAll, nodup]
  | a :: r, l => by
    obtain ⟨h1, h2⟩ := insAll_len v r (putS l a v)
    have h3 := putS_len a v l
    rw [insAll, List.length_cons]
    have hg : ∀ n, getS (putS l a v) n = none ↔ n ≠ a ∧ getS l n = none := fun n => by
      rw [getS_put]
      by_cases hn : n = a
      · simp [hn]
      · simp [hn]
    rcases hs : getS l a with _ | u
    · rw [hs] at h3
      simp only [Option.isSome_none, Bool.false_eq_true, if_false] at h3
      refine ⟨by omega, ?_⟩
      rw [show (insAll (putS l a v) v r).length = l.length + (r.length + 1) ↔ (insAll (putS l a v) v r).length = (putS l a v).length + r.length by omega, h2]
      constructor
      · rintro ⟨q1, q2⟩
        refine ⟨?_, fun n hn => ?_⟩
        · rw [nodup, q1, Bool.and_true]
          rw [has_not.2 (fun hm => ((hg a).1 (q2 a hm)).1 rfl)]
          rfl
        · rcases List.mem_cons.1 hn with rfl | hn
          · exact hs
          · exact ((hg n).1 (q2 n hn)).2
      · rintro ⟨q1, q2⟩
        rw [nodup, Bool.and_eq_true] at q1
        refine ⟨q1.2, fun n hn => (hg n).2 ⟨?_, q2 n (by simp [hn])⟩⟩
        rintro rfl
        rw [has_iff.2 hn] at q1
        simp at q1
    · rw [hs] at h3
      simp only [Option.isSome_some, if_true] at h3
      refine ⟨by omega, ⟨fun h => by omega, fun h => ?_⟩⟩
      have := h.2 a (by simp)
      rw [hs] at this
      cases this
theorem heads_len (v : Value) (ns : List ByteArray) : decide (((insAll [] v ns).length : Int) < (ns.length : Int)) = !nodup ns := by
  obtain ⟨h1, h2⟩ := insAll_len v ns []
  simp only [List.length_nil, Nat.zero_add] at h1 h2
  rcases hn : nodup ns with _ | _
  · have : ¬ (insAll [] v ns).length = ns.length := fun h => by have := (h2.1 h).1; rw [hn] at this; cases this
    simp only [Bool.not_false, decide_eq_true_eq]
    omega
  · have : (insAll [] v ns).length = ns.length := h2.2 ⟨hn, fun _ _ => rfl⟩
    simp only [Bool.not_true, decide_eq_false_iff_not]
    omega

theorem len93 {w : World} {b : Nat} {es : Array MapEntry} {cl : Nat} (h : w.heap[b]? = some (.map es cl)) : (Builtin.len_ #[93] 3 #[.map (some b)]).run Try.prog w = .ok (.int .i64 (es.size : Nat)) w := by
  have hg : (getObj b).run Try.prog w = .ok (.map es cl) w := by simp [getObj, Sem.run, h]
  unfold Builtin.len_
  simp [run_underlying Try.underlying93, hg, Sem.run_bind]
  rfl
theorem take_snoc {α β : Type} (f : α → β) {l : List α} {k : Nat} {x : α} (h : l[k]? = some x) : (l.take (k + 1)).map f = (l.take k).map f ++ [f x] := by
  rw [List.take_add_one, h]
  simp
set_option maxRecDepth 100000 in
set_option maxHeartbeats 2000000 in
theorem headTwice_any (m : Mo) (pA qA iA : Option Addr) (pC qC iC : Nat) (w : World) (hb : m.params.length + m.ports.length ≤ 1000) (hm : Hid (MoAt w m [.string m.name, .slice pA m.params.length pC, .slice qA m.ports.length qC, .slice iA m.items.length iC])) :
    Calls Try.prog 38 #[.agg #[.string m.name, .slice pA m.params.length pC, .slice qA m.ports.length qC, .slice iA m.items.length iC]] w fun e w' => e = .returned (.bool (!nodup (headNames m))) ∧ Gr w w' := by
  have hmm := @run_makeMap Try.prog
  obtain ⟨p, q, i, e, m1, m2, _⟩ := hm.out
  simp at e
  obtain ⟨rfl, rfl, rfl⟩ := e
  have l1 : m.params.length ≤ maxLen := by have := m1.1; simpa using this
  have l2 : m.ports.length ≤ maxLen := by have := m2.1; simpa using this
  unfold maxLen at l1 l2
  have HM1 := Lib.hid m1
  have HM2 := Lib.hid m2
  clear m1 m2 hm
  go_enter Try.func38, Try.ntmps38
  go_upto_region 2 with fail
  obtain ⟨W, eW, GW, C0, CM⟩ : ∃ W, (w.alloc (.cells #[.string m.name, .slice pA m.params.length pC, .slice qA m.ports.length qC, .slice iA m.items.length iC] 34)).alloc (.map #[] 0) = W ∧ Hid (Gr w W) ∧ Hid (W.heap[w.heap.size]? = some (.cells #[.string m.name, .slice pA m.params.length pC, .slice qA m.ports.length qC, .slice iA m.items.length iC] 34 (0, 0))) ∧ Hid (W.heap[w.heap.size + 1]? = some (.map #[] 0)) := by
    refine ⟨_, rfl, Lib.hid ((Gr.alloc _ _).trans (Gr.alloc _ _)), Lib.hid ((Gr.alloc _ _).keep (new_at w _)), Lib.hid ?_⟩
    have h := new_at (w.alloc (.cells #[.string m.name, .slice pA m.params.length pC, .slice qA m.ports.length qC, .slice iA m.items.length iC] 34)) (.map #[] 0)
    rw [World.size_alloc] at h
    exact h
  rw [eW]
  clear eW
  have AT := Lib.hid (show ∀ u, Fr (w.heap.size + 1) W u → (u.cell? ⟨w.heap.size, 1, none⟩ = some (.slice pA m.params.length pC) ∧ u.cell? ⟨w.heap.size, 2, none⟩ = some (.slice qA m.ports.length qC)) from fun u hu => ⟨by rw [cell_at (hu.keep C0.out (by omega))]; rfl, by rw [cell_at (hu.keep C0.out (by omega))]; rfl⟩)
  have KW := Lib.hid (show ∀ u, Fr (w.heap.size + 1) W u → Kn w.heap.size w u from fun u hu => (Kn.of_gr GW.out).trans (hu.kn CM.out))
  obtain ⟨a1, a2⟩ := AT.out W (Fr.refl _ _)
  go_wp2_with fail
  clear a1 a2
  go_loopg [12] m.params.length (fun g x wr => ∃ k : Nat, k + g = m.params.length ∧ x = .int .i64 (k : Nat) ∧ Hid (Fr (w.heap.size + 1) W wr) ∧ Hid (MpAt wr (w.heap.size + 1) (insAll [] (.bool true) (m.params.take k))))
  case atStart => exact ⟨0, by omega, rfl, Lib.hid (Fr.refl _ _), Lib.hid ⟨#[], 0, CM.out, rfl⟩⟩
  case round =>
    obtain ⟨k, hkg, rfl, FR, HMP⟩ := hrel
    have HK := Lib.hid hkg
    have hkl : k ≤ m.params.length := by omega
    clear hkg
    by_cases hlt : k < m.params.length
    · obtain ⟨s, hs⟩ : ∃ s, m.params[k]? = some s := ⟨_, List.getElem?_eq_getElem hlt⟩
      obtain ⟨g, o, rfl, _, hr⟩ := (HM1.out.kn (KW.out _ FR.out)).at (j := k) (c := [.string s]) (by simp [hs])
      have c0 := hr 0 _ rfl
      rw [Nat.mul_one, Nat.add_zero] at c0
      have HS := Lib.hid hs
      clear hs hr
      have hd1 : (k : Int) < (m.params.length : Int) := by omega
      have hd0 : (0 : Int) ≤ (k : Int) := by omega
      obtain ⟨ob, hrun, hmp⟩ := put_str Try.underlying93 HMP.out s (.bool true)
      have H2 := Lib.hid hmp
      clear hmp
      go_wp2_with fail
      go_roundg (gk - 1)
      case measure => have := HK.out; omega
      case rel => exact ⟨k + 1, by have := HK.out; omega, by go_num, Lib.hid (FR.out.trans (Fr.put _ _ _)), Lib.hid (by have h := H2.out; rw [← insAll_snoc] at h; have e := take_snoc id HS.out; simp only [List.map_id, id_eq] at e; rw [e]; exact h)⟩
    · obtain rfl : k = m.params.length := by omega
      have hd1 : ¬ ((m.params.length : Int) < (m.params.length : Int)) := by omega
      have HM := Lib.hid (show MpAt _ (w.heap.size + 1) (insAll [] (.bool true) m.params) from by have h := HMP.out; rw [List.take_length] at h; exact h)
      clear HMP HK
      obtain ⟨a1, a2⟩ := AT.out _ FR.out
      go_wp2_with fail
      clear a1 a2
      go_loopg [22] m.ports.length (fun g x wr => ∃ k : Nat, k + g = m.ports.length ∧ x = .int .i64 (k : Nat) ∧ Hid (Fr (w.heap.size + 1) W wr) ∧ Hid (MpAt wr (w.heap.size + 1) (insAll [] (.bool true) (m.params ++ (m.ports.take k).map (·.2.1)))))
      case atStart => exact ⟨0, by omega, rfl, FR, Lib.hid (by simpa using HM.out)⟩
      case round =>
        obtain ⟨k, hkg, rfl, FR2, HMP⟩ := hrel
        have HK := Lib.hid hkg
        have hkl : k ≤ m.ports.length := by omega
        clear hkg
        by_cases hlt : k < m.ports.length
        · obtain ⟨p, hp⟩ : ∃ p, m.ports[k]? = some p := ⟨_, List.getElem?_eq_getElem hlt⟩
          obtain ⟨g, o, rfl, _, hr⟩ := (HM2.out.kn (KW.out _ FR2.out)).at (j := k) (c := portCells p) (by simp [hp])
          have c0 := hr 0 _ rfl
          have c1 := hr 1 _ rfl
          have c2 := hr 2 _ rfl
          have c3 := hr 3 _ rfl
          rw [Nat.add_zero] at c0
          have HP := Lib.hid hp
          clear hp hr
          have hd1 : (k : Int) < (m.ports.length : Int) := by omega
          have hd0 : (0 : Int) ≤ (k : Int) := by omega
          obtain ⟨ob, hrun, hmp⟩ := put_str Try.underlying93 (HMP.out.gr (Gr.alloc _ (.cells #[.bool p.1, .string p.2.1, .string p.2.2.1, .int .i64 p.2.2.2] 59))) p.2.1 (.bool true)
          have H2 := Lib.hid hmp
          clear hmp
          go_wp2_with fail
          go_roundg (gk - 1)
          case measure => have := HK.out; omega
          case rel => exact ⟨k + 1, by have := HK.out; omega, by go_num, Lib.hid ((FR2.out.trans (Fr.alloc _ _ _)).trans (Fr.put _ _ _)), Lib.hid (by have h := H2.out; rw [← insAll_snoc, List.append_assoc] at h; rw [take_snoc (·.2.1) HP.out]; exact h)⟩
        · obtain rfl : k = m.ports.length := by omega
          have hd1 : ¬ ((m.ports.length : Int) < (m.ports.length : Int)) := by omega
          obtain ⟨es, cl, hes, hen⟩ := HMP.out
          have hsz : es.size = (insAll [] (.bool true) (headNames m)).length := by
            have h := congrArg List.length hen
            rw [List.take_length] at h
            simpa [ents, ents', headNames] using h
          have HSZ := Lib.hid hsz
          clear hsz hen
          have hlen := len93 hes
          have hb1 : (m.params.length : Int) + (m.ports.length : Int) ≤ 1000 := by omega
          obtain ⟨a1, a2⟩ := AT.out _ FR2.out
          go_wp2_with fail
          go_ret
          refine ⟨?_, Fr.gr GW.out FR2.out (by omega)⟩
          have hh : ((headNames m).length : Int) = (m.params.length : Int) + (m.ports.length : Int) := by simp [headNames]
          rw [← heads_len (.bool true), hh, ← HSZ.out]
          rfl
end Go.Proofs.Ytjkaeabnjkhllaa
