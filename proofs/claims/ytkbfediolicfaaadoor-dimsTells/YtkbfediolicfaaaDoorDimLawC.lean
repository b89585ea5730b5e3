/-
  THE LAW DimsHangs, WALKED.
-/
import Derived.Test.YtkbfediolicfaaaDoorDimLawB
import Derived.Laws.AppendOwnNone
namespace Go.Proofs.YtkbfediolicfaaaDoor
open Go.RowKit
open DimM

/-- an append of a row that may be nil onto a row of one's own -/
theorem append_src {P : Program} (w : World) {ops : Array Oper} {rest : List Oper} {o : Oper} {a : Act} {Q : Exit → Act → World → Prop} (hgd : o.guard = none) (s x : Operand) (t : TypeId)
    (ho : o.op = .call { callee := .builtin .append, args := #[s, x], argTypes := #[t, t] })
    (base : Nat) (e : TypeId) (i : TypeInfo) (z : Value) (size bytes : Nat) (ht : P.underlying t = some (.slice e)) (hi : P.info? e = some i) (hz : i.zero = some z)
    (hsize : i.size = size) (hby : i.bytes = bytes) (hzs : z.cells.size = size) (hsz : 0 < size)
    (v : Value) (n : Nat) (xs : List Value) (hs : a.eval s = v) (hown : w.ownsRow base e size v n xs)
    (A : Option Addr) (m c : Nat) (news : List Value) (hx : a.eval x = .slice A m c) (hnil : A = none → m = 0 ∧ c = 0) (hl : news.length = m * size) (hnews : ∀ ad, A = some ad → ∀ j u, news[j]? = some u → w.cell? (ad.add j) = some u) (h1 : ∀ u ∈ news, u.oneCell' = true)
    (h63 : n + m ≤ maxLen) (hbytes : (n + m) * bytes ≤ 140737488355328) (hbase : base ≤ w.heap.size)
    (h : ∀ v' w', w'.ownsRow base e size v' (n + m) (xs ++ news) → Below base w w' → wpList P ops Q rest (a.put o.dst v') w') : wpList P ops Q (o :: rest) a w := by
  rcases A with _ | ad
  · obtain ⟨rfl, rfl⟩ := hnil rfl
    have hn0 : news = [] := List.eq_nil_of_length_eq_zero (by rw [hl]; omega)
    subst hn0
    exact wpList_append_own_none hgd s x t ho base e i size ht hi v n xs hs hown hx (h v w (by rw [List.append_nil]; exact hown) (Below.refl _ _))
  · exact wpList_append_own w hgd s x t ho base e i z size bytes ht hi hz hsize hby hzs hsz v n xs hs hown ad m c news hx hl (hnews ad rfl) h1 h63 hbytes hbase
      fun v' w' h2 h3 _ => h v' w' h2 ((Below.refl _ _).grown h3 hbase (fun k hk => (hown.lt k hk).1))

def ncells (ps : Ps) : List Value := ps.flatMap fun p => [.string p.1, .int .u16 p.2]
theorem ncells_len (ps : Ps) : (ncells ps).length = ps.length * 2 := by
  unfold ncells
  induction ps with
  | nil => rfl
  | cons p r ih => simp at ih ⊢; omega
theorem ncells_app (a b : Ps) : ncells (a ++ b) = ncells a ++ ncells b := by simp [ncells]
theorem ncells_one (ps : Ps) : ∀ u ∈ ncells ps, u.oneCell' = true := by
  intro u hu
  unfold ncells at hu
  obtain ⟨p, _, hp⟩ := List.mem_flatMap.1 hu
  simp at hp
  rcases hp with rfl | rfl <;> rfl
theorem ncells_at (ps : Ps) (i : Nat) (p : ByteArray × Int) (h : ps[i]? = some p) : (ncells ps)[i * 2]? = some (.string p.1) ∧ (ncells ps)[i * 2 + 1]? = some (.int .u16 p.2) := by
  induction ps generalizing i with
  | nil => simp at h
  | cons q r ih =>
    have e : ncells (q :: r) = [.string q.1, .int .u16 q.2] ++ ncells r := rfl
    rw [e]
    cases i with
    | zero => simp at h; subst h; exact ⟨rfl, rfl⟩
    | succ i =>
      have := ih i (by simpa using h)
      rw [List.getElem?_append_right (by simp; omega), List.getElem?_append_right (by simp; omega)]
      rw [show (i + 1) * 2 - [Value.string q.1, Value.int .u16 q.2].length = i * 2 by simp; omega, show (i + 1) * 2 + 1 - [Value.string q.1, Value.int .u16 q.2].length = i * 2 + 1 by simp; omega]
      exact this
theorem nmd_of_own {w : World} {base n : Nat} {v : Value} {ps : Ps} (h : w.ownsRow base 41 2 v n (ncells ps)) (hn : ps.length = n) : ∃ A c, v = .slice A n c ∧ Nmd w w.heap.size A ps := by
  rcases h.2 with ⟨rfl, h0⟩ | ⟨g, cap, cur, rfl, hb, hh, hn', hc, hsz, ht⟩
  · refine ⟨none, 0, by rw [h0], ?_⟩
    intro i t hi
    rw [List.eq_nil_of_length_eq_zero (hn.trans h0)] at hi
    simp at hi
  · refine ⟨some ⟨g, 0, none⟩, cap, rfl, ?_⟩
    intro i p hi
    have hil : i < n := by have := (List.getElem?_eq_some_iff.1 hi).1; omega
    obtain ⟨h1, h2⟩ := ncells_at ps i p hi
    rw [← ht, List.getElem?_take_of_lt (by omega)] at h1 h2
    refine ⟨g, 0, rfl, heap_lt hh, ?_, ?_⟩
    · rw [cellAt hh]; simpa using h1
    · rw [cellAt hh]; simpa using h2
theorem nmd_news {w : World} {B : Nat} {A : Option Addr} {ps : Ps} (h : Nmd w B A ps) : ∀ ad, A = some ad → ∀ j u, (ncells ps)[j]? = some u → w.cell? (ad.add j) = some u := by
  intro ad hA j u hj
  have hjl : j < ps.length * 2 := by have := (List.getElem?_eq_some_iff.1 hj).1; rw [ncells_len] at this; exact this
  have hi : j / 2 < ps.length := by omega
  have hsome : ps[j / 2]? = some ps[j / 2] := List.getElem?_eq_getElem hi
  obtain ⟨b, off, e, _, c0, c1⟩ := h _ _ hsome
  rw [hA] at e
  obtain rfl := Option.some.inj e
  have hadd : (⟨b, off, none⟩ : Addr).add j = ⟨b, off + j, none⟩ := by
    by_cases hq : j = 0
    · subst hq; rfl
    · simp [Addr.add, hq]
  obtain ⟨h1, h2⟩ := ncells_at ps _ _ hsome
  rw [hadd]
  rcases Nat.mod_two_eq_zero_or_one j with hm | hm
  · have hj2 : j / 2 * 2 = j := by omega
    rw [hj2] at h1 c0
    rw [c0, ← hj, h1]
  · have hj2 : j / 2 * 2 + 1 = j := by omega
    rw [show off + j / 2 * 2 + 1 = off + j by omega] at c1
    rw [hj2] at h2
    rw [c1, ← hj, h2]

theorem nil_len {w : World} {B : Nat} {A : Option Addr} {ps : Ps} (h : Nmd w B A ps) (hA : A = none) : ps.length = 0 := by
  rcases ps with _ | ⟨p, r⟩
  · rfl
  · obtain ⟨b, off, e, _⟩ := h 0 p rfl
    rw [hA] at e
    cases e
def EnvGot (w : World) (ps : Ps) (k : Nat) (e : Ending) (w' : World) : Prop := ∃ A1 c1 A2 c2, e = .returned (.tuple #[.slice A1 k c1, .slice A2 k c2]) ∧ EnvAt w' A1 A2 ps ∧ Below w.heap.size w w'
theorem Env_is {A : Option Addr} {c k : Nat} {ps : Ps} {w : World} (hd : ps.length ≤ 1000) (hk : ps.length = k) (hD : Nmd w w.heap.size A ps) (hl : Fine ps) :
    Calls Tryd.prog 11 #[.slice A k c] w (EnvGot w ps k) := by
  subst hk; exact Env_any A c ps w hd (Lib.hid hD) (Lib.hid hl)

/-- is one of that name? -/
def hasB (s : ByteArray) (l : Ps) : Bool := l.any fun p => decide (p.1 = s)
theorem hasB_step {s : ByteArray} {l : Ps} {k : Nat} {p : ByteArray × Int} (h : l[k]? = some p) : hasB s (l.take (k + 1)) = (hasB s (l.take k) || decide (p.1 = s)) := by
  unfold hasB
  rw [List.take_add_one, h]
  simp
theorem hasB_look (s : ByteArray) (l more : Ps) : (hasB s l = false → DimM.look s l = none) ∧ (hasB s l = true → DimM.look s (l ++ more) = DimM.look s l) := by
  induction l with
  | nil => exact ⟨fun _ => rfl, fun h => by simp [hasB] at h⟩
  | cons p r ih =>
    have e : hasB s (p :: r) = (decide (p.1 = s) || hasB s r) := rfl
    rw [e]
    by_cases hp : p.1 = s
    · simp [DimM.look, hp]
    · simpa [DimM.look, hp] using ih

/-- what the walk keeps -/
def Hk (w0 : World) (s : ByteArray) (n : Int) (A B : Option Addr) (ps more : Ps) (w : World) : Prop :=
  Sta w0 w ∧ Nmd w w.heap.size A ps ∧ Nmd w w.heap.size B more ∧ w0.heap.size < w.heap.size ∧ w.cell? ⟨w0.heap.size, 0, none⟩ = some (.string s) ∧ w.cell? ⟨w0.heap.size, 1, none⟩ = some (.int .i64 n)
theorem Hk.step {w0 w w' : World} {s : ByteArray} {n : Int} {A B : Option Addr} {ps more : Ps} (h : Hk w0 s n A B ps more w) (hb : Below w.heap.size w w') : Hk w0 s n A B ps more w' := by
  obtain ⟨h1, h2, h3, h4, h5, h6⟩ := h
  have := hb.size
  exact ⟨h1.step hb, (h2.below hb).more hb.size, (h3.below hb).more hb.size, by omega, (hb.cell (p := ⟨w0.heap.size, 0, none⟩) h4).trans h5, (hb.cell (p := ⟨w0.heap.size, 1, none⟩) h4).trans h6⟩
theorem info41 : (Tryd.prog.info? 41).map (fun i => (i.zero, i.size, i.bytes)) = some (some (.agg #[.string ⟨#[]⟩, .int .u16 0]), 2, 24) := by kernel_rfl
theorem own_empty (w : World) (base : Nat) (hb : base ≤ w.heap.size) : (w.alloc (.cells #[] 41)).ownsRow base 41 2 (.slice (some ⟨w.heap.size, 0, none⟩) 0 0) 0 (ncells []) :=
  ⟨rfl, .inr ⟨w.heap.size, 0, #[], rfl, hb, by show (w.heap.push _)[w.heap.size]? = _; simp, Nat.le_refl _, Nat.zero_le _, rfl, rfl⟩⟩
theorem fine_app {a b : Ps} (ha : Fine a) (hb : Fine b) : Fine (a ++ b) := by
  intro p hp
  rcases List.mem_append.1 hp with h | h
  · exact ha p h
  · exact hb p h
set_option maxRecDepth 100000 in
set_option maxHeartbeats 2000000 in
theorem hangs_walk (s : ByteArray) (n : Int) (A : Option Addr) (len c : Nat) (ps : Ps) (B : Option Addr) (len2 c' : Nat) (more : Ps) (w : World) (hnA : A = none → c = 0) (hnB : B = none → c' = 0) (hl : ps.length = len) (hm : len ≤ maxLen) (hP : Hid (Nmd w w.heap.size A ps)) (hF : Hid (Fine ps)) (hl2 : more.length = len2) (hm2 : len2 ≤ maxLen) (hP2 : Hid (Nmd w w.heap.size B more)) (hF2 : Hid (Fine more)) (hg : Hid (ErrTy w)) :
    Calls Tryd.prog 5 #[.agg #[.string s, .int .i64 n], .slice A len c, .slice B len2 c'] w fun e w' => e = .returned (.bool true) ∧ Below w.heap.size w w' := by
  subst hl hl2
  unfold maxLen at hm hm2
  have HNA := Lib.hid hnA
  have HNB := Lib.hid hnB
  clear hnA hnB
  have hb0 : Below w.heap.size w (w.alloc (.cells #[.string s, .int .i64 n] 23)) := (Below.refl _ _).alloc (Nat.le_refl _) _
  have K0 : Hid (Hk w s n A B ps more (w.alloc (.cells #[.string s, .int .i64 n] 23))) := Lib.hid ⟨Sta.step (Sta.refl hg.out) hb0, (hP.out.below hb0).more hb0.size, (hP2.out.below hb0).more hb0.size, by simp, by simp, by simp⟩
  clear hb0
  by_cases hlen : 100 < ps.length
  · go_enter Tryd.func5, Tryd.ntmps5
    go_wp2_with fail
    refine (head_any _ (Lib.hid K0.out.1.2)).mono ?_
    rintro e w1 ⟨rfl, hb⟩
    have K1 := Lib.hid (K0.out.step hb)
    clear hb
    go_wp2
    go_ret
    exact ⟨rfl, K1.out.1.1⟩
  by_cases hlen2 : 100 < more.length
  · go_enter Tryd.func5, Tryd.ntmps5
    go_wp2_with fail
    refine (head_any _ (Lib.hid K0.out.1.2)).mono ?_
    rintro e w1 ⟨rfl, hb⟩
    have K1 := Lib.hid (K0.out.step hb)
    clear hb
    go_wp2
    go_ret
    exact ⟨rfl, K1.out.1.1⟩
  obtain ⟨i0, hi, hz0, hz1, hz2⟩ := info_parts info41
  have HI := Lib.hid (And.intro hi (And.intro hz0 (And.intro hz1 hz2)))
  clear hi hz0 hz1 hz2
  go_enter Tryd.func5, Tryd.ntmps5
  go_wp2_with fail
  refine (head_any _ (Lib.hid K0.out.1.2)).mono ?_
  rintro e w1 ⟨rfl, hb⟩
  have K1 := Lib.hid (K0.out.step hb)
  clear hb
  go_wp2_with fail
  refine (Env_any A c ps w1 (by omega) (Lib.hid K1.out.2.1) hF).mono ?_
  rintro e w2 ⟨A1, c1, A2, c2, rfl, hE, hb⟩
  have K2 := Lib.hid (K1.out.step hb)
  have E2 := Lib.hid hE
  clear hb hE
  obtain ⟨_, _, _, _, d0, d1⟩ := K2.out
  rcases hv : val s n ps with ⟨x, ev⟩
  have HV := Lib.hid hv
  clear hv
  go_wp2_with fail
  refine (Value_is E2.out K2.out.1.2 rfl HV.out).mono ?_
  rintro e w3 ⟨rfl, hb⟩
  have K3 := Lib.hid (K2.out.step hb)
  clear hb d0 d1
  go_wp2_with fail
  go_loopg [12, 13] ps.length (fun g hv i wr => ∃ (k : Nat) (h : Bool), k + g = ps.length ∧ hv = .bool h ∧ i = .int .i64 k ∧ Hid (hasB s (ps.take k) = h) ∧ Hid (Hk w s n A B ps more wr))
  case atStart => exact ⟨0, false, by omega, rfl, rfl, Lib.hid rfl, K3⟩
  case round =>
    obtain ⟨k, h, hkg, rfl, rfl, HH, KR⟩ := hrel
    have HK := Lib.hid hkg
    have hkl : k ≤ ps.length := by omega
    clear hkg
    obtain ⟨_, kr2, _, _, d0, d1⟩ := KR.out
    by_cases hlt : k < ps.length
    · have hsome : ps[k]? = some ps[k] := List.getElem?_eq_getElem hlt
      have HS := Lib.hid hsome
      obtain ⟨b, off, rfl, hbl, c0, c1⟩ := kr2 k _ hsome
      clear hsome kr2
      generalize ps[k] = d at HS c0 c1
      obtain ⟨t, m⟩ := d
      simp only at c0 c1
      have hi1 : (k : Int) < (ps.length : Int) := by omega
      have hi0 : (0 : Int) ≤ (k : Int) := by omega
      rcases h with _ | _
      · by_cases hts : t = s
        · subst hts
          have h3 := toList_eq t
          go_wp2
          go_quiet (fail)
          go_wp2
          go_roundg (gk - 1)
          case measure => have := HK.out; omega
          case rel => exact ⟨k + 1, true, by have := HK.out; omega, rfl, by go_num, Lib.hid (by rw [hasB_step HS.out]; simp), Lib.hid (KR.out.step (below_drewN (Below.refl _ _) _))⟩
        · have h3 := toList_ne hts
          go_wp2
          go_quiet (fail)
          go_wp2
          go_roundg (gk - 1)
          case measure => have := HK.out; omega
          case rel => exact ⟨k + 1, false, by have := HK.out; omega, rfl, by go_num, Lib.hid (by rw [hasB_step HS.out, HH.out]; simp [hts]), Lib.hid (KR.out.step (below_drewN (Below.refl _ _) _))⟩
      · go_wp2
        go_quiet (fail)
        go_wp2
        go_roundg (gk - 1)
        case measure => have := HK.out; omega
        case rel => exact ⟨k + 1, true, by have := HK.out; omega, rfl, by go_num, Lib.hid (by rw [hasB_step HS.out, HH.out]; simp), Lib.hid (KR.out.step (below_drewN (Below.refl _ _) _))⟩
    · have hh := HH.out
      rw [List.take_of_length_le (by omega)] at hh
      have HH2 := Lib.hid hh
      clear hh HH
      have hcases : (h = false ∧ s.data ≠ #[] ∧ x = 0 ∧ ev = 40) ∨ ((h = true ∨ (h = false ∧ s.data = #[])) ∧ val s n (ps ++ more) = (x, ev)) := by
        rcases h with _ | _
        · by_cases hs : s.data = #[]
          · right
            refine ⟨.inr ⟨rfl, hs⟩, ?_⟩
            rw [← HV.out]
            unfold val adds
            simp [hs]
          · left
            have h1 : val s n ps = (0, 40) := by unfold val adds; rw [if_neg hs, (hasB_look s ps []).1 HH2.out]
            have h2 := HV.out.symm.trans h1
            exact ⟨rfl, hs, congrArg Prod.fst h2, congrArg Prod.snd h2⟩
        · right
          refine ⟨.inl rfl, ?_⟩
          rw [← HV.out]
          unfold val adds
          rw [(hasB_look s ps more).2 HH2.out]
      rcases hcases with ⟨rfl, hs, rfl, rfl⟩ | ⟨hcont, hv2⟩
      · have hs2 := str_full hs
        have HSS := Lib.hid hs
        clear hs kr2
        go_wp2
        go_ret
        exact ⟨rfl, KR.out.1.1⟩
      · have HV2 := Lib.hid hv2
        clear hv2 kr2
        have hxx : (x == x) = true := by simp
        have hee : (ev == ev) = true := by simp
        have hlate : ∀ (hh : Bool), (hh = true ∨ (hh = false ∧ s.toList.isEmpty = true)) → Hid (hh = h) → True := fun _ _ _ => trivial
        clear hlate
        rcases hcont with rfl | ⟨rfl, hs⟩
        all_goals try (have hs2 : s.toList.isEmpty = true := (by rw [str_empty hs]; rfl))
        all_goals try (have HSS := Lib.hid hs; clear hs)
        all_goals
          go_wp2_with (first
            | (at_builtin; refine append_src w4 rfl _ _ 25 rfl wr.heap.size 41 i0 (.agg #[.string ⟨#[]⟩, .int .u16 0]) 2 24 Tryd.underlying25 HI.out.1 HI.out.2.1 HI.out.2.2.1 HI.out.2.2.2 rfl (by decide) v1 (0 + ps.length) (ncells [] ++ ncells ps) rfl O1.out B more.length c' (ncells more) rfl (fun hB => ⟨nil_len K4.out.2.2.1 hB, HNB.out hB⟩) (ncells_len more) (nmd_news K4.out.2.2.1) (ncells_one more) (by unfold maxLen; omega) (by omega) B4.out.size ?_; intro v2 w5 hown2 hb2; have O2 := Lib.hid hown2; have B5 := Lib.hid (B4.out.trans hb2); have K5 := Lib.hid (KR.out.step B5.out); obtain ⟨A5, c5, e5, N5⟩ := nmd_of_own (ps := ps ++ more) (n := 0 + ps.length + more.length) (by rw [ncells_app]; exact O2.out) (by simp); subst e5; have HN5 := Lib.hid N5; clear hown2 hb2 N5)
            | (at_builtin; refine append_src _ rfl _ _ 25 rfl wr.heap.size 41 i0 (.agg #[.string ⟨#[]⟩, .int .u16 0]) 2 24 Tryd.underlying25 HI.out.1 HI.out.2.1 HI.out.2.2.1 HI.out.2.2.2 rfl (by decide) (.slice (some ⟨wr.heap.size, 0, none⟩) 0 0) 0 (ncells []) rfl (own_empty wr wr.heap.size (Nat.le_refl _)) A ps.length c (ncells ps) rfl (fun hA => ⟨nil_len KR.out.2.1 hA, HNA.out hA⟩) (ncells_len ps) (nmd_news ((KR.out.2.1).below ((Below.refl _ _).alloc (Nat.le_refl _) _))) (ncells_one ps) (by unfold maxLen; omega) (by omega) (by simp) ?_; intro v1 w4 hown1 hb1; have O1 := Lib.hid hown1; have B4 := Lib.hid (((Below.refl wr.heap.size wr).alloc (Nat.le_refl _) (.cells #[] 41)).trans hb1); have K4 := Lib.hid (KR.out.step B4.out); clear hown1 hb1)
            | (go_at_call 11; refine (Env_is (ps := ps ++ more) (by simp; omega) (by simp <;> omega) HN5.out (fine_app hF.out hF2.out)).mono ?_; rintro e w6 ⟨A3, c3, A4, c4, rfl, hE, hb⟩; have K6 := Lib.hid (K5.out.step hb); have E6 := Lib.hid hE; obtain ⟨_, _, _, _, f0, f1⟩ := K6.out; clear hb hE)
            | (go_at_call 12; refine (Value_is E6.out K6.out.1.2 (by simp <;> omega) HV2.out).mono ?_; rintro e w7 ⟨rfl, hb⟩; have K7 := Lib.hid (K6.out.step hb); clear hb))
          go_ret
          exact ⟨rfl, K7.out.1.1⟩
end Go.Proofs.YtkbfediolicfaaaDoor
