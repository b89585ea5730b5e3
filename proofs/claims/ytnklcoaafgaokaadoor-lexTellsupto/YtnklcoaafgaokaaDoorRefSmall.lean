/-
  proofmarkref01's SMALL FUNCTIONS, WALKED: begins, word, number, Signs, one.
-/
import Derived.Test.YtnklcoaafgaokaaDoorPlacesWalk
namespace Go.Proofs.YtnklcoaafgaokaaDoor
open Go.RowKit

set_option maxHeartbeats 400000 in
theorem begins_at (s p : ByteArray) (k : Nat) (b : Bool) (w : World) (hs : s.size ≤ 20000) (hp : p.size ≤ 20000) (hk : k ≤ s.size) (h : LexM.pre p.data.toList (s.data.toList.drop k) = b) :
    Calls Tryd.prog 29 #[.string s, .int .i64 (k : Int), .string p] w fun e w' => e = .returned (.bool b) ∧ w = w' := by
  have H := Lib.hid h
  clear h
  by_cases hle : k + p.size ≤ s.size
  · have g1 : decide ((k : Int) + (p.size : Int) ≤ (s.size : Int)) = true := by simp; omega
    go_enter Tryd.func29, Tryd.ntmps29
    go_wp2
    go_ret
    refine ⟨ret_bool ?_, rfl⟩
    rw [← H.out, Lib.extract_toList, Lib.toList_data, Nat.add_sub_cancel_left, Lib.size_eq p]
    have := prefix_take p.data.toList (s.data.toList.drop k)
    rw [List.drop_zero, Nat.sub_zero] at this
    exact this.symm
  · have g1 : decide ((k : Int) + (p.size : Int) ≤ (s.size : Int)) = false := by simp; omega
    go_enter Tryd.func29, Tryd.ntmps29
    go_wp2
    go_ret
    refine ⟨ret_bool ?_, rfl⟩
    rw [← H.out]
    exact (prefix_long _ _ (by rw [List.length_drop, ← Lib.size_eq, ← Lib.size_eq]; omega)).symm

set_option maxHeartbeats 800000 in
theorem word_any (s : ByteArray) (a : Nat) (w : World) (hs : s.size ≤ maxLen) (ha : a ≤ s.size) :
    Calls Tryd.prog 35 #[.string s, .int .i64 (a : Int)] w fun e w' => e = .returned (.int .i64 (LexM.endAt LexM.isWd s.data.toList a : Nat)) ∧ w = w' := by
  unfold maxLen at hs
  go_enter Tryd.func35, Tryd.ntmps35
  go_wp2
  go_loop [1] (fun i => ∃ k : Nat, k ≤ s.size ∧ i = .int .i64 k ∧ Hid (LexM.endAt LexM.isWd s.data.toList k = LexM.endAt LexM.isWd s.data.toList a)) (fun i => s.size - (intOf i).toNat)
  case atStart => exact ⟨a, ha, rfl, Lib.hid rfl⟩
  case round =>
    obtain ⟨k, hk, rfl, H⟩ := hrel
    by_cases hlt : k < s.size
    · have hl : k < s.data.toList.length := by rw [← Lib.size_eq]; exact hlt
      have hget : s.data.toList[k] = s[k] := rfl
      have HG := Lib.hid hget
      clear hget
      by_cases h1 : LexM.isLt s[k] = true
      · have HY := Lib.hid (LexM.endAt_step (p := LexM.isWd) hl (by rw [HG.out]; unfold LexM.isWd; rw [h1]; rfl))
        go_wp2_with (first | (go_at_call 18; refine (Letter_any _ _).mono ?_; rintro e w' ⟨rfl, rfl⟩) | (go_at_call 19; refine (Digit_any _ _).mono ?_; rintro e w' ⟨rfl, rfl⟩))
        go_round
        case rel => exact ⟨k + 1, by omega, by go_num, Lib.hid (HY.out.trans H.out)⟩
        case measure => simp [intOf]; omega
      · have h1f : LexM.isLt s[k] = false := by simpa using h1
        clear h1
        by_cases h2 : LexM.isDg s[k] = true
        · have HY := Lib.hid (LexM.endAt_step (p := LexM.isWd) hl (by rw [HG.out]; unfold LexM.isWd; rw [h1f, h2]; rfl))
          go_wp2_with (first | (go_at_call 18; refine (Letter_any _ _).mono ?_; rintro e w' ⟨rfl, rfl⟩) | (go_at_call 19; refine (Digit_any _ _).mono ?_; rintro e w' ⟨rfl, rfl⟩))
          go_round
          case rel => exact ⟨k + 1, by omega, by go_num, Lib.hid (HY.out.trans H.out)⟩
          case measure => simp [intOf]; omega
        · have h2f : LexM.isDg s[k] = false := by simpa using h2
          clear h2
          have HN := Lib.hid (LexM.endAt_stop (p := LexM.isWd) hl (by rw [HG.out]; unfold LexM.isWd; rw [h1f, h2f]; rfl))
          go_wp2_with (first | (go_at_call 18; refine (Letter_any _ _).mono ?_; rintro e w' ⟨rfl, rfl⟩) | (go_at_call 19; refine (Digit_any _ _).mono ?_; rintro e w' ⟨rfl, rfl⟩))
          go_ret
          exact ⟨ret_int (by rw [← H.out, HN.out]), rfl⟩
    · go_wp2
      go_ret
      exact ⟨ret_int (by rw [← H.out, LexM.endAt_end (by rw [← Lib.size_eq]; omega)]), rfl⟩

/-- a token by value, and whether there is one -/
def tokV (kd : Int) (text : List UInt8) (n k : Int) : Value := .tuple #[.agg #[.int .i64 kd, .string (str text), .int .i64 n, .int .i64 k], .bool true]
def noTok : Value := .tuple #[.agg #[.int .i64 0, .string ⟨#[]⟩, .int .i64 0, .int .i64 0], .bool false]
def numTok (o : Option Nat) (text : List UInt8) (k : Nat) : Value :=
  match o with
  | some n => tokV 2 text n k
  | none => noTok
def GotV (w : World) (v : Value) (e : Ending) (w' : World) : Prop := e = .returned v ∧ Below w.heap.size w w'

/-- how far 'number' has come: either all is well, or the number is past its bound -/
def SatAt (l : List UInt8) (k j E m : Nat) : Prop :=
  LexM.endAt LexM.isDg l j = E ∧ ((m ≤ 65535 ∧ LexM.numTo m ((l.drop j).take (E - j)) = LexM.numTo 0 ((l.drop k).take (E - k))) ∨ (65535 < m ∧ LexM.numTo 0 ((l.drop k).take (E - k)) = none))
theorem sat_start {l : List UInt8} {k : Nat} : SatAt l k k (LexM.endAt LexM.isDg l k) 0 := ⟨rfl, .inl ⟨by omega, rfl⟩⟩
theorem sat_step {l : List UInt8} {k j E m : Nat} (h : SatAt l k j E m) (hj : j < l.length) (hd : LexM.isDg l[j] = true) (hm : m ≤ 65535) : SatAt l k (j + 1) E (10 * m + (l[j].toNat - 48)) := by
  obtain ⟨h1, h2⟩ := h
  have h1' := (LexM.endAt_step hj hd).trans h1
  have hle := (LexM.endAt_le (p := LexM.isDg) (l := l) (k := j + 1) (by omega)).1
  rw [h1'] at hle
  rcases h2 with ⟨_, h2⟩ | ⟨h2, _⟩
  · have e : (l.drop j).take (E - j) = l[j] :: (l.drop (j + 1)).take (E - (j + 1)) := by
      rw [List.drop_eq_getElem_cons hj, show E - j = (E - (j + 1)) + 1 from by omega, List.take_succ_cons]
    rw [e, LexM.numTo] at h2
    refine ⟨h1', ?_⟩
    by_cases hb : 65535 < 10 * m + (l[j].toNat - 48)
    · rw [if_pos hb] at h2
      exact .inr ⟨hb, h2.symm⟩
    · rw [if_neg hb] at h2
      exact .inl ⟨by omega, h2⟩
  · omega
theorem sat_stay {l : List UInt8} {k j E m : Nat} (h : SatAt l k j E m) (hj : j < l.length) (hd : LexM.isDg l[j] = true) (hm : 65535 < m) : SatAt l k (j + 1) E m := by
  obtain ⟨h1, h2⟩ := h
  refine ⟨(LexM.endAt_step hj hd).trans h1, ?_⟩
  rcases h2 with ⟨h2, _⟩ | h2
  · omega
  · exact .inr h2
theorem sat_end {l : List UInt8} {k E m : Nat} (h : SatAt l k E E m) : (m ≤ 65535 ∧ LexM.numTo 0 ((l.drop k).take (E - k)) = some m) ∨ (65535 < m ∧ LexM.numTo 0 ((l.drop k).take (E - k)) = none) := by
  rcases h.2 with ⟨a, b⟩ | h2
  · rw [Nat.sub_self, List.take_zero, LexM.numTo] at b
    exact .inl ⟨a, b.symm⟩
  · exact .inr h2

theorem num_of_sat_big {l : List UInt8} {k E : Nat} (h : LexM.numTo 0 ((l.drop k).take (E - k)) = none) : LexM.num ((l.drop k).take (E - k)) = none := by
  unfold LexM.num
  split
  · rfl
  · exact h
theorem cut_len {l : List UInt8} {k E : Nat} (hE : E ≤ l.length) : ((l.drop k).take (E - k)).length = E - k := by rw [List.length_take, List.length_drop]; omega
theorem cut_head {l : List UInt8} {k E : Nat} (hk : k < l.length) (hE : k < E) : ((l.drop k).take (E - k)).head? = some l[k] := by
  rw [List.drop_eq_getElem_cons hk, show E - k = (E - (k + 1)) + 1 from by omega, List.take_succ_cons]
  rfl
theorem num_of_lead {l : List UInt8} {k E : Nat} (hk : k < l.length) (hE : E ≤ l.length) (h1 : k + 1 < E) (h2 : l[k] = 48) : LexM.num ((l.drop k).take (E - k)) = none := by
  unfold LexM.num
  rw [if_pos ⟨by rw [cut_len hE]; omega, by rw [cut_head hk (by omega), h2]⟩]
theorem num_of_ok {l : List UInt8} {k E m : Nat} (hk : k < l.length) (hE : E ≤ l.length) (h : LexM.numTo 0 ((l.drop k).take (E - k)) = some m) (h2 : ¬ (k + 1 < E ∧ l[k] = 48)) : LexM.num ((l.drop k).take (E - k)) = some m := by
  unfold LexM.num
  rw [if_neg ?_, h]
  rintro ⟨a, b⟩
  rw [cut_len hE] at a
  rw [cut_head hk (by omega)] at b
  exact h2 ⟨by omega, Option.some.inj b⟩

theorem num_ends {s : ByteArray} {k j E m : Nat} (hk : k < s.size) (hj : j ≤ s.size) (hjE : j = E) (h : SatAt s.data.toList k j E m) :
    (decide ((65535 : Int) < (m : Int)) = true ∧ LexM.num ((s.data.toList.drop k).take (E - k)) = none) ∨
    (decide ((65535 : Int) < (m : Int)) = false ∧ decide ((k : Int) + 1 < (j : Int)) = true ∧ ((s[k].toNat : Int) == 48) = true ∧ LexM.num ((s.data.toList.drop k).take (E - k)) = none) ∨
    (decide ((65535 : Int) < (m : Int)) = false ∧ decide ((k : Int) + 1 < (j : Int)) = false ∧ LexM.num ((s.data.toList.drop k).take (E - k)) = some m) ∨
    (decide ((65535 : Int) < (m : Int)) = false ∧ decide ((k : Int) + 1 < (j : Int)) = true ∧ ((s[k].toNat : Int) == 48) = false ∧ LexM.num ((s.data.toList.drop k).take (E - k)) = some m) := by
  subst hjE
  have hkl : k < s.data.toList.length := by rw [← Lib.size_eq]; exact hk
  have hjl : j ≤ s.data.toList.length := by rw [← Lib.size_eq]; exact hj
  have hb := u8_beq s[k] 48 (by omega)
  rcases sat_end h with ⟨h1, h2⟩ | ⟨h1, h2⟩
  · have g1 : decide ((65535 : Int) < (m : Int)) = false := by simp; omega
    by_cases hkj : k + 1 < j
    · have g2 : decide ((k : Int) + 1 < (j : Int)) = true := by simp; omega
      by_cases h48 : s[k] = 48
      · exact .inr (.inl ⟨g1, g2, hb.symm.trans (by rw [h48]; rfl), num_of_lead hkl hjl hkj h48⟩)
      · exact .inr (.inr (.inr ⟨g1, g2, hb.symm.trans (by simpa using h48), num_of_ok hkl hjl h2 (fun x => h48 x.2)⟩))
    · exact .inr (.inr (.inl ⟨g1, by simp; omega, num_of_ok hkl hjl h2 (fun x => hkj x.1)⟩))
  · exact .inl ⟨by simp; omega, num_of_sat_big h2⟩

set_option maxRecDepth 100000 in
set_option maxHeartbeats 1000000 in
theorem refNumber_any (s : ByteArray) (k : Nat) (w : World) (hs : s.size ≤ 20000) (hk : k < s.size) :
    Calls Tryd.prog 36 #[.string s, .int .i64 (k : Int)] w (GotV w (numTok (LexM.num ((s.data.toList.drop k).take (LexM.endAt LexM.isDg s.data.toList k - k))) ((s.data.toList.drop k).take (LexM.endAt LexM.isDg s.data.toList k - k)) k)) := by
  have hkl : k < s.data.toList.length := by rw [← Lib.size_eq]; exact hk
  have hEl := LexM.endAt_le (p := LexM.isDg) (Nat.le_of_lt hkl)
  rw [← Lib.size_eq] at hEl
  have hst := sat_start (l := s.data.toList) (k := k)
  generalize LexM.endAt LexM.isDg s.data.toList k = E at hEl hst
  have HSt := Lib.hid hst
  clear hst
  go_enter Tryd.func36, Tryd.ntmps36
  go_wp2
  go_loopg [6, 7] (s.size - k) (fun g en n wr => ∃ j m : Nat, j + g = s.size ∧ k ≤ j ∧ m ≤ 655359 ∧ en = .int .i64 j ∧ n = .int .i64 m ∧ Hid (SatAt s.data.toList k j E m) ∧ w.alloc (.cells #[.int .i64 0, .string ⟨#[]⟩, .int .i64 0, .int .i64 0] 33) = wr)
  case atStart => exact ⟨k, 0, by omega, by omega, by omega, rfl, rfl, HSt, rfl⟩
  case round =>
    obtain ⟨j, m, hjg, hkj, hm, rfl, rfl, H, rfl⟩ := hrel
    have HG := Lib.hid hjg
    clear hjg
    by_cases hlt : j < s.size
    · have hl : j < s.data.toList.length := by rw [← Lib.size_eq]; exact hlt
      by_cases hd : LexM.isDg s[j] = true
      · obtain ⟨hb1, hb2⟩ := digit_bd hd
        by_cases hm2 : m ≤ 65535
        · have HY := Lib.hid (sat_step H.out hl hd hm2)
          go_wp2_with (go_at_call 19; refine (Digit_any _ _).mono ?_; rintro e w' ⟨rfl, rfl⟩)
          go_roundg (gk - 1)
          case measure => have := HG.out; omega
          case rel => exact ⟨j + 1, 10 * m + (s[j].toNat - 48), by have := HG.out; omega, by omega, by omega, by go_num, congrArg (Value.int .i64) (by omega), HY, rfl⟩
        · have HY := Lib.hid (sat_stay H.out hl hd (by omega))
          go_wp2_with (go_at_call 19; refine (Digit_any _ _).mono ?_; rintro e w' ⟨rfl, rfl⟩)
          go_roundg (gk - 1)
          case measure => have := HG.out; omega
          case rel => exact ⟨j + 1, m, by have := HG.out; omega, by omega, by omega, by go_num, rfl, HY, rfl⟩
      · have hdf : LexM.isDg s[j] = false := by simpa using hd
        clear hd
        have hjE : j = E := (LexM.endAt_stop hl hdf).symm.trans H.out.1
        have hcs := num_ends hk (Nat.le_of_lt hlt) hjE H.out
        have HE := Lib.hid hjE
        clear hjE
        rcases hcs with ⟨g1, hn⟩ | ⟨g1, g2, g3, hn⟩ | ⟨g1, g2, hn⟩ | ⟨g1, g2, g3, hn⟩
        · have HN := Lib.hid hn
          clear hn
          go_wp2_with (go_at_call 19; refine (Digit_any _ _).mono ?_; rintro e w' ⟨rfl, rfl⟩)
          exact bodyPost_ret (v := noTok) (by simp [results, Tryd.results36, go_sem, noTok]) rfl ⟨by rw [HN.out]; rfl, (Below.refl _ _).alloc (Nat.le_refl _) _⟩
        · have HN := Lib.hid hn
          clear hn
          go_wp2_with (go_at_call 19; refine (Digit_any _ _).mono ?_; rintro e w' ⟨rfl, rfl⟩)
          exact bodyPost_ret (v := noTok) (by simp [results, Tryd.results36, go_sem, noTok]) rfl ⟨by rw [HN.out]; rfl, (Below.refl _ _).alloc (Nat.le_refl _) _⟩
        · have HN := Lib.hid hn
          clear hn
          go_wp2_with (go_at_call 19; refine (Digit_any _ _).mono ?_; rintro e w' ⟨rfl, rfl⟩)
          refine bodyPost_ret (v := .tuple #[.agg #[.int .i64 2, .string (s.extract k j), .int .i64 (m : Int), .int .i64 (k : Int)], .bool true]) (by simp [results, Tryd.results36, go_sem]) rfl ⟨?_, (Below.refl _ _).alloc (Nat.le_refl _) _⟩
          rw [HN.out, text_at, HE.out]; rfl
        · have HN := Lib.hid hn
          clear hn
          go_wp2_with (go_at_call 19; refine (Digit_any _ _).mono ?_; rintro e w' ⟨rfl, rfl⟩)
          refine bodyPost_ret (v := .tuple #[.agg #[.int .i64 2, .string (s.extract k j), .int .i64 (m : Int), .int .i64 (k : Int)], .bool true]) (by simp [results, Tryd.results36, go_sem]) rfl ⟨?_, (Below.refl _ _).alloc (Nat.le_refl _) _⟩
          rw [HN.out, text_at, HE.out]; rfl
    · have hjE : j = E := (LexM.endAt_end (by rw [← Lib.size_eq]; omega)).symm.trans H.out.1
      have hjs : j ≤ s.size := by have := HG.out; omega
      have hcs := num_ends hk hjs hjE H.out
      have HE := Lib.hid hjE
      clear hjE
      rcases hcs with ⟨g1, hn⟩ | ⟨g1, g2, g3, hn⟩ | ⟨g1, g2, hn⟩ | ⟨g1, g2, g3, hn⟩
      · have HN := Lib.hid hn
        clear hn
        go_wp2
        exact bodyPost_ret (v := noTok) (by simp [results, Tryd.results36, go_sem, noTok]) rfl ⟨by rw [HN.out]; rfl, (Below.refl _ _).alloc (Nat.le_refl _) _⟩
      · have HN := Lib.hid hn
        clear hn
        go_wp2
        exact bodyPost_ret (v := noTok) (by simp [results, Tryd.results36, go_sem, noTok]) rfl ⟨by rw [HN.out]; rfl, (Below.refl _ _).alloc (Nat.le_refl _) _⟩
      · have HN := Lib.hid hn
        clear hn
        go_wp2
        refine bodyPost_ret (v := .tuple #[.agg #[.int .i64 2, .string (s.extract k j), .int .i64 (m : Int), .int .i64 (k : Int)], .bool true]) (by simp [results, Tryd.results36, go_sem]) rfl ⟨?_, (Below.refl _ _).alloc (Nat.le_refl _) _⟩
        rw [HN.out, text_at, HE.out]; rfl
      · have HN := Lib.hid hn
        clear hn
        go_wp2
        refine bodyPost_ret (v := .tuple #[.agg #[.int .i64 2, .string (s.extract k j), .int .i64 (m : Int), .int .i64 (k : Int)], .bool true]) (by simp [results, Tryd.results36, go_sem]) rfl ⟨?_, (Below.refl _ _).alloc (Nat.le_refl _) _⟩
        rw [HN.out, text_at, HE.out]; rfl

end Go.Proofs.YtnklcoaafgaokaaDoor
