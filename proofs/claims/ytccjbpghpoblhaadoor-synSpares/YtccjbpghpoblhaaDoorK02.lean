/-
  TOKENS IN MEMORY: the cells of a row of tokens; the table of signs, as lex reads it; what Lex hands back.
-/
import Derived.Test.YtccjbpghpoblhaaDoorProg
import Derived.Test.YtccjbpghpoblhaaDoorK01
import Derived.WalkKit
import Derived.WalkSpells
import Derived.WalkLawsBesides
import Derived.Lib.Hide
import Derived.Lib.Strings
import Derived.Laws.Rows
/-
  THE SMALL FUNCTIONS OF PACKAGE lex, walked: what each byte is, where names, digits and lines end, what digits tell.
-/
namespace Go.Proofs.YtccjbpghpoblhaaDoor
open Go.RowKit

theorem ret_bool {a b : Bool} (h : a = b) : Ending.returned (.bool a) = .returned (.bool b) := by rw [h]

theorem u8_beq (c : UInt8) (k : Nat) (hk : k < 256) : (c == UInt8.ofNat k) = ((c.toNat : Int) == (k : Int)) := by
  rw [Bool.eq_iff_iff]
  simp only [beq_iff_eq]
  constructor
  · rintro rfl; simp [UInt8.toNat_ofNat']; omega
  · intro h; apply UInt8.toNat_inj.1; simp [UInt8.toNat_ofNat']; omega

theorem isSp_eq (c : UInt8) : LexM.isSp c = ((c.toNat : Int) == 32 || (c.toNat : Int) == 9 || (c.toNat : Int) == 10) := by
  unfold LexM.isSp
  have a := u8_beq c 32 (by omega)
  have b := u8_beq c 9 (by omega)
  have d := u8_beq c 10 (by omega)
  rw [show (32 : UInt8) = UInt8.ofNat 32 from rfl, show (9 : UInt8) = UInt8.ofNat 9 from rfl, show (10 : UInt8) = UInt8.ofNat 10 from rfl, a, b, d]
  rfl
theorem notNl_eq (c : UInt8) : LexM.notNl c = ((c.toNat : Int) != 10) := by
  unfold LexM.notNl
  have d := u8_beq c 10 (by omega)
  show (!(c == 10)) = (!((c.toNat : Int) == 10))
  rw [show (10 : UInt8) = UInt8.ofNat 10 from rfl, d]
  rfl
theorem notNl_yes (c : UInt8) (h : ((c.toNat : Int) != 10) = true) : LexM.notNl c = true := (notNl_eq c).trans h
theorem notNl_no (c : UInt8) (h : ((c.toNat : Int) != 10) = false) : LexM.notNl c = false := (notNl_eq c).trans h
theorem u8_le (c d : UInt8) : (decide (c ≤ d)) = decide ((c.toNat : Int) ≤ (d.toNat : Int)) := by
  rw [Bool.eq_iff_iff]; simp [UInt8.le_iff_toNat_le]
theorem isDg_eq (c : UInt8) : LexM.isDg c = (decide (48 ≤ (c.toNat : Int)) && decide ((c.toNat : Int) ≤ 57)) := by
  unfold LexM.isDg
  rw [u8_le, u8_le]; rfl
theorem isLt_eq (c : UInt8) : LexM.isLt c = (decide (97 ≤ (c.toNat : Int)) && decide ((c.toNat : Int) ≤ 122) || decide (65 ≤ (c.toNat : Int)) && decide ((c.toNat : Int) ≤ 90) || (c.toNat : Int) == 95) := by
  unfold LexM.isLt
  have a := u8_beq c 95 (by omega)
  rw [u8_le, u8_le, u8_le, u8_le, show (95 : UInt8) = UInt8.ofNat 95 from rfl, a]; rfl

set_option maxHeartbeats 400000 in
theorem isSpace_any (c : UInt8) (w : World) :
    Calls Tryd.prog 23 #[.int .u8 (c.toNat : Int)] w fun e w' => e = .returned (.bool (LexM.isSp c)) ∧ w = w' := by
  have H := Lib.hid (isSp_eq c)
  generalize LexM.isSp c = b at *
  generalize (c.toNat : Int) = x at *
  go_enter Tryd.func23, Tryd.ntmps23
  go_wp2
  all_goals go_ret
  all_goals (refine ⟨ret_bool ?_, rfl⟩; first | (rw [H.out]; done) | (rw [H.out, Bool.eq_iff_iff]; simp <;> omega))

set_option maxHeartbeats 400000 in
theorem isDigit_any (c : UInt8) (w : World) :
    Calls Tryd.prog 28 #[.int .u8 (c.toNat : Int)] w fun e w' => e = .returned (.bool (LexM.isDg c)) ∧ w = w' := by
  have H := Lib.hid (isDg_eq c)
  generalize LexM.isDg c = b at *
  generalize (c.toNat : Int) = x at *
  go_enter Tryd.func28, Tryd.ntmps28
  go_wp2
  all_goals go_ret
  all_goals (refine ⟨ret_bool ?_, rfl⟩; first | (rw [H.out]; done) | (rw [H.out, Bool.eq_iff_iff]; simp <;> omega))

set_option maxHeartbeats 400000 in
theorem isLetter_any (c : UInt8) (w : World) :
    Calls Tryd.prog 26 #[.int .u8 (c.toNat : Int)] w fun e w' => e = .returned (.bool (LexM.isLt c)) ∧ w = w' := by
  have H := Lib.hid (isLt_eq c)
  generalize LexM.isLt c = b at *
  generalize (c.toNat : Int) = x at *
  go_enter Tryd.func26, Tryd.ntmps26
  go_wp2
  all_goals go_ret
  all_goals (refine ⟨ret_bool ?_, rfl⟩; first | (rw [H.out]; done) | (rw [H.out, Bool.eq_iff_iff]; simp <;> omega))

theorem prefix_take (p s : List UInt8) : p.isPrefixOf s = ((s.drop 0).take (p.length - 0) == p) := by
  rw [Bool.eq_iff_iff, List.isPrefixOf_iff_prefix, beq_iff_eq, List.drop_zero, Nat.sub_zero, List.prefix_iff_eq_take]
  exact eq_comm
theorem prefix_long (p s : List UInt8) (h : s.length < p.length) : p.isPrefixOf s = false := by
  rw [Bool.eq_false_iff]
  intro e
  rw [List.isPrefixOf_iff_prefix] at e
  have := e.length_le; omega

set_option maxHeartbeats 400000 in
theorem hasPrefixIn_any (s p : ByteArray) (w : World) (_hs : s.size ≤ maxLen) (_hp : p.size ≤ maxLen) :
    Calls Tryd.prog 42 #[.string s, .string p] w fun e w' => e = .returned (.bool (LexM.pre p.data.toList s.data.toList)) ∧ w = w' := by
  unfold maxLen at _hs _hp
  generalize hb : LexM.pre p.data.toList s.data.toList = b
  have H := Lib.hid hb
  clear hb
  go_enter Tryd.func42, Tryd.ntmps42
  go_wp2
  all_goals go_ret
  · refine ⟨ret_bool ?_, rfl⟩
    rw [← H.out, Lib.extract_toList, Lib.toList_data, Lib.size_eq]
    exact (prefix_take _ _).symm
  · refine ⟨ret_bool ?_, rfl⟩
    rw [← H.out]
    exact (prefix_long _ _ (by rw [← Lib.size_eq, ← Lib.size_eq]; omega)).symm

set_option maxHeartbeats 400000 in
theorem hasPrefix_any (s p : ByteArray) (w : World) (hs : s.size ≤ maxLen) (hp : p.size ≤ maxLen) :
    Calls Tryd.prog 24 #[.string s, .string p] w fun e w' => e = .returned (.bool (LexM.pre p.data.toList s.data.toList)) ∧ w = w' := by
  go_enter Tryd.func24, Tryd.ntmps24
  go_wp2_with (go_at_call 42; refine (hasPrefixIn_any _ _ _ hs hp).mono ?_; rintro e w' ⟨rfl, rfl⟩)
  go_ret
  exact ⟨rfl, rfl⟩

theorem ret_int {k : IntKind} {a b : Int} (h : a = b) : Ending.returned (.int k a) = .returned (.int k b) := by rw [h]

set_option maxHeartbeats 400000 in
theorem lineEnd_any (s : ByteArray) (a : Nat) (w : World) (hs : s.size ≤ maxLen) (ha : a ≤ s.size) :
    Calls Tryd.prog 25 #[.string s, .int .i64 (a : Int)] w fun e w' => e = .returned (.int .i64 (LexM.endAt LexM.notNl s.data.toList a : Nat)) ∧ w = w' := by
  unfold maxLen at hs
  go_enter Tryd.func25, Tryd.ntmps25
  go_wp2
  go_loop [1] (fun i => ∃ k : Nat, k ≤ s.size ∧ i = .int .i64 k ∧ Hid (LexM.endAt LexM.notNl s.data.toList k = LexM.endAt LexM.notNl s.data.toList a)) (fun i => s.size - (intOf i).toNat)
  case atStart => exact ⟨a, ha, rfl, Lib.hid rfl⟩
  case round =>
    obtain ⟨k, hk, rfl, H⟩ := hrel
    by_cases hlt : k < s.size
    · have hl : k < s.data.toList.length := by rw [← Lib.size_eq]; exact hlt
      go_wp2
      · go_round
        case rel => exact ⟨k + 1, by omega, by go_num, Lib.hid ((LexM.endAt_step hl (notNl_yes _ ‹_›)).trans H.out)⟩
        case measure => simp [intOf]; omega
      · go_ret
        exact ⟨ret_int (by rw [← H.out, LexM.endAt_stop hl (notNl_no _ ‹_›)]), rfl⟩
    · go_wp2
      go_ret
      exact ⟨ret_int (by rw [← H.out, LexM.endAt_end (by rw [← Lib.size_eq]; omega)]), rfl⟩

set_option maxHeartbeats 800000 in
theorem nameEnd_any (s : ByteArray) (a : Nat) (w : World) (hs : s.size ≤ maxLen) (ha : a ≤ s.size) :
    Calls Tryd.prog 27 #[.string s, .int .i64 (a : Int)] w fun e w' => e = .returned (.int .i64 (LexM.endAt LexM.isWd s.data.toList a : Nat)) ∧ w = w' := by
  unfold maxLen at hs
  go_enter Tryd.func27, Tryd.ntmps27
  go_wp2
  go_loop [1] (fun i => ∃ k : Nat, k ≤ s.size ∧ i = .int .i64 k ∧ Hid (LexM.endAt LexM.isWd s.data.toList k = LexM.endAt LexM.isWd s.data.toList a)) (fun i => s.size - (intOf i).toNat)
  case atStart => exact ⟨a, ha, rfl, Lib.hid rfl⟩
  case round =>
    obtain ⟨k, hk, rfl, H⟩ := hrel
    by_cases hlt : k < s.size
    · have hl : k < s.data.toList.length := by rw [← Lib.size_eq]; exact hlt
      have hget : s.data.toList[k] = s[k] := rfl
      have HG := Lib.hid hget
      clear hget
      by_cases h1 : LexM.isLt s[k] = true
      · have HY := Lib.hid (LexM.endAt_step (p := LexM.isWd) hl (by rw [HG.out]; unfold LexM.isWd; rw [h1]; rfl))
        go_wp2_with (first | (go_at_call 26; refine (isLetter_any _ _).mono ?_; rintro e w' ⟨rfl, rfl⟩) | (go_at_call 28; refine (isDigit_any _ _).mono ?_; rintro e w' ⟨rfl, rfl⟩))
        go_round
        case rel => exact ⟨k + 1, by omega, by go_num, Lib.hid (HY.out.trans H.out)⟩
        case measure => simp [intOf]; omega
      · have h1f : LexM.isLt s[k] = false := by simpa using h1
        clear h1
        by_cases h2 : LexM.isDg s[k] = true
        · have HY := Lib.hid (LexM.endAt_step (p := LexM.isWd) hl (by rw [HG.out]; unfold LexM.isWd; rw [h1f, h2]; rfl))
          go_wp2_with (first | (go_at_call 26; refine (isLetter_any _ _).mono ?_; rintro e w' ⟨rfl, rfl⟩) | (go_at_call 28; refine (isDigit_any _ _).mono ?_; rintro e w' ⟨rfl, rfl⟩))
          go_round
          case rel => exact ⟨k + 1, by omega, by go_num, Lib.hid (HY.out.trans H.out)⟩
          case measure => simp [intOf]; omega
        · have h2f : LexM.isDg s[k] = false := by simpa using h2
          clear h2
          have HN := Lib.hid (LexM.endAt_stop (p := LexM.isWd) hl (by rw [HG.out]; unfold LexM.isWd; rw [h1f, h2f]; rfl))
          go_wp2_with (first | (go_at_call 26; refine (isLetter_any _ _).mono ?_; rintro e w' ⟨rfl, rfl⟩) | (go_at_call 28; refine (isDigit_any _ _).mono ?_; rintro e w' ⟨rfl, rfl⟩))
          go_ret
          exact ⟨ret_int (by rw [← H.out, HN.out]), rfl⟩
    · go_wp2
      go_ret
      exact ⟨ret_int (by rw [← H.out, LexM.endAt_end (by rw [← Lib.size_eq]; omega)]), rfl⟩

set_option maxHeartbeats 800000 in
theorem digitsEnd_any (s : ByteArray) (a : Nat) (w : World) (hs : s.size ≤ maxLen) (ha : a ≤ s.size) :
    Calls Tryd.prog 29 #[.string s, .int .i64 (a : Int)] w fun e w' => e = .returned (.int .i64 (LexM.endAt LexM.isDg s.data.toList a : Nat)) ∧ w = w' := by
  unfold maxLen at hs
  go_enter Tryd.func29, Tryd.ntmps29
  go_wp2
  go_loop [1] (fun i => ∃ k : Nat, k ≤ s.size ∧ i = .int .i64 k ∧ Hid (LexM.endAt LexM.isDg s.data.toList k = LexM.endAt LexM.isDg s.data.toList a)) (fun i => s.size - (intOf i).toNat)
  case atStart => exact ⟨a, ha, rfl, Lib.hid rfl⟩
  case round =>
    obtain ⟨k, hk, rfl, H⟩ := hrel
    by_cases hlt : k < s.size
    · have hl : k < s.data.toList.length := by rw [← Lib.size_eq]; exact hlt
      by_cases h2 : LexM.isDg s[k] = true
      · have HY := Lib.hid (LexM.endAt_step (p := LexM.isDg) hl h2)
        go_wp2_with (go_at_call 28; refine (isDigit_any _ _).mono ?_; rintro e w' ⟨rfl, rfl⟩)
        go_round
        case rel => exact ⟨k + 1, by omega, by go_num, Lib.hid (HY.out.trans H.out)⟩
        case measure => simp [intOf]; omega
      · have h2f : LexM.isDg s[k] = false := by simpa using h2
        clear h2
        have HN := Lib.hid (LexM.endAt_stop (p := LexM.isDg) hl h2f)
        go_wp2_with (go_at_call 28; refine (isDigit_any _ _).mono ?_; rintro e w' ⟨rfl, rfl⟩)
        go_ret
        exact ⟨ret_int (by rw [← H.out, HN.out]), rfl⟩
    · go_wp2
      go_ret
      exact ⟨ret_int (by rw [← H.out, LexM.endAt_end (by rw [← Lib.size_eq]; omega)]), rfl⟩

def numEnd (o : Option Nat) : Ending :=
  match o with
  | some n => .returned (.tuple #[.int .i64 n, .bool true])
  | none => .returned (.tuple #[.int .i64 0, .bool false])
theorem numEnd_some {o : Option Nat} {n : Nat} {v : Int} (h : o = some n) (hv : v = n) : Ending.returned (.tuple #[.int .i64 v, .bool true]) = numEnd o := by subst h hv; rfl
theorem numEnd_none {o : Option Nat} (h : o = none) : Ending.returned (.tuple #[.int .i64 0, .bool false]) = numEnd o := by subst h; rfl

theorem num_lead {l : List UInt8} (h1 : 1 < l.length) (h2 : l[0] = 48) : LexM.num l = none := by
  unfold LexM.num
  rw [if_pos ⟨h1, by rw [List.head?_eq_getElem?, List.getElem?_eq_getElem (by omega), h2]⟩]
theorem num_else {l : List UInt8} (h : ¬ (1 < l.length ∧ l.head? = some 48)) : LexM.num l = LexM.numTo 0 l := by
  unfold LexM.num
  rw [if_neg h]
theorem numTo_step {l : List UInt8} {k m : Nat} (hk : k < l.length) (h : 10 * m + (l[k].toNat - 48) ≤ 65535) : LexM.numTo m (l.drop k) = LexM.numTo (10 * m + (l[k].toNat - 48)) (l.drop (k + 1)) := by
  rw [List.drop_eq_getElem_cons hk, LexM.numTo, if_neg (by omega)]
theorem numTo_past {l : List UInt8} {k m : Nat} (hk : k < l.length) (h : 65535 < 10 * m + (l[k].toNat - 48)) : LexM.numTo m (l.drop k) = none := by
  rw [List.drop_eq_getElem_cons hk, LexM.numTo, if_pos h]
theorem numTo_end {l : List UInt8} {k m : Nat} (hk : l.length ≤ k) : LexM.numTo m (l.drop k) = some m := by
  rw [List.drop_eq_nil_of_le hk, LexM.numTo]

set_option maxHeartbeats 800000 in
theorem number_lead (s : ByteArray) (w : World) (hs : s.size ≤ maxLen) (h1 : 1 < s.size) (h2 : s[0] = 48) :
    Calls Tryd.prog 30 #[.string s] w fun e w' => e = numEnd (LexM.num s.data.toList) ∧ w = w' := by
  unfold maxLen at hs
  have HN := Lib.hid (num_lead (l := s.data.toList) (by rw [← Lib.size_eq]; exact h1) h2)
  have hb : ((s[0].toNat : Int) == 48) = true := by rw [h2]; rfl
  have H2 := Lib.hid h2
  clear h2
  go_enter Tryd.func30, Tryd.ntmps30
  go_wp2
  go_ret2
  exact ⟨numEnd_none HN.out, rfl⟩

theorem digit_bd {c : UInt8} (h : LexM.isDg c = true) : 48 ≤ (c.toNat : Int) ∧ (c.toNat : Int) ≤ 57 := by
  rw [isDg_eq] at h
  simpa using h

set_option maxHeartbeats 1000000 in
theorem number_else (s : ByteArray) (w : World) (hs : s.size ≤ maxLen) (hd : Hid (∀ c ∈ s.data.toList, LexM.isDg c = true)) (h1 : ¬ (1 < s.size) ∨ (∃ h : 1 < s.size, ((s[0].toNat : Int) == 48) = false)) :
    Calls Tryd.prog 30 #[.string s] w fun e w' => e = numEnd (LexM.num s.data.toList) ∧ w = w' := by
  unfold maxLen at hs
  have HN : Hid (LexM.num s.data.toList = LexM.numTo 0 s.data.toList) := by
    refine Lib.hid (num_else ?_)
    rintro ⟨a, b⟩
    rw [← Lib.size_eq] at a
    rcases h1 with h1 | ⟨h0, h1⟩
    · omega
    · rw [List.head?_eq_getElem?, List.getElem?_eq_getElem (by rw [← Lib.size_eq]; omega)] at b
      have b' : s[0] = 48 := Option.some.inj b
      rw [b'] at h1; cases h1
  rcases h1 with h1 | ⟨h0, h1⟩
  all_goals
    go_enter Tryd.func30, Tryd.ntmps30
    go_wp2
    go_loop [4, 16] (fun n i => ∃ k m : Nat, k ≤ s.size ∧ m ≤ 65535 ∧ n = .int .i64 m ∧ i = .int .i64 k ∧ Hid (LexM.numTo m (s.data.toList.drop k) = LexM.numTo 0 s.data.toList)) (fun _ i => s.size - (intOf i).toNat)
    case atStart => exact ⟨0, 0, Nat.zero_le _, by omega, rfl, rfl, Lib.hid rfl⟩
    case round =>
      obtain ⟨k, m, hk, hm, rfl, rfl, H⟩ := hrel
      by_cases hlt : k < s.size
      · have hl : k < s.data.toList.length := by rw [← Lib.size_eq]; exact hlt
        have hget : s.data.toList[k] = s[k] := rfl
        have hdg := digit_bd (hd.out s[k] (by rw [← hget]; exact List.getElem_mem hl))
        obtain ⟨hb1, hb2⟩ := hdg
        by_cases hbig : 10 * m + (s[k].toNat - 48) ≤ 65535
        · have HY := Lib.hid (numTo_step (m := m) hl hbig)
          clear hget
          have hbg : 10 * (m : Int) + ((s[k].toNat : Int) - 48) ≤ 65535 := by omega
          go_wp2
          go_round
          case rel => exact ⟨k + 1, 10 * m + (s[k].toNat - 48), by omega, hbig, by go_num, by go_num, Lib.hid (HY.out.symm.trans H.out)⟩
          case measure => simp [intOf]; omega
        · have HY := Lib.hid (numTo_past (m := m) hl (by rw [hget]; omega))
          clear hget
          have hbg : ¬ 10 * (m : Int) + ((s[k].toNat : Int) - 48) ≤ 65535 := by omega
          go_wp2
          go_ret2
          exact ⟨numEnd_none (HN.out.trans (H.out.symm.trans HY.out)), rfl⟩
      · go_wp2
        go_ret2
        exact ⟨numEnd_some (HN.out.trans (H.out.symm.trans (numTo_end (by rw [← Lib.size_eq]; omega)))) rfl, rfl⟩

theorem number_any (s : ByteArray) (w : World) (hs : s.size ≤ maxLen) (hd : Hid (∀ c ∈ s.data.toList, LexM.isDg c = true)) :
    Calls Tryd.prog 30 #[.string s] w fun e w' => e = numEnd (LexM.num s.data.toList) ∧ w = w' := by
  by_cases h1 : 1 < s.size
  · by_cases h2 : s[0] = 48
    · exact number_lead s w hs h1 h2
    · exact number_else s w hs hd (.inr ⟨h1, by
        exact (u8_beq s[0] 48 (by omega)).symm.trans (by simpa using h2)⟩)
  · exact number_else s w hs hd (.inl h1)

end Go.Proofs.YtccjbpghpoblhaaDoor

namespace Go.Proofs.YtccjbpghpoblhaaDoor
open Go.RowKit

def str (l : List UInt8) : ByteArray := ⟨l.toArray⟩
theorem str_data (l : List UInt8) : (str l).data.toList = l := by simp [str]
theorem str_size (l : List UInt8) : (str l).size = l.length := by rw [Lib.size_eq, str_data]
theorem str_of (s : ByteArray) : str s.data.toList = s := by unfold str; simp
theorem str_extract (s : ByteArray) (a b : Nat) : s.extract a b = str ((s.data.toList.drop a).take (b - a)) := by
  rw [← Lib.extract_data, str_of]

theorem str_append (a b : List UInt8) : str a ++ str b = str (a ++ b) := by
  unfold str
  apply ByteArray.ext
  rw [ByteArray.data_append]
  simp

/-- a token's four cells -/
def tkCells (t : LexM.Tk) : List Value := [.int .i64 t.kind, .string (str t.text), .int .i64 t.n, .int .i64 t.pos]
def rowOf (ts : List LexM.Tk) : List Value := ts.flatMap tkCells
theorem rowOf_length (ts : List LexM.Tk) : (rowOf ts).length = ts.length * 4 := by
  induction ts with
  | nil => rfl
  | cons t r ih => unfold rowOf at ih ⊢; rw [List.flatMap_cons, List.length_append, ih, List.length_cons]; simp [tkCells]; omega
theorem rowOf_snoc (ts : List LexM.Tk) (t : LexM.Tk) : rowOf (ts ++ [t]) = rowOf ts ++ tkCells t := by
  unfold rowOf; rw [List.flatMap_append]; simp

theorem info33 : (Tryd.prog.info? 37).map (fun i => (i.zero, i.size, i.bytes)) = some (some (.agg #[.int .i64 0, .string ByteArray.empty, .int .i64 0, .int .i64 0]), 4, 40) := by kernel_rfl

theorem cell_four_new (w : World) (a b c d : Value) (t : TypeId) : ∀ j u, [a, b, c, d][j]? = some u → (w.alloc (.cells #[a, b, c, d] t)).cell? ((⟨w.heap.size, 0, none⟩ : Addr).add j) = some u := by
  intro j u hj
  match j, hj with
  | 0, hj => simp at hj; subst hj; simp [Addr.add]
  | 1, hj => simp at hj; subst hj; simp [Addr.add]
  | 2, hj => simp at hj; subst hj; simp [Addr.add]
  | 3, hj => simp at hj; subst hj; simp [Addr.add]
  | j + 4, hj => simp at hj

/-- the table of signs -/
def sgArr : Array Value := (LexM.signs.map fun t => Value.string (str t)).toArray
def sgAt (j : Nat) : List UInt8 := LexM.signs.getD j []
def SgLaid (w : World) : Prop := ∃ t fr, w.heap[0]? = some (.cells sgArr t fr)
theorem sgArr_size : sgArr.size = 25 := by decide
theorem sg_index (j : Nat) (hj : j < 25) (w : World) : (Instr.index 74 (.agg sgArr) (.int .i64 (j : Int))).run Tryd.prog w = .ok (.string (str (sgAt j))) w := by
  iterate 25 (rcases j with _ | j; · kernel_rfl)
  omega

/-- what Lex tells of a text: tokens, the error's number, its place -/
def lexOut (l : List UInt8) : List LexM.Tk × Nat × Nat :=
  if 20000 < l.length then ([], 2, 0)
  else match LexM.lex l 0 with
    | (ts, none) => (ts, 0, 0)
    | (_, some i) => ([], 10, i)
/-- and how it lies in memory -/
def LexRet (w : World) (o : List LexM.Tk × Nat × Nat) (e : Ending) (w' : World) : Prop :=
  ∃ v, e = .returned (.tuple #[v, .int .i64 (o.2.1 : Nat), .int .i64 (o.2.2 : Nat)]) ∧ w'.ownsRow w.heap.size 37 4 v o.1.length (rowOf o.1) ∧ Below w.heap.size w w'

end Go.Proofs.YtccjbpghpoblhaaDoor

