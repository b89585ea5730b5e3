/-
  proofmarklaw01.LexLong, WALKED: true, of every text.
-/
import Derived.Test.YtnklcoaafgaokaaDoorErrorsWalk
import Derived.Test.YtnklcoaafgaokaaDoorLexMore
namespace Go.Proofs.YtnklcoaafgaokaaDoor
open Go.RowKit

def blanks (n : Nat) : List UInt8 := List.replicate n 32

theorem lexOut_count {l : List UInt8} {ts : List LexM.Tk} {n i : Nat} (h : lexOut l = (ts, n, i)) : ts.length ≤ l.length := by
  have hc := LexM.lex_count l.length l 0 (Nat.le_refl _)
  unfold lexOut at h
  split at h
  · cases h; simp
  · split at h
    · rename_i x us hx
      cases h
      rw [hx] at hc; exact hc
    · cases h; simp
theorem blanks_step (k : Nat) : str (blanks (10 * k)) ++ ⟨#[32, 32, 32, 32, 32, 32, 32, 32, 32, 32]⟩ = str (blanks (10 * (k + 1))) := by
  show str (blanks (10 * k)) ++ str (blanks 10) = _
  rw [str_append]
  unfold blanks
  rw [List.replicate_append_replicate, Nat.mul_add]
theorem fill_eq (l : List UInt8) (k m : Nat) (h : m ≤ 10 * k) : str l ++ (str (blanks (10 * k))).extract 0 m = str (l ++ blanks m) := by
  rw [str_take, str_append]
  unfold blanks
  rw [List.take_replicate, Nat.min_eq_left h]
theorem fill_out (l : List UInt8) (h : l.length ≤ 20000) : lexOut (l ++ blanks (20000 - l.length)) = lexOut l := by
  have hl : (l ++ blanks (20000 - l.length)).length = 20000 := by simp [blanks]; omega
  unfold lexOut
  rw [hl, if_neg (by omega), if_neg (by omega)]
  unfold blanks
  rw [LexM.lex_fill l.length l _ 0 (Nat.le_refl _)]

set_option maxRecDepth 100000 in
set_option maxHeartbeats 400000 in
theorem Lex_big (s : ByteArray) (w : World) (hs : 20000 < s.size) (hm : s.size ≤ maxLen) :
    Calls Tryd.prog 12 #[.string s] w fun e w' => e = .returned (.tuple #[.slice none 0 0, .int .i64 2, .int .i64 0]) ∧ w = w' := by
  unfold maxLen at hm
  have h2 : (20000 : Int) < (s.size : Int) := by omega
  go_enter Tryd.func12, Tryd.ntmps12
  go_wp2
  go_step3
  go_wp2
  try rw [Exit.noGoto_ret]
  go_ret3
  exact ⟨rfl, rfl⟩

set_option maxRecDepth 100000 in
set_option maxHeartbeats 1000000 in
theorem long_walk (s : ByteArray) (w : World) (hs : s.size ≤ maxLen) (hsg : Hid (SgLaid w)) :
    Calls Tryd.prog 9 #[.string s] w fun e w' => e = .returned (.bool true) ∧ Below w.heap.size w w' := by
  go_enter Tryd.func9, Tryd.ntmps9
  go_wp2_with fail
  refine (head_any w hsg).mono ?_
  rintro e w1 ⟨rfl, hb1⟩
  have H1 := Lib.hid hb1
  clear hb1
  go_wp2_with fail
  refine (few_any s w1 hs).mono ?_
  rintro e w1' ⟨rfl, rfl⟩
  have hlen : (s.data.toList.take 2000).length ≤ 2000 := List.length_take_le _ _
  generalize s.data.toList.take 2000 = l at hlen
  have HS := Lib.hid (sg_below hsg.out H1.out)
  obtain ⟨ts, n, i, ho⟩ : ∃ ts n i, lexOut l = (ts, n, i) := ⟨_, _, _, rfl⟩
  have hcnt := lexOut_count ho
  have HO := Lib.hid ho
  clear ho
  go_wp2_with fail
  refine (Lex_l (len := ts.length) n i w1 (by omega) HS.out HO.out rfl rfl rfl).mono ?_
  rintro e w2 ⟨A2, c2, rfl, _, ht2, hb2⟩
  have H2 := Lib.hid (And.intro ht2 hb2)
  clear ht2 hb2
  go_wp2
  go_loopg [8] 2000 (fun g f wr => ∃ k : Nat, k + g = 2000 ∧ f = .string (str (blanks (10 * k))) ∧ w2 = wr)
  case atStart => exact ⟨0, by omega, rfl, rfl⟩
  case round =>
    obtain ⟨k, hkg, rfl, rfl⟩ := hrel
    have HK := Lib.hid hkg
    have hsz : (str (blanks (10 * k))).size = 10 * k := by rw [str_size]; simp [blanks]
    clear hkg
    by_cases hk : k < 2000
    · have h3 : ((10 * k : Nat) : Int) < 20000 := by omega
      go_wp2
      go_roundg (1999 - k)
      case measure => have := HK.out; omega
      case rel => exact ⟨k + 1, by omega, congrArg Value.string (blanks_step k), rfl⟩
    · have hk2 : 2000 ≤ k := by omega
      have h3 : ¬ 10 * (k : Int) < 20000 := by omega
      have hsl : (str l).size = l.length := str_size l
      have hfl : (l ++ blanks (20000 - l.length)).length = 20000 := by simp [blanks]; omega
      have HFL := Lib.hid hfl
      clear hfl
      have s1 := H1.out.size
      have s2 := H2.out.2.size
      have HC := Lib.hid (Lex_is (s := str l ++ (str (blanks (10 * k))).extract 0 (20000 - l.length)) (len := ts.length) n i w2 (by rw [fill_eq _ _ _ (by omega), str_size, HFL.out]; omega) (sg_below HS.out H2.out.2) (by rw [fill_eq _ _ _ (by omega), str_data, fill_out _ (by omega)]; exact HO.out) rfl rfl rfl)
      go_wp2_with fail
      refine (HC.out).mono ?_
      rintro e w3 ⟨A3, c3, rfl, _, ht3, hb3⟩
      have H3 := Lib.hid (And.intro ht3 hb3)
      clear ht3 hb3
      have s3 := H3.out.2.size
      have HB := Lib.hid (Lex_big (str l ++ (str (blanks (10 * k))).extract 0 (20000 - l.length) ++ ⟨#[32]⟩) w3 (by rw [fill_eq _ _ _ (by omega), ByteArray.size_append, str_size, HFL.out]; decide) (by rw [fill_eq _ _ _ (by omega), ByteArray.size_append, str_size, HFL.out]; decide))
      go_wp2_with fail
      refine (HB.out).mono ?_
      rintro e w4 ⟨rfl, rfl⟩
      go_wp2_with fail
      refine (Same_of (n := ts.length) (ts := ts.map gOf) (B := w3.heap.size) (by simp) (by unfold maxLen; omega) ((H2.out.1.below H3.out.2).more s3) H3.out.1).mono ?_
      rintro e w5 ⟨rfl, n5, rfl⟩
      go_wp2
      go_ret
      exact ⟨rfl, below_drewN ((H1.out.trans (H2.out.2.mono s1)).trans (H3.out.2.mono (by omega))) n5⟩

end Go.Proofs.YtnklcoaafgaokaaDoor
