/-
  proofmarkref01.Alike OF ROWS THAT HOLD THE SAME TOKENS BUT FOR THEIR PLACES: true. proofmarkref01.Moved: tokens so much further, in a new row.
-/
import Derived.Test.YtnklcoaafgaokaaDoorHead
import Derived.Test.YtnklcoaafgaokaaDoorLexMore
namespace Go.Proofs.YtnklcoaafgaokaaDoor
open Go.RowKit

set_option maxRecDepth 100000 in
set_option maxHeartbeats 1000000 in
theorem Alike_yes (A A' : Option Addr) (c c' B : Nat) (ts us : List GTk) (w : World) (hn : ts.length ≤ maxLen) (hT : Hid (Toks w B A ts)) (hT' : Hid (Toks w B A' us))
    (hE : Hid (∀ (k : Nat) (t : GTk), ts[k]? = some t → ∃ p : Int, us[k]? = some (GTk.mk t.a t.s t.b p))) :
    Calls Tryd.prog 17 #[.slice A ts.length c, .slice A' ts.length c'] w fun e w' => e = .returned (.bool true) ∧ ∃ n, w' = w.drewN n := by
  unfold maxLen at hn
  have hne : ((ts.length : Int) != (ts.length : Int)) = false := by simp
  go_enter Tryd.func17, Tryd.ntmps17
  go_wp2
  go_loopg [5] ts.length (fun g i wr => ∃ k n : Nat, k + g = ts.length ∧ i = .int .i64 k ∧ Hid (wr = w.drewN n))
  case atStart => exact ⟨0, 0, by omega, rfl, Lib.hid rfl⟩
  case round =>
    obtain ⟨k, n, hkg, rfl, HW⟩ := hrel
    have HK := Lib.hid hkg
    clear hkg
    obtain rfl := HW.out
    by_cases hlt : k < ts.length
    · have hsome : ts[k]? = some ts[k] := List.getElem?_eq_getElem hlt
      generalize ts[k] = t at hsome
      obtain ⟨p, hsome'⟩ := hE.out k t hsome
      obtain ⟨b, off, rfl, hbl, c0, c1, c2, c3⟩ := hT.out k t hsome
      obtain ⟨b', off', rfl, hbl', c0', c1', c2', c3'⟩ := hT'.out k _ hsome'
      clear hsome hsome'
      simp only at c0' c1' c2' c3'
      have hi1 : (k : Int) < (ts.length : Int) := by omega
      have hi0 : (0 : Int) ≤ (k : Int) := by omega
      have q1 : (t.a != t.a) = false := by simp
      have q2 : (t.b != t.b) = false := by simp
      go_wp2
      go_quiet (fail)
      go_wp2
      go_roundg (gk - 1)
      case measure => have := HK.out; omega
      case rel => exact ⟨k + 1, n + nq, by have := HK.out; omega, by go_num, Lib.hid (by first | rfl | rw [World.drewN_drewN])⟩
    · go_wp2
      go_ret
      exact ⟨rfl, n, rfl⟩

end Go.Proofs.YtnklcoaafgaokaaDoor
