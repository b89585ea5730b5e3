/-
  proofmarkref01.one, WALKED: the token that begins at a place, if one does.
-/
import Derived.Test.YtnklcoaafgaokaaDoorRefSmall
import Derived.Laws.ResultCell
import Derived.Outline
namespace Go.Proofs.YtnklcoaafgaokaaDoor
open Go.RowKit

set_option maxRecDepth 100000 in
set_option maxHeartbeats 400000 in
theorem Signs_any (w : World) : Calls Tryd.prog 37 #[] w fun e w' => e = .returned (.slice (some ⟨w.heap.size, 0, none⟩) 25 25) ∧ w.alloc (.cells sgArr 9) = w' := by
  go_enter Tryd.func37, Tryd.ntmps37
  go_wp2
  go_ret
  exact ⟨rfl, rfl⟩

theorem box_facts {w w2 : World} {x y z u : Value} (hb : Below (w.alloc (.cells #[x, y, z, u] 33)).heap.size (w.alloc (.cells #[x, y, z, u] 33)) w2) :
    w2.cell? ⟨w.heap.size, 0, none⟩ = some x ∧ w2.cell? ⟨w.heap.size, 1, none⟩ = some y ∧ w2.cell? ⟨w.heap.size, 2, none⟩ = some z ∧ w2.cell? ⟨w.heap.size, 3, none⟩ = some u ∧
    w2.frozen? ⟨w.heap.size, 0, none⟩ = false ∧ w2.frozen? ⟨w.heap.size, 1, none⟩ = false ∧ w2.frozen? ⟨w.heap.size, 2, none⟩ = false ∧ w2.frozen? ⟨w.heap.size, 3, none⟩ = false ∧ w.heap.size < w2.heap.size := by
  have hsz := hb.size
  have hsz2 : (w.alloc (.cells #[x, y, z, u] 33)).heap.size = w.heap.size + 1 := by simp
  have hh : w2.heap[w.heap.size]? = some (.cells #[x, y, z, u] 33) := (hb.block w.heap.size (by omega)).trans (heap_alloc_new w _)
  refine ⟨?_, ?_, ?_, ?_, Lib.frozen_of_heap hh 0, Lib.frozen_of_heap hh 1, Lib.frozen_of_heap hh 2, Lib.frozen_of_heap hh 3, by omega⟩
  all_goals (rw [Lib.cell_of_heap hh]; rfl)

theorem below_box {w w2 : World} {o o' : Obj} {a b c d : Value} (hb : Below (w.alloc o).heap.size (w.alloc o) w2) :
    Below w.heap.size w (((((w2.setCell ⟨w.heap.size, 0, none⟩ a).setCell ⟨w.heap.size, 1, none⟩ b).setCell ⟨w.heap.size, 2, none⟩ c).setCell ⟨w.heap.size, 3, none⟩ d).alloc o') := by
  have hsz := hb.size
  have hsz2 : (w.alloc o).heap.size = w.heap.size + 1 := by simp
  have h0 : Below w.heap.size w w2 := ((Below.refl _ _).alloc (Nat.le_refl _) _).trans (hb.mono (by omega))
  have h1 := (((h0.setCell (p := ⟨w.heap.size, 0, none⟩) (Nat.le_refl _) a).setCell (p := ⟨w.heap.size, 1, none⟩) (Nat.le_refl _) b).setCell (p := ⟨w.heap.size, 2, none⟩) (Nat.le_refl _) c).setCell (p := ⟨w.heap.size, 3, none⟩) (Nat.le_refl _) d
  exact h1.alloc h1.size o'

/-- what 'one' hands back, by the step that the mathematics makes -/
def oneV (st : Nat × Nat × Nat) (l : List UInt8) (k : Nat) : Value :=
  if st.1 = 4 then noTok else tokV st.1 ((l.drop k).take st.2.1) st.2.2 k
theorem oneV_tok {l : List UInt8} {k kd d n : Nat} (h : LexM.step (l.drop k) = (kd, d, n)) (h4 : kd ≠ 4) : oneV (LexM.step (l.drop k)) l k = tokV kd ((l.drop k).take d) n k := by
  unfold oneV; rw [h, if_neg h4]
theorem oneV_no {l : List UInt8} {k : Nat} (h : LexM.step (l.drop k) = (4, 0, 0)) : oneV (LexM.step (l.drop k)) l k = noTok := by
  unfold oneV; rw [h, if_pos rfl]

set_option maxRecDepth 100000 in
set_option maxHeartbeats 1000000 in
theorem one_name (s : ByteArray) (k : Nat) (w : World) (hs : s.size ≤ 20000) (hk : k < s.size) (h3 : LexM.isLt s[k] = true) :
    Calls Tryd.prog 30 #[.string s, .int .i64 (k : Int)] w (GotV w (tokV 1 ((s.data.toList.drop k).take (LexM.endAt LexM.isWd s.data.toList k - k)) 0 k)) := by
  have hkl : k < s.data.toList.length := by rw [← Lib.size_eq]; exact hk
  have hle := LexM.endAt_le (p := LexM.isWd) (Nat.le_of_lt hkl)
  rw [← Lib.size_eq] at hle
  have cL : ∀ W, Calls Tryd.prog 35 #[.string s, .int .i64 (k : Int)] W fun e w' => e = .returned (.int .i64 (LexM.endAt LexM.isWd s.data.toList k : Nat)) ∧ W = w' := fun W => word_any s k W (by unfold maxLen; omega) (by omega)
  generalize LexM.endAt LexM.isWd s.data.toList k = m at hle cL
  have CL := Lib.hid cL
  clear cL
  go_enter Tryd.func30, Tryd.ntmps30
  go_wp2_with (first
    | (go_at_call 18; refine (Letter_any _ _).mono ?_; rintro e w' ⟨rfl, rfl⟩)
    | (go_at_call 35; refine (CL.out _).mono ?_; rintro e w' ⟨rfl, rfl⟩))
  refine bodyPost_ret (v := .tuple #[.agg #[.int .i64 1, .string (s.extract k m), .int .i64 0, .int .i64 (k : Int)], .bool true]) (by simp [results, Tryd.results30, go_sem]) rfl ⟨?_, (Below.refl _ _).alloc (Nat.le_refl _) _⟩
  rw [text_at]; rfl

set_option maxRecDepth 100000 in
set_option maxHeartbeats 1000000 in
theorem one_num (s : ByteArray) (k : Nat) (w : World) (hs : s.size ≤ 20000) (hk : k < s.size) (h3 : LexM.isLt s[k] = false) (h4 : LexM.isDg s[k] = true) (o : Option Nat)
    (ho : LexM.num ((s.data.toList.drop k).take (LexM.endAt LexM.isDg s.data.toList k - k)) = o) :
    Calls Tryd.prog 30 #[.string s, .int .i64 (k : Int)] w (GotV w (numTok o ((s.data.toList.drop k).take (LexM.endAt LexM.isDg s.data.toList k - k)) k)) := by
  have cN := fun W => refNumber_any s k W hs hk
  rw [ho] at cN
  generalize (s.data.toList.drop k).take (LexM.endAt LexM.isDg s.data.toList k - k) = tx at cN ho
  clear ho
  have CN := Lib.hid cN
  clear cN
  cases o with
  | none =>
    go_enter Tryd.func30, Tryd.ntmps30
    go_wp2_with (first
      | (go_at_call 18; refine (Letter_any _ _).mono ?_; rintro e w' ⟨rfl, rfl⟩)
      | (go_at_call 19; refine (Digit_any _ _).mono ?_; rintro e w' ⟨rfl, rfl⟩)
      | (go_at_call 36; refine (CN.out _).mono ?_; rintro e w2 ⟨rfl, hb2⟩; unfold numTok noTok; obtain ⟨b0, b1, b2, b3, f0, f1, f2, f3, hz⟩ := box_facts hb2; have HB2 := Lib.hid hb2; clear hb2))
    exact bodyPost_ret (v := noTok) (by simp [results, Tryd.results30, go_sem, noTok, *]) rfl ⟨rfl, below_box HB2.out⟩
  | some n =>
    go_enter Tryd.func30, Tryd.ntmps30
    go_wp2_with (first
      | (go_at_call 18; refine (Letter_any _ _).mono ?_; rintro e w' ⟨rfl, rfl⟩)
      | (go_at_call 19; refine (Digit_any _ _).mono ?_; rintro e w' ⟨rfl, rfl⟩)
      | (go_at_call 36; refine (CN.out _).mono ?_; rintro e w2 ⟨rfl, hb2⟩; unfold numTok tokV; obtain ⟨b0, b1, b2, b3, f0, f1, f2, f3, hz⟩ := box_facts hb2; have HB2 := Lib.hid hb2; clear hb2))
    exact bodyPost_ret (v := tokV 2 tx n k) (by simp [results, Tryd.results30, go_sem, tokV, *]) rfl ⟨rfl, below_box HB2.out⟩

def signTok (o : Option (List UInt8)) (k : Nat) : Value :=
  match o with
  | some t => tokV 3 t 0 k
  | none => noTok
theorem sgArr_get (j : Nat) (hj : j < 25) : sgArr[j]? = some (.string (str (sgAt j))) := by
  unfold sgArr sgAt
  rw [List.getElem?_toArray, List.getElem?_map, List.getD_eq_getElem?_getD, List.getElem?_eq_getElem (show j < LexM.signs.length from hj)]
  rfl
theorem sg_cell (w : World) (o : Obj) (j : Nat) (hj : j < 25) : ((w.alloc o).alloc (.cells sgArr 9)).cell? ⟨w.heap.size + 1, j, none⟩ = some (.string (str (sgAt j))) := by
  have h : ((w.alloc o).alloc (.cells sgArr 9)).heap[w.heap.size + 1]? = some (.cells sgArr 9) := by
    have := heap_alloc_new (w.alloc o) (.cells sgArr 9)
    rw [show (w.alloc o).heap.size = w.heap.size + 1 from by simp] at this
    exact this
  rw [Lib.cell_of_heap h, sgArr_get j hj]

set_option maxRecDepth 100000 in
set_option maxHeartbeats 1000000 in
theorem one_sign (s : ByteArray) (k : Nat) (w : World) (hs : s.size ≤ 20000) (hk : k < s.size) (h3 : LexM.isLt s[k] = false) (h4 : LexM.isDg s[k] = false) (o : Option (List UInt8))
    (ho : Hid (LexM.signs.find? (fun t => LexM.pre t (s.data.toList.drop k)) = o)) :
    Calls Tryd.prog 30 #[.string s, .int .i64 (k : Int)] w (GotV w (signTok o k)) := by
  go_enter Tryd.func30, Tryd.ntmps30
  go_wp2_with (first
    | (go_at_call 18; refine (Letter_any _ _).mono ?_; rintro e w' ⟨rfl, rfl⟩)
    | (go_at_call 19; refine (Digit_any _ _).mono ?_; rintro e w' ⟨rfl, rfl⟩)
    | (go_at_call 37; refine (Signs_any _).mono ?_; rintro e w' ⟨rfl, rfl⟩))
  go_loopg [9] 25 (fun g i wr => ∃ j : Nat, j + g = 25 ∧ i = .int .i64 j ∧ Hid (LexM.signs.find? (fun t => LexM.pre t (s.data.toList.drop k)) = (LexM.signs.drop j).find? (fun t => LexM.pre t (s.data.toList.drop k))) ∧ (w.alloc (.cells #[.int .i64 0, .string ⟨#[]⟩, .int .i64 0, .int .i64 0] 33)).alloc (.cells sgArr 9) = wr)
  case atStart => exact ⟨0, by omega, rfl, Lib.hid rfl, rfl⟩
  case round =>
    obtain ⟨j, hjg, rfl, HF, rfl⟩ := hrel
    have HG := Lib.hid hjg
    clear hjg
    by_cases hj : j < 25
    · have hget : sgArr[j]? = some (.string (str (sgAt j))) := sgArr_get j hj
      have hcell : ((w.alloc (.cells #[.int .i64 0, .string ⟨#[]⟩, .int .i64 0, .int .i64 0] 33)).alloc (.cells sgArr 9)).cell? ⟨w.heap.size + 1, j, none⟩ = some (.string (str (sgAt j))) := sg_cell w _ j hj
      have hsl := sgAt_len j hj
      have g1 : (j : Int) < 25 := by omega
      have g2 : (0 : Int) ≤ (j : Int) := by omega
      by_cases h5 : LexM.pre (sgAt j) (s.data.toList.drop k) = true
      · have hfound : LexM.signs.find? (fun t => LexM.pre t (s.data.toList.drop k)) = some (sgAt j) := HF.out.trans (LexM.find_here (q := fun t => LexM.pre t (s.data.toList.drop k)) hj h5)
        have hoo : o = some (sgAt j) := ho.out.symm.trans hfound
        have HO := Lib.hid hoo
        have H5 := Lib.hid h5
        clear hfound hoo h5
        go_wp2_with (go_at_call 29; refine (begins_at s (str (sgAt j)) k true _ hs (by rw [str_size]; omega) (by omega) (by rw [str_data]; exact H5.out)).mono ?_; rintro e w' ⟨rfl, rfl⟩)
        exact bodyPost_ret (v := tokV 3 (sgAt j) 0 k) (by simp [results, Tryd.results30, go_sem, tokV]) rfl ⟨by rw [HO.out]; rfl, ((Below.refl _ _).alloc (Nat.le_refl _) _).alloc (by simp) _⟩
      · have h5f : LexM.pre (sgAt j) (s.data.toList.drop k) = false := by simpa using h5
        have HF2 := Lib.hid (HF.out.trans (LexM.find_drop (q := fun t => LexM.pre t (s.data.toList.drop k)) hj h5f))
        have H5 := Lib.hid h5f
        clear h5 h5f
        go_wp2_with (go_at_call 29; refine (begins_at s (str (sgAt j)) k false _ hs (by rw [str_size]; omega) (by omega) (by rw [str_data]; exact H5.out)).mono ?_; rintro e w' ⟨rfl, rfl⟩)
        go_roundg (24 - j)
        case measure => have := HG.out; omega
        case rel => exact ⟨j + 1, by omega, by go_num, HF2, rfl⟩
    · have hoo : o = none := ho.out.symm.trans (HF.out.trans (by rw [show j = 25 from by have := HG.out; omega]; rfl))
      have HO := Lib.hid hoo
      clear hoo
      go_wp2
      exact bodyPost_ret (v := noTok) (by simp [results, Tryd.results30, go_sem, noTok]) rfl ⟨by rw [HO.out]; rfl, ((Below.refl _ _).alloc (Nat.le_refl _) _).alloc (by simp) _⟩

/-- 'one', where nothing is passed over: the step that the mathematics makes -/
theorem one_any (s : ByteArray) (k : Nat) (w : World) (hs : s.size ≤ 20000) (hk : k < s.size) (h1 : LexM.isSp s[k] = false) (h2 : LexM.pre [47, 47] (s.data.toList.drop k) = false) :
    Calls Tryd.prog 30 #[.string s, .int .i64 (k : Int)] w (GotV w (oneV (LexM.step (s.data.toList.drop k)) s.data.toList k)) := by
  have hl : k < s.data.toList.length := by rw [← Lib.size_eq]; exact hk
  by_cases h3 : LexM.isLt s[k] = true
  · rw [oneV_tok (LexM.st_name hl h1 h2 h3) (by decide)]
    exact one_name s k w hs hk h3
  · have h3f : LexM.isLt s[k] = false := by simpa using h3
    by_cases h4 : LexM.isDg s[k] = true
    · cases hn : LexM.num ((s.data.toList.drop k).take (LexM.endAt LexM.isDg s.data.toList k - k)) with
      | none =>
        rw [oneV_no (LexM.st_numbad hl h1 h2 h3f h4 hn)]
        exact one_num s k w hs hk h3f h4 none hn
      | some n =>
        rw [oneV_tok (LexM.st_num hl h1 h2 h3f h4 hn) (by decide)]
        exact one_num s k w hs hk h3f h4 (some n) hn
    · have h4f : LexM.isDg s[k] = false := by simpa using h4
      cases hf : LexM.signs.find? (fun t => LexM.pre t (s.data.toList.drop k)) with
      | none =>
        rw [oneV_no (LexM.st_none hl h1 h2 h3f h4f hf)]
        exact one_sign s k w hs hk h3f h4f none (Lib.hid hf)
      | some t =>
        rw [oneV_tok (LexM.st_sign hl h1 h2 h3f h4f hf) (by decide), LexM.pre_take (show LexM.pre t (s.data.toList.drop k) = true from List.find?_some (p := fun t => LexM.pre t (s.data.toList.drop k)) hf)]
        exact one_sign s k w hs hk h3f h4f (some t) (Lib.hid hf)

end Go.Proofs.YtnklcoaafgaokaaDoor
