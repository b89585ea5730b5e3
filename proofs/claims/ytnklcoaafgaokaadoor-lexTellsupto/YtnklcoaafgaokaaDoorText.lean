/-
  lex.Text, WALKED: the texts of tokens in memory, with one blank between any two.
-/
import Derived.Test.YtnklcoaafgaokaaDoorLexMem
import Derived.Test.YtnklcoaafgaokaaDoorBuild
import Derived.Deep.LoopGhost
import Derived.Outline
namespace Go.Proofs.YtnklcoaafgaokaaDoor
open Go.RowKit
open LexM (joinSp)

/-- any token, as it lies in memory -/
structure GTk where
  a : Int
  s : ByteArray
  b : Int
  c : Int
def gOf (t : LexM.Tk) : GTk := ⟨t.kind, str t.text, t.n, t.pos⟩

/-- tokens in memory: each one's four cells, below block B -/
def Toks (w : World) (B : Nat) (A : Option Addr) (ts : List GTk) : Prop :=
  ∀ i t, ts[i]? = some t → ∃ b off, A = some ⟨b, off, none⟩ ∧ b < B ∧ w.cell? ⟨b, off + i * 4, none⟩ = some (.int .i64 t.a) ∧ w.cell? ⟨b, off + i * 4 + 1, none⟩ = some (.string t.s) ∧
    w.cell? ⟨b, off + i * 4 + 2, none⟩ = some (.int .i64 t.b) ∧ w.cell? ⟨b, off + i * 4 + 3, none⟩ = some (.int .i64 t.c)
theorem Toks.below {w w' : World} {B : Nat} {A : Option Addr} {ts : List GTk} (h : Toks w B A ts) (hb : Below B w w') : Toks w' B A ts := by
  intro i t ht
  obtain ⟨b, off, e, hlt, c0, c1, c2, c3⟩ := h i t ht
  exact ⟨b, off, e, hlt, (hb.cell (p := ⟨b, _, none⟩) hlt).trans c0, (hb.cell (p := ⟨b, _, none⟩) hlt).trans c1, (hb.cell (p := ⟨b, _, none⟩) hlt).trans c2, (hb.cell (p := ⟨b, _, none⟩) hlt).trans c3⟩

theorem joinSp_snoc (xs : List (List UInt8)) (x : List UInt8) (h : xs ≠ []) : joinSp (xs ++ [x]) = joinSp xs ++ [32] ++ x := by
  cases xs with
  | nil => exact absurd rfl h
  | cons y r => simp [joinSp]
theorem joinSp_take (xs : List (List UInt8)) (k : Nat) : (joinSp (xs.take k)).length ≤ (joinSp xs).length := by
  cases k with
  | zero => simp [joinSp]
  | succ k =>
    cases xs with
    | nil => simp
    | cons x r =>
      rw [List.take_succ_cons]
      simp only [joinSp, List.length_append]
      have h : r.flatMap (fun y => 32 :: y) = (r.take k).flatMap (fun y => (32 : UInt8) :: y) ++ (r.drop k).flatMap (fun y => 32 :: y) := by rw [← List.flatMap_append, List.take_append_drop]
      rw [h, List.length_append]; omega
def gTexts (ts : List GTk) : List (List UInt8) := ts.map fun t => t.s.data.toList
theorem gTexts_step {ts : List GTk} {k : Nat} {t : GTk} (h : ts[k]? = some t) : (gTexts ts).take (k + 1) = (gTexts ts).take k ++ [t.s.data.toList] := by
  unfold gTexts
  rw [List.take_add_one, List.getElem?_map, h]; rfl

theorem byteCells_len (l : List UInt8) : (Lib.byteCells l).length = l.length := by simp [Lib.byteCells]
theorem byteCells_app (l : List UInt8) (s : ByteArray) : Lib.byteCells (l ++ s.data.toList) = Lib.byteCells l ++ Lib.strCells s := by simp [Lib.byteCells, Lib.strCells]
theorem byteCells_one (l : List UInt8) : Lib.byteCells (l ++ [32]) = Lib.byteCells l ++ [.int .u8 32] := by simp [Lib.byteCells]
theorem bAt_alloc {B b : Nat} {p : Value} {bs : List Value} {w : World} (h : Lib.BuilderAt 48 5 B b p bs w) (o : Obj) : Lib.BuilderAt 48 5 B b p bs (w.alloc o) := by
  obtain ⟨hB, v, hb, hown, hne⟩ := h
  exact ⟨hB, v, (Lib.alloc_old w o b (lt_of_heap hb)).trans hb, hown.alloc o, hne⟩
theorem isB_alloc {B b : Nat} {bs : List Value} {w : World} (h : Lib.IsBuilder 48 5 B b bs w) (o : Obj) : Lib.IsBuilder 48 5 B b bs (w.alloc o) :=
  h.elim (fun x => .inl (bAt_alloc x o)) (fun x => .inr (bAt_alloc x o))
theorem isB_lt {B b : Nat} {bs : List Value} {w : World} (h : Lib.IsBuilder 48 5 B b bs w) : b < w.heap.size := h.elim (fun x => x.lt) (fun x => x.lt)
theorem box_kept {B b : Nat} {bs : List Value} {w w2 : World} {x y z : Value} {s : Value} (h : Lib.IsBuilder 48 5 B b bs w) (hk : Lib.OthersKept 5 (some b) (w.alloc (.cells #[x, s, y, z] 33)) w2) :
    w2.cell? ⟨w.heap.size, 1, none⟩ = some s ∧ w.heap.size < w2.heap.size := by
  have hlt := isB_lt h
  have h2 := hk w.heap.size (.cells #[x, s, y, z] 33) (heap_alloc_new w _) (by simp; omega) (fun c fz e => by injection e with _ e2 _; cases e2)
  exact ⟨by rw [Lib.cell_of_heap h2]; rfl, lt_of_heap h2⟩

set_option maxRecDepth 100000 in
set_option maxHeartbeats 1000000 in
theorem Text_any (A : Option Addr) (c : Nat) (ts : List GTk) (w : World) (hn : ts.length ≤ maxLen) (hT : Hid (Toks w w.heap.size A ts)) (hL : Hid ((joinSp (gTexts ts)).length ≤ 140737488355328)) :
    Calls Tryd.prog 15 #[.slice A ts.length c] w fun e w' => e = .returned (.string (str (joinSp (gTexts ts)))) ∧ Below w.heap.size w w' := by
  unfold maxLen at hn
  go_enter Tryd.func15, Tryd.ntmps15
  go_wp2
  go_loopg [8] ts.length (fun g i wr => ∃ k : Nat, k + g = ts.length ∧ i = .int .i64 k ∧ Hid (Lib.IsBuilder 48 5 w.heap.size w.heap.size (Lib.byteCells (joinSp ((gTexts ts).take k))) wr) ∧ Hid (Below w.heap.size w wr))
  case atStart => exact ⟨0, by omega, rfl, Lib.hid (Lib.fresh_isBuilder 48 5 w), Lib.hid ((Below.refl _ _).alloc (Nat.le_refl _) _)⟩
  case round =>
    obtain ⟨k, hkg, rfl, HB, HW⟩ := hrel
    have HK := Lib.hid hkg
    clear hkg
    by_cases hlt : k < ts.length
    · have hsome : ts[k]? = some ts[k] := List.getElem?_eq_getElem hlt
      generalize ts[k] = t at hsome
      obtain ⟨b, off, rfl, hbl, c0, c1, c2, c3⟩ := (hT.out.below HW.out) k t hsome
      have HSm := Lib.hid hsome
      clear hsome
      have hst := gTexts_step HSm.out
      have hle := joinSp_take (gTexts ts) (k + 1)
      have hLL := hL.out
      have hgl : (gTexts ts).length = ts.length := by simp [gTexts]
      by_cases h0 : k = 0
      · have HJ : Hid (joinSp ((gTexts ts).take (k + 1)) = joinSp ((gTexts ts).take k) ++ t.s.data.toList) := Lib.hid (by rw [hst, h0]; simp [joinSp])
        have hle2 : (joinSp ((gTexts ts).take k)).length + t.s.size ≤ 140737488355328 := by rw [HJ.out, List.length_append, ← Lib.size_eq] at hle; omega
        have hz : ¬ (0 : Int) < (k : Int) := by omega
        have HWs := HW.out.size
        clear hst hle hLL h0 hgl
        go_wp2_with fail
        refine (writeString_any w.heap.size w.heap.size _ t.s _ (isB_alloc HB.out _) (by rw [byteCells_len]; exact hle2) (by simp; omega)).mono ?_
        rintro e w3 ⟨rfl, hw3⟩
        have HW3 := Lib.hid hw3
        clear hw3
        go_wp2
        go_roundg (gk - 1)
        case measure => have := HK.out; omega
        case rel => exact ⟨k + 1, by have := HK.out; omega, by go_num, Lib.hid (by rw [HJ.out, byteCells_app]; exact .inr HW3.out.1), Lib.hid ((HW.out.alloc HWs _).trans HW3.out.2.1)⟩
      · have hpos : 0 < k := by omega
        have HJ : Hid (joinSp ((gTexts ts).take (k + 1)) = joinSp ((gTexts ts).take k) ++ [32] ++ t.s.data.toList) := Lib.hid (by
          rw [hst]
          refine joinSp_snoc _ _ ?_
          intro e
          have e2 := congrArg List.length e
          rw [List.length_take, hgl, List.length_nil] at e2
          omega)
        have hle2 : (joinSp ((gTexts ts).take k)).length + 1 + t.s.size ≤ 140737488355328 := by rw [HJ.out, List.length_append, List.length_append, ← Lib.size_eq] at hle; simp at hle; omega
        clear hst hle hLL h0 hgl
        have HWs := HW.out.size
        go_wp2_with fail
        refine (writeByte_any w.heap.size w.heap.size _ 32 _ (isB_alloc HB.out _) (by rw [byteCells_len]; omega) (by simp; omega)).mono ?_
        rintro e w2 ⟨rfl, hw2⟩
        obtain ⟨hbox, HW2s⟩ := box_kept HB.out hw2.2.2
        have HW2 := Lib.hid hw2
        clear hw2
        go_wp2_with fail
        refine (writeString_any w.heap.size w.heap.size _ t.s w2 (.inr HW2.out.1) (by rw [List.length_append, byteCells_len]; exact hle2) (by omega)).mono ?_
        rintro e w3 ⟨rfl, hw3⟩
        have HW3 := Lib.hid hw3
        clear hw3
        go_wp2
        go_roundg (gk - 1)
        case measure => have := HK.out; omega
        case rel => exact ⟨k + 1, by have := HK.out; omega, by go_num, Lib.hid (by rw [HJ.out, byteCells_app, byteCells_one]; exact .inr HW3.out.1), Lib.hid (((HW.out.alloc HWs _).trans HW2.out.2.1).trans HW3.out.2.1)⟩
    · go_wp2_with (go_at_call 33; refine (string_any _ _ _ _ HB.out HW.out.size).mono ?_; rintro e w2 ⟨rfl, hb2⟩)
      go_ret
      refine ⟨?_, HW.out.trans hb2⟩
      rw [List.take_of_length_le (by unfold gTexts; simp; omega)]; rfl

end Go.Proofs.YtnklcoaafgaokaaDoor
