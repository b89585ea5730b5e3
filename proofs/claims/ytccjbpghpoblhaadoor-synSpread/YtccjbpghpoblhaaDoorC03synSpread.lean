/-
  lex.Text, WALKED: the texts of tokens in memory, with one blank between any two.
-/
import Derived.Test.YtccjbpghpoblhaaDoorProg
import Derived.Shelf.Strings.BuilderK
import Derived.WalkKit
import Derived.WalkSpells
import Derived.WalkLawsBesides
import Derived.Lib.Hide
import Derived.Test.YtccjbpghpoblhaaDoorK02
import Derived.Deep.LoopGhost
import Derived.Outline
/-
  strings.Builder AT THIS PROGRAM: copyCheck, WriteByte, WriteString, walked; String off the library's contract.
-/
namespace Go.Proofs.YtccjbpghpoblhaaDoor
open Go.RowKit Go.Shelf

theorem sizeBuilder : (Tryd.prog.info? 77).map (·.size) = some 2 := by kernel_rfl
theorem liesBuilder : liesAt Tryd.prog Tryd.prog.depth 77 (2 / Tryd.prog.cellsOf 77) 0 77 1 = true := by kernel_rfl
theorem infoByte : (Tryd.prog.info? 5).map (fun i => (i.zero, i.size, i.bytes)) = some (some (.int .u8 0), 1, 1) := by kernel_rfl

set_option maxHeartbeats 1000000 in
set_option maxRecDepth 100000 in
theorem copyCheck_used (b : Nat) (w : World) (h0 : w.cell? ⟨b, 0, none⟩ = some (.pointer (some ⟨b, 0, none⟩))) :
    Calls Tryd.prog 43 #[.pointer (some ⟨b, 0, none⟩)] w fun e w' => e = .returned (.tuple #[]) ∧ w = w' := by
  obtain ⟨j, hj, _⟩ := Option.map_eq_some_iff.1 sizeBuilder
  go_enter Tryd.func43, Tryd.ntmps43
  go_wp2
  rw [Lib.run_neq_ptr_same w _ Tryd.underlying75 hj]
  go_wp2
  go_end0
  exact ⟨rfl, rfl⟩

set_option maxHeartbeats 1000000 in
set_option maxRecDepth 100000 in
theorem copyCheck_fresh (b : Nat) (w : World) (h0 : w.cell? ⟨b, 0, none⟩ = some (.pointer none)) (hsh : w.shape? b = some (77, 2)) (hfz : w.frozen? ⟨b, 0, none⟩ = false) :
    Calls Tryd.prog 43 #[.pointer (some ⟨b, 0, none⟩)] w fun e w' => e = .returned (.tuple #[]) ∧ w.setCell ⟨b, 0, none⟩ (.pointer (some ⟨b, 0, none⟩)) = w' := by
  obtain ⟨j, hj, hjs⟩ := Option.map_eq_some_iff.1 sizeBuilder
  go_enter Tryd.func43, Tryd.ntmps43
  go_wp2
  rw [Lib.run_to_unsafe w ⟨b, 0, none⟩ Tryd.underlying75 Tryd.underlying104 hj (by rw [hjs]; decide) hsh (Nat.zero_lt_succ 1)]
  simp only [Result.andThen]
  rw [Oper.upon_value]
  go_wp2
  rw [run_callFunc_extern Tryd.func62 (by kernel_rfl) (by kernel_rfl) (by kernel_rfl) (e := Extern.AbiNoEscape.same) (by kernel_rfl)]
  rw [Lib.run_noEscape]
  simp only [Result.andThen]
  rw [Oper.upon_value]
  go_wp2
  rw [Lib.run_from_unsafe w ⟨b, 0, none⟩ Tryd.underlying104 Tryd.underlying75 hj hsh liesBuilder]
  simp only [Result.andThen]
  rw [Oper.upon_value]
  go_wp2
  go_end0
  exact ⟨rfl, rfl⟩

/-- what a writing method leaves: the builder holds these bytes; nothing below B has turned, and above it no block but the builder's and rows of bytes -/
def Wrote (B b : Nat) (bs : List Value) (w w' : World) : Prop :=
  Lib.BuilderAt 77 5 B b (.pointer (some ⟨b, 0, none⟩)) bs w' ∧ Below B w w' ∧ Lib.OthersKept 5 (some b) w w'

theorem copyCheck_any (B b : Nat) (bs : List Value) (w : World) (h : Lib.IsBuilder 77 5 B b bs w) :
    Calls Tryd.prog 43 #[.pointer (some ⟨b, 0, none⟩)] w fun e w' => e = .returned (.tuple #[]) ∧ Wrote B b bs w w' := by
  rcases h with h | h
  · refine (copyCheck_fresh b w h.cell0 h.shape h.frozen0).mono ?_
    rintro e w' ⟨rfl, rfl⟩
    exact ⟨rfl, h.used _, (Below.refl B w).setCell (p := ⟨b, 0, none⟩) h.1 _, (Lib.OthersKept.refl _ _ w).setCell ⟨b, 0, none⟩ rfl _⟩
  · refine (copyCheck_used b w h.cell0).mono ?_
    rintro e w' ⟨rfl, rfl⟩
    exact ⟨rfl, h, Below.refl B _, Lib.OthersKept.refl _ _ _⟩

theorem own_kind {w : World} {B : Nat} {e : TypeId} {v : Value} {n : Nat} {xs : List Value} (h : w.ownsRow B e 1 v n xs) : ∀ g, v.ownBlock = some g → ∃ c fz, w.heap[g]? = some (.cells c e fz) := by
  intro g hg
  rcases h.2 with ⟨rfl, _⟩ | ⟨g', cap, cur, rfl, _, hh, _⟩
  · cases hg
  · simp only [Value.ownBlock, Option.some.injEq] at hg
    subst hg
    exact ⟨cur, (0, 0), hh⟩

theorem lt_of_heap {w : World} {b : Nat} {o : Obj} (h : w.heap[b]? = some o) : b < w.heap.size := (Array.getElem?_eq_some_iff.1 h).1

set_option maxHeartbeats 2000000 in
set_option maxRecDepth 100000 in
theorem writeByte_any (B b : Nat) (bs : List Value) (c : Int) (w : World) (h : Lib.IsBuilder 77 5 B b bs w) (hlen : bs.length + 1 ≤ 140737488355328) (hBw : B ≤ w.heap.size) :
    Calls Tryd.prog 31 #[.pointer (some ⟨b, 0, none⟩), .int .u8 c] w fun e w' => e = .returned .nilIface ∧ Wrote B b (bs ++ [.int .u8 c]) w w' := by
  obtain ⟨i0, hi, hz0, hz1, hz2⟩ := info_parts infoByte
  go_enter Tryd.func31, Tryd.ntmps31
  go_wp2_with (go_at_call 43; refine (copyCheck_any B b bs _ h).mono ?_)
  rintro e w1 ⟨rfl, h1, hb1, hk1⟩
  obtain ⟨hB, v, hbk, hown, hne⟩ := h1
  have c0 : w1.cell? ⟨b, 0, none⟩ = some (.pointer (some ⟨b, 0, none⟩)) := by rw [Lib.cell_of_heap hbk]; rfl
  have c1 : w1.cell? ⟨b, 1, none⟩ = some v := by rw [Lib.cell_of_heap hbk]; rfl
  go_wp2_with (at_builtin; refine wpList_append_own _ rfl _ _ 60 rfl B 5 i0 (.int .u8 0) 1 1 Tryd.underlying60 hi hz0 hz1 hz2 rfl (by decide) _ _ _ rfl (hown.alloc _) ⟨w1.heap.size, 0, none⟩ 1 1 [.int .u8 c] rfl rfl (cell_one_new _ _ _) ?c2 ?c3 ?c4 ?c5 ?_)
  case c2 => intro u hu; simp at hu; subst hu; rfl
  case c3 => unfold maxLen; omega
  case c4 => omega
  case c5 => have := hb1.size; simp; omega
  intro v' w2 hown' hgrow _
  have hlt := lt_of_heap hbk
  have hb2 : w2.heap[b]? = some (.cells #[.pointer (some ⟨b, 0, none⟩), v] 77 (0, 0)) := by
    rw [hgrow.block b (by simp; omega) (fun e => hne e.symm), Lib.alloc_old w1 _ b hlt]
    exact hbk
  have d0 : w2.cell? ⟨b, 0, none⟩ = some (.pointer (some ⟨b, 0, none⟩)) := by rw [Lib.cell_of_heap hb2]; rfl
  have d1 : w2.cell? ⟨b, 1, none⟩ = some v := by rw [Lib.cell_of_heap hb2]; rfl
  have f1 : w2.frozen? ⟨b, 1, none⟩ = false := Lib.frozen_of_heap hb2 1
  obtain ⟨g, cap, rfl⟩ : ∃ g cap, v' = .slice (some ⟨g, 0, none⟩) (bs.length + 1) cap := by
    rcases hown'.2 with ⟨_, h0⟩ | ⟨g, cap, cur, hv, _⟩
    · omega
    · exact ⟨g, cap, hv⟩
  go_wp2
  go_ret
  refine ⟨rfl, ?_, ?_, ((hk1.alloc _).grown hgrow (own_kind (hown.alloc _))).setCell ⟨b, 1, none⟩ rfl _⟩
  · exact Lib.BuilderAt.put (T := 77) (e := 5) hB hb2 (bs' := bs ++ [.int .u8 c]) (by simpa using hown') (by decide)
  · exact ((hb1.alloc (by have := hb1.size; omega) _).grown hgrow (by have := hb1.size; simp; omega) (fun k hk => (hown.lt k hk).1)).setCell (p := ⟨b, 1, none⟩) hB _

set_option maxHeartbeats 2000000 in
set_option maxRecDepth 100000 in
theorem writeString_any (B b : Nat) (bs : List Value) (s : ByteArray) (w : World) (h : Lib.IsBuilder 77 5 B b bs w) (hlen : bs.length + s.size ≤ 140737488355328) (hBw : B ≤ w.heap.size) :
    Calls Tryd.prog 32 #[.pointer (some ⟨b, 0, none⟩), .string s] w fun e w' => e = .returned (.tuple #[.int .i64 s.size, .nilIface]) ∧ Wrote B b (bs ++ Lib.strCells s) w w' := by
  obtain ⟨i0, hi, hz0, hz1, hz2⟩ := info_parts infoByte
  go_enter Tryd.func32, Tryd.ntmps32
  go_wp2_with (go_at_call 43; refine (copyCheck_any B b bs _ h).mono ?_)
  rintro e w1 ⟨rfl, h1, hb1, hk1⟩
  obtain ⟨hB, v, hbk, hown, hne⟩ := h1
  have c0 : w1.cell? ⟨b, 0, none⟩ = some (.pointer (some ⟨b, 0, none⟩)) := by rw [Lib.cell_of_heap hbk]; rfl
  have c1 : w1.cell? ⟨b, 1, none⟩ = some v := by rw [Lib.cell_of_heap hbk]; rfl
  go_wp2_with (at_builtin; refine Lib.wpList_append_own_string _ rfl _ _ 60 9 rfl B 5 i0 Tryd.underlying60 Tryd.underlying9 hi hz0 hz1 hz2 _ _ _ rfl hown s rfl ?c3 ?c4 ?c5 ?_)
  case c3 => unfold maxLen; omega
  case c4 => omega
  case c5 => have := hb1.size; omega
  intro v' w2 hown' hgrow _
  have hlt := lt_of_heap hbk
  have hb2 : w2.heap[b]? = some (.cells #[.pointer (some ⟨b, 0, none⟩), v] 77 (0, 0)) := by
    rw [hgrow.block b hlt (fun e => hne e.symm)]
    exact hbk
  have d0 : w2.cell? ⟨b, 0, none⟩ = some (.pointer (some ⟨b, 0, none⟩)) := by rw [Lib.cell_of_heap hb2]; rfl
  have d1 : w2.cell? ⟨b, 1, none⟩ = some v := by rw [Lib.cell_of_heap hb2]; rfl
  have f1 : w2.frozen? ⟨b, 1, none⟩ = false := Lib.frozen_of_heap hb2 1
  obtain ⟨ao, n', cap, rfl⟩ : ∃ ao n' cap, v' = .slice ao n' cap := by
    rcases hown'.2 with ⟨hv, _⟩ | ⟨g, cap, cur, hv, _⟩
    · exact ⟨_, _, _, hv⟩
    · exact ⟨_, _, _, hv⟩
  go_wp2
  go_ret2
  refine ⟨rfl, ?_, ?_, (hk1.grown hgrow (own_kind hown)).setCell ⟨b, 1, none⟩ rfl _⟩
  · exact Lib.BuilderAt.put (T := 77) (e := 5) hB hb2 (bs' := bs ++ Lib.strCells s) (by simpa [Lib.strCells_length] using hown') (by decide)
  · exact (hb1.grown hgrow (by have := hb1.size; omega) (fun k hk => (hown.lt k hk).1)).setCell (p := ⟨b, 1, none⟩) hB _

def lays169_ren : Go.Shelf.Ren := ⟨fun | 169 => 33 | n => n, fun | 70 => 75 | 9 => 9 | 0 => 0 | 72 => 77 | 37 => 60 | 127 => 95 | 3 => 3 | 5 => 5 | n => n, fun | n => n⟩
theorem lays169 : Go.Proofs.Lays.n169 Tryd.prog lays169_ren := {
  mixed := by kernel_rfl
  f169 := Tryd.func33.trans (congrArg some (by kernel_rfl))
  t0 := Tryd.underlying0
  a0 := Tryd.isAgg0
  z0 := Tryd.sizeOf0
  v0 := Tryd.zeroValue0
  t3 := Tryd.underlying3
  a3 := Tryd.isAgg3
  z3 := Tryd.sizeOf3
  v3 := Tryd.zeroValue3
  t9 := Tryd.underlying9
  a9 := Tryd.isAgg9
  z9 := Tryd.sizeOf9
  v9 := Tryd.zeroValue9
  t37 := Tryd.underlying60
  a37 := Tryd.isAgg60
  z37 := Tryd.sizeOf60
  v37 := Tryd.zeroValue60
  t70 := Tryd.underlying75
  a70 := Tryd.isAgg75
  z70 := Tryd.sizeOf75
  v70 := Tryd.zeroValue75
  t72 := Tryd.underlying77
  a72 := Tryd.isAgg77
  z72 := Tryd.sizeOf77
  v72 := Tryd.zeroValue77
  t127 := Tryd.underlying95
  a127 := Tryd.isAgg95
  z127 := Tryd.sizeOf95
  v127 := Tryd.zeroValue95 }
theorem extra169 : Builder.Extra Tryd.prog lays169_ren := {
  sizeBuilder := by kernel_rfl
  liesBuilder := by kernel_rfl
  t5 := Tryd.underlying5
  a5 := Tryd.isAgg5
  z5 := Tryd.sizeOf5
  v5 := Tryd.zeroValue5
  infoByte := by kernel_rfl
  cellsByte := by kernel_rfl
  sizeByte := by kernel_rfl
  neB5 := by decide }
theorem string_any (B b : Nat) (l : List UInt8) (w : World) (h : Lib.IsBuilder 77 5 B b (Lib.byteCells l) w) (hBw : B ≤ w.heap.size) :
    Calls Tryd.prog 33 #[.pointer (some ⟨b, 0, none⟩)] w fun e w' => e = .returned (.string ⟨l.toArray⟩) ∧ Below B w w' := Any.Builder_String_any lays169 extra169 B b l w h hBw

end Go.Proofs.YtccjbpghpoblhaaDoor

namespace Go.Proofs.YtccjbpghpoblhaaDoor
open Go.RowKit
open LexM (joinSp)

/-- any token, as it lies in memory -/
structure GTk where
  a : Int
  s : ByteArray
  b : Int
  c : Int
def gOf (t : LexM.Tk) : GTk := ⟨t.kind, str t.text, t.n, t.pos⟩

/-- tokens in memory: each one's four cells, below block B -/
def Toks (w : World) (B : Nat) (A : Option Addr) (ts : List GTk) : Prop :=
  ∀ i t, ts[i]? = some t → ∃ b off, A = some ⟨b, off, none⟩ ∧ b < B ∧ w.cell? ⟨b, off + i * 4, none⟩ = some (.int .i64 t.a) ∧ w.cell? ⟨b, off + i * 4 + 1, none⟩ = some (.string t.s) ∧
    w.cell? ⟨b, off + i * 4 + 2, none⟩ = some (.int .i64 t.b) ∧ w.cell? ⟨b, off + i * 4 + 3, none⟩ = some (.int .i64 t.c)
theorem Toks.below {w w' : World} {B : Nat} {A : Option Addr} {ts : List GTk} (h : Toks w B A ts) (hb : Below B w w') : Toks w' B A ts := by
  intro i t ht
  obtain ⟨b, off, e, hlt, c0, c1, c2, c3⟩ := h i t ht
  exact ⟨b, off, e, hlt, (hb.cell (p := ⟨b, _, none⟩) hlt).trans c0, (hb.cell (p := ⟨b, _, none⟩) hlt).trans c1, (hb.cell (p := ⟨b, _, none⟩) hlt).trans c2, (hb.cell (p := ⟨b, _, none⟩) hlt).trans c3⟩

theorem joinSp_snoc (xs : List (List UInt8)) (x : List UInt8) (h : xs ≠ []) : joinSp (xs ++ [x]) = joinSp xs ++ [32] ++ x := by
  cases xs with
  | nil => exact absurd rfl h
  | cons y r => simp [joinSp]
theorem joinSp_take (xs : List (List UInt8)) (k : Nat) : (joinSp (xs.take k)).length ≤ (joinSp xs).length := by
  cases k with
  | zero => simp [joinSp]
  | succ k =>
    cases xs with
    | nil => simp
    | cons x r =>
      rw [List.take_succ_cons]
      simp only [joinSp, List.length_append]
      have h : r.flatMap (fun y => 32 :: y) = (r.take k).flatMap (fun y => (32 : UInt8) :: y) ++ (r.drop k).flatMap (fun y => 32 :: y) := by rw [← List.flatMap_append, List.take_append_drop]
      rw [h, List.length_append]; omega
def gTexts (ts : List GTk) : List (List UInt8) := ts.map fun t => t.s.data.toList
theorem gTexts_step {ts : List GTk} {k : Nat} {t : GTk} (h : ts[k]? = some t) : (gTexts ts).take (k + 1) = (gTexts ts).take k ++ [t.s.data.toList] := by
  unfold gTexts
  rw [List.take_add_one, List.getElem?_map, h]; rfl

theorem byteCells_len (l : List UInt8) : (Lib.byteCells l).length = l.length := by simp [Lib.byteCells]
theorem byteCells_app (l : List UInt8) (s : ByteArray) : Lib.byteCells (l ++ s.data.toList) = Lib.byteCells l ++ Lib.strCells s := by simp [Lib.byteCells, Lib.strCells]
theorem byteCells_one (l : List UInt8) : Lib.byteCells (l ++ [32]) = Lib.byteCells l ++ [.int .u8 32] := by simp [Lib.byteCells]
theorem bAt_alloc {B b : Nat} {p : Value} {bs : List Value} {w : World} (h : Lib.BuilderAt 77 5 B b p bs w) (o : Obj) : Lib.BuilderAt 77 5 B b p bs (w.alloc o) := by
  obtain ⟨hB, v, hb, hown, hne⟩ := h
  exact ⟨hB, v, (Lib.alloc_old w o b (lt_of_heap hb)).trans hb, hown.alloc o, hne⟩
theorem isB_alloc {B b : Nat} {bs : List Value} {w : World} (h : Lib.IsBuilder 77 5 B b bs w) (o : Obj) : Lib.IsBuilder 77 5 B b bs (w.alloc o) :=
  h.elim (fun x => .inl (bAt_alloc x o)) (fun x => .inr (bAt_alloc x o))
theorem isB_lt {B b : Nat} {bs : List Value} {w : World} (h : Lib.IsBuilder 77 5 B b bs w) : b < w.heap.size := h.elim (fun x => x.lt) (fun x => x.lt)
theorem box_kept {B b : Nat} {bs : List Value} {w w2 : World} {x y z : Value} {s : Value} (h : Lib.IsBuilder 77 5 B b bs w) (hk : Lib.OthersKept 5 (some b) (w.alloc (.cells #[x, s, y, z] 37)) w2) :
    w2.cell? ⟨w.heap.size, 1, none⟩ = some s ∧ w.heap.size < w2.heap.size := by
  have hlt := isB_lt h
  have h2 := hk w.heap.size (.cells #[x, s, y, z] 37) (heap_alloc_new w _) (by simp; omega) (fun c fz e => by injection e with _ e2 _; cases e2)
  exact ⟨by rw [Lib.cell_of_heap h2]; rfl, lt_of_heap h2⟩

set_option maxRecDepth 100000 in
set_option maxHeartbeats 1000000 in
theorem Text_any (A : Option Addr) (c : Nat) (ts : List GTk) (w : World) (hn : ts.length ≤ maxLen) (hT : Hid (Toks w w.heap.size A ts)) (hL : Hid ((joinSp (gTexts ts)).length ≤ 140737488355328)) :
    Calls Tryd.prog 13 #[.slice A ts.length c] w fun e w' => e = .returned (.string (str (joinSp (gTexts ts)))) ∧ Below w.heap.size w w' := by
  unfold maxLen at hn
  go_enter Tryd.func13, Tryd.ntmps13
  go_wp2
  go_loopg [8] ts.length (fun g i wr => ∃ k : Nat, k + g = ts.length ∧ i = .int .i64 k ∧ Hid (Lib.IsBuilder 77 5 w.heap.size w.heap.size (Lib.byteCells (joinSp ((gTexts ts).take k))) wr) ∧ Hid (Below w.heap.size w wr))
  case atStart => exact ⟨0, by omega, rfl, Lib.hid (Lib.fresh_isBuilder 77 5 w), Lib.hid ((Below.refl _ _).alloc (Nat.le_refl _) _)⟩
  case round =>
    obtain ⟨k, hkg, rfl, HB, HW⟩ := hrel
    have HK := Lib.hid hkg
    clear hkg
    by_cases hlt : k < ts.length
    · have hsome : ts[k]? = some ts[k] := List.getElem?_eq_getElem hlt
      generalize ts[k] = t at hsome
      obtain ⟨b, off, rfl, hbl, c0, c1, c2, c3⟩ := (hT.out.below HW.out) k t hsome
      have HSm := Lib.hid hsome
      clear hsome
      have hst := gTexts_step HSm.out
      have hle := joinSp_take (gTexts ts) (k + 1)
      have hLL := hL.out
      have hgl : (gTexts ts).length = ts.length := by simp [gTexts]
      by_cases h0 : k = 0
      · have HJ : Hid (joinSp ((gTexts ts).take (k + 1)) = joinSp ((gTexts ts).take k) ++ t.s.data.toList) := Lib.hid (by rw [hst, h0]; simp [joinSp])
        have hle2 : (joinSp ((gTexts ts).take k)).length + t.s.size ≤ 140737488355328 := by rw [HJ.out, List.length_append, ← Lib.size_eq] at hle; omega
        have hz : ¬ (0 : Int) < (k : Int) := by omega
        have HWs := HW.out.size
        clear hst hle hLL h0 hgl
        go_wp2_with fail
        refine (writeString_any w.heap.size w.heap.size _ t.s _ (isB_alloc HB.out _) (by rw [byteCells_len]; exact hle2) (by simp; omega)).mono ?_
        rintro e w3 ⟨rfl, hw3⟩
        have HW3 := Lib.hid hw3
        clear hw3
        go_wp2
        go_roundg (gk - 1)
        case measure => have := HK.out; omega
        case rel => exact ⟨k + 1, by have := HK.out; omega, by go_num, Lib.hid (by rw [HJ.out, byteCells_app]; exact .inr HW3.out.1), Lib.hid ((HW.out.alloc HWs _).trans HW3.out.2.1)⟩
      · have hpos : 0 < k := by omega
        have HJ : Hid (joinSp ((gTexts ts).take (k + 1)) = joinSp ((gTexts ts).take k) ++ [32] ++ t.s.data.toList) := Lib.hid (by
          rw [hst]
          refine joinSp_snoc _ _ ?_
          intro e
          have e2 := congrArg List.length e
          rw [List.length_take, hgl, List.length_nil] at e2
          omega)
        have hle2 : (joinSp ((gTexts ts).take k)).length + 1 + t.s.size ≤ 140737488355328 := by rw [HJ.out, List.length_append, List.length_append, ← Lib.size_eq] at hle; simp at hle; omega
        clear hst hle hLL h0 hgl
        have HWs := HW.out.size
        go_wp2_with fail
        refine (writeByte_any w.heap.size w.heap.size _ 32 _ (isB_alloc HB.out _) (by rw [byteCells_len]; omega) (by simp; omega)).mono ?_
        rintro e w2 ⟨rfl, hw2⟩
        obtain ⟨hbox, HW2s⟩ := box_kept HB.out hw2.2.2
        have HW2 := Lib.hid hw2
        clear hw2
        go_wp2_with fail
        refine (writeString_any w.heap.size w.heap.size _ t.s w2 (.inr HW2.out.1) (by rw [List.length_append, byteCells_len]; exact hle2) (by omega)).mono ?_
        rintro e w3 ⟨rfl, hw3⟩
        have HW3 := Lib.hid hw3
        clear hw3
        go_wp2
        go_roundg (gk - 1)
        case measure => have := HK.out; omega
        case rel => exact ⟨k + 1, by have := HK.out; omega, by go_num, Lib.hid (by rw [HJ.out, byteCells_app, byteCells_one]; exact .inr HW3.out.1), Lib.hid (((HW.out.alloc HWs _).trans HW2.out.2.1).trans HW3.out.2.1)⟩
    · go_wp2_with (go_at_call 33; refine (string_any _ _ _ _ HB.out HW.out.size).mono ?_; rintro e w2 ⟨rfl, hb2⟩)
      go_ret
      refine ⟨?_, HW.out.trans hb2⟩
      rw [List.take_of_length_le (by unfold gTexts; simp; omega)]; rfl

end Go.Proofs.YtccjbpghpoblhaaDoor

