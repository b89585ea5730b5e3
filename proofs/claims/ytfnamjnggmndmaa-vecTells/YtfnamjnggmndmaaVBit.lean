/-
  vec.Bits, BY ITS ITERATOR, WALKED.
-/
import Derived.Test.YtfnamjnggmndmaaVSmall
import Derived.RangeFuncNested
import Derived.RangeFuncBound
import Derived.RangeFuncCalls
import Derived.RangeFuncLeaves
import Derived.RangeFuncBox
import Derived.Shelf.Abstract
import Derived.Shelf.RegionOpen
import Derived.OwnWalkIn
import Derived.TacticsInMore
import Derived.LoopNIn
import Derived.LoopIn
import Derived.Maps.AppendAt
import Derived.Sort.CutIn
import Derived.Stop.RegionWithIn
namespace Go.Proofs.Ytfnamjnggmndmaa
open Go.RowKit Go.Shelf
open VecM
attribute [local go_sem] Oper.semAt_some

/-- a number's bits, the lowest first -/
def bitsL (n k : Nat) : List Bool := (List.range k).map fun i => n / 2 ^ i % 2 == 1
theorem bitsL_len (n k : Nat) : (bitsL n k).length = k := by simp [bitsL]
theorem bitsL_take {n k i : Nat} (h : i < k) : (bitsL n k).take (i + 1) = (bitsL n k).take i ++ [n / 2 ^ i % 2 == 1] := by
  rw [List.take_add_one]
  simp [bitsL, h]
theorem bitsL_get {n k i : Nat} (h : i < k) : (bitsL n k)[i]? = some (n / 2 ^ i % 2 == 1) := by simp [bitsL, h]

theorem bit_form (x j : Nat) : (bits .and .i64 ((x : Int) / 2 ^ j) 1 == 1) = (x / 2 ^ j % 2 == 1) := by
  rw [show ((x : Int) / 2 ^ j) = ((x / 2 ^ j : Nat) : Int) by simp, and_one, Bool.eq_iff_iff]
  simp only [beq_iff_eq]
  omega

set_option maxHeartbeats 1000000 in
theorem each_in (F : Fence) (n : Nat) (hf : F.fn 28) (hro : F.round = none) (x k : Int) (w : World) :
    CallsIn F n Try.prog 28 #[.int .i64 x, .int .i64 k] w fun e w' => e = .returned (.func (.func 48) #[] #[.pointer (some ⟨w.heap.size + 1, 0, none⟩), .pointer (some ⟨w.heap.size, 0, none⟩)]) ∧ w' = (w.alloc (.cells #[.int .i64 x] 3)).alloc (.cells #[.int .i64 k] 3) := by
  have hmf : ∀ (fn : Fn) (first cap : Array Value) (w : World), (Instr.makeFunc fn first cap).run Try.prog w = .ok (.func fn first cap) w := fun _ _ _ _ => rfl
  refine callsIn_of_wp Try.func28 rfl hf ?_ hro
  simp only [Try.ntmps28, List.size_toArray, List.length_cons, List.length_nil, Nat.reduceAdd, Nat.reduceSub, Array.replicate_succ, Array.replicate_zero, List.push_toArray, List.append_toArray, List.nil_append, List.cons_append]
  gi_wp2
  go_ret
  exact ⟨rfl, rfl⟩

set_option maxRecDepth 100000 in
set_option maxHeartbeats 4000000 in
theorem each1_stops (n : Nat) (hn : 3 ≤ n) (Bw Bn n₀ x k : Nat) (hk : k ≤ 32) (w : World) (hBw : Bw < n₀) (hBn : Bn < n₀) (hn₀ : n₀ ≤ w.heap.size) (hcw : w.cell? ⟨Bw, 0, none⟩ = some (.int .i64 (k : Nat))) (hcn : w.cell? ⟨Bn, 0, none⟩ = some (.int .i64 (x : Nat))) :
    SeqStopsK Fence.wide n Try.prog 48 #[.pointer (some ⟨Bw, 0, none⟩), .pointer (some ⟨Bn, 0, none⟩)] (fun b : Bool => #[Value.bool b]) (Below n₀) (fun ys => ys = bitsL x k) (fun pre => pre <+: bitsL x k) k w := fun l J Jx W hW _ _ hY h0 => by
  have HB := Lib.hid (hW.mono hn₀)
  have HC := Lib.hid (show ∀ u, Below n₀ w u → u.cell? ⟨Bw, 0, none⟩ = some (.int .i64 (k : Nat)) ∧ u.cell? ⟨Bn, 0, none⟩ = some (.int .i64 (x : Nat)) from fun u hu => ⟨(hu.cell (p := ⟨Bw, 0, none⟩) hBw).trans hcw, (hu.cell (p := ⟨Bn, 0, none⟩) hBn).trans hcn⟩)
  have HY := Lib.hid hY
  have H0 := Lib.hid h0
  clear hY h0 hcw hcn hW
  obtain ⟨c1, c2⟩ := HC.out W HB.out
  refine callsIn_of_wp Try.func48 rfl trivial ?_ rfl
  simp only [Try.ntmps48, List.size_toArray, List.length_cons, List.length_nil, Nat.reduceAdd, Nat.reduceSub, Array.replicate_succ, Array.replicate_zero, List.push_toArray, List.append_toArray, List.nil_append, List.cons_append]
  gi_wp2_with (refine ⟨trivial, fun _ => by omega, (callsIn_wide.2 (near_any k hk _)).mono ?_⟩; rintro e w2 ⟨rfl, rfl⟩)
  clear c1 c2
  gi_loopw [7] (fun i wr => ∃ j : Nat, j ≤ k ∧ i = .int .i64 (j : Nat) ∧ Hid (J ((bitsL x k).take j) wr ∧ Below n₀ w wr)) (fun i _ => k - (intOf i).toNat)
  case atStart => exact ⟨0, Nat.zero_le _, rfl, Lib.hid ⟨H0.out, HB.out⟩⟩
  case round =>
    obtain ⟨j, hj, rfl, HR⟩ := hrel
    by_cases hlt : j < k
    · obtain ⟨fn, tmps, assign, body, hy, hR⟩ := HY.out _ (bits .and .i64 ((x : Int) / 2 ^ j) 1 == 1) wr HR.out.1 (by rw [List.length_take, bitsL_len]; omega)
      obtain ⟨c1, c2⟩ := HC.out wr HR.out.2
      have hd1 : (j : Int) < (k : Int) := by omega
      have hd0 : (0 : Int) ≤ (j : Int) := by omega
      gi_wp2
      refine ⟨fun _ => by omega, hR.mono ?_⟩
      rintro e W3 (⟨rfl, hJ3, hk3⟩ | ⟨rfl, hJx3⟩)
      · rw [bit_form] at hJ3
        have H3 := Lib.hid (And.intro hJ3 hk3)
        clear hJ3 hk3 hy hR
        gi_wp2
        go_roundw
        case rel => exact ⟨j + 1, by omega, by go_num, Lib.hid ⟨by rw [bitsL_take hlt]; exact H3.out.1, HR.out.2.trans H3.out.2⟩⟩
        case measure => simp [intOf]; omega
      · rw [bit_form] at hJx3
        have H3 := Lib.hid hJx3
        clear hJx3 hy hR
        gi_wp2
        refine bodyPost_ret (results_none rfl _ _ _) rfl ?_
        refine ⟨⟨_, rfl⟩, .inr ⟨_, ?_, H3.out⟩⟩
        rw [← bitsL_take hlt]
        exact List.take_prefix _ _
    · obtain rfl : j = k := by omega
      have hd1 : ¬ ((j : Int) < (j : Int)) := by omega
      have HR1 := Lib.hid (show J (bitsL x j) wr by have h := HR.out.1; rw [List.take_of_length_le (by simp [bitsL_len])] at h; exact h)
      clear HR
      gi_wp2
      go_end0
      exact ⟨⟨_, rfl⟩, .inl HR1.out⟩

theorem info4 : (Try.prog.info? 4).map (fun i => (i.zero, i.size, i.bytes)) = some (some (.bool false), 1, 1) := by kernel_rfl
def bcells (l : List Bool) : List Value := l.map Value.bool
theorem bcells_snoc (l : List Bool) (b : Bool) : bcells (l ++ [b]) = bcells l ++ [.bool b] := by simp [bcells]

set_option maxRecDepth 100000 in
set_option maxHeartbeats 4000000 in
/-- slices.AppendSeq of nothing and bits -/
theorem appendSeq_in (n : Nat) (hn : 5 ≤ n) (x k : Nat) (hk : k ≤ 32) (Bw Bn : Nat) (w : World) (hBw : Bw < w.heap.size) (hBn : Bn < w.heap.size) (hcw : w.cell? ⟨Bw, 0, none⟩ = some (.int .i64 (k : Nat))) (hcn : w.cell? ⟨Bn, 0, none⟩ = some (.int .i64 (x : Nat))) :
    CallsIn Fence.wide n Try.prog 47 #[.slice none 0 0, .func (.func 48) #[] #[.pointer (some ⟨Bw, 0, none⟩), .pointer (some ⟨Bn, 0, none⟩)]] w fun e w' => ∃ v, e = .returned v ∧ w'.ownsRow w.heap.size 4 1 v k (bcells (bitsL x k)) ∧ Below w.heap.size w w' := by
  have h1 : 1 ≤ n := by omega
  obtain ⟨i0, hi, hz0, hz1, hz2⟩ := info_parts info4
  refine callsIn_of_wp_marks Try.func47 rfl trivial ?_ rfl
  simp only [Try.ntmps47, List.size_toArray, List.length_cons, List.length_nil, Nat.reduceAdd, Nat.reduceSub, Array.replicate_succ, Array.replicate_zero, List.push_toArray, List.append_toArray, List.nil_append, List.cons_append]
  gi_wp2
  have bO := Boxed.new w 25 (.slice none 0 0)
  have hB0 : Below w.heap.size w (w.alloc (.cells #[.slice none 0 0] 25)) := (Below.refl _ w).alloc (Nat.le_refl _) _
  have dw : (w.alloc (.cells #[.slice none 0 0] 25)).cell? ⟨Bw, 0, none⟩ = some (.int .i64 (k : Nat)) := (hB0.cell (p := ⟨Bw, 0, none⟩) hBw).trans hcw
  have dn : (w.alloc (.cells #[.slice none 0 0] 25)).cell? ⟨Bn, 0, none⟩ = some (.int .i64 (x : Nat)) := (hB0.cell (p := ⟨Bn, 0, none⟩) hBn).trans hcn
  refine wpIn_rangeFunc_ownG rfl h1 (gf := 48) (lb := #[.pointer (some ⟨Bw, 0, none⟩), .pointer (some ⟨Bn, 0, none⟩)]) rfl trivial (enters_of Try.func48 (by kernel_rfl) rfl)
    (each1_stops (n - 1) (by omega) Bw Bn w.heap.size x k hk _ hBw hBn (by simp) dw dn) belowK_t (belowK_b (by simp)) (Below.refl _ _) (fun _ => rfl)
    (fun pre W => (∃ v, Boxed W w.heap.size 25 v ∧ W.ownsRow w.heap.size 4 1 v pre.length (bcells pre) ∧ True) ∧ Below w.heap.size w W)
    (fun _ _ _ => False)
    (OwnFrom.and (Own.from (holdsRow_own w.heap.size w.heap.size 25 4 1 (fun pre => pre.length) (fun pre => bcells pre) (fun pre v => True)) _) (ownFrom_below (Nat.le_refl _) (by simp)))
    (fun _ _ _ _ _ hs _ _ => hs)
    ⟨⟨_, bO, World.ownsRow_nil _ _ _ _, trivial⟩, hB0⟩
    (fun x => { tmps := #[.slice none 0 0, .func (.func 48) #[] #[.pointer (some ⟨Bw, 0, none⟩), .pointer (some ⟨Bn, 0, none⟩)], .pointer (some ⟨w.heap.size, 0, none⟩), undef, .slice none 0 0, .bool x, .func (.func 48) #[] #[.pointer (some ⟨Bw, 0, none⟩), .pointer (some ⟨Bn, 0, none⟩)], .bool x, undef, undef, undef, undef, undef], defers := [] }) ?assign ?body ?done ?stop
  case assign =>
    intro l x W K hK
    gi_wp2
    exact hK
  case body =>
    rintro l pre x W ⟨⟨v, hv, hrow, _⟩, hB⟩ hlt
    have hc := hv.cell
    have hle := hB.size
    gi_wp2_with (gi_at_builtin; refine wpListIn_append_own _ rfl _ _ 25 rfl w.heap.size 4 i0 (.bool false) 1 1 Try.underlying25 hi hz0 hz1 hz2 rfl (by decide) _ _ _ rfl (hrow.alloc _) ⟨W.heap.size, 0, none⟩ 1 1 [.bool x] rfl rfl (cell_one_new _ _ _) (by simp [Value.oneCell']) (by unfold maxLen; omega) (by omega) (by simp; omega) ?_; intro v' w1 hown' hgrow _; obtain ⟨g', cap', rfl⟩ := ownsRow_succ hown'; obtain ⟨hv1, hv2, hr2, hk2, hb2⟩ := hv.appended (by decide) hrow hB.size (by omega) hown' hgrow; have hc1 := hv1.cell; have hf1 := hv1.frozen)
    exact ⟨hk2.from _, hb2, ⟨_, hv2, by rw [bcells_snoc]; simpa using hr2, trivial⟩, hB.trans hb2⟩
  case done =>
    rintro D ys W hD rfl ⟨⟨v, hv, hrow, _⟩, hB⟩ hK
    have hc := hv.cell
    rw [bitsL_len] at hrow
    gi_wp2
    refine ⟨by simp, .inl ⟨_, _, rfl, run_takeDeferred hK, ?_⟩⟩
    exact ⟨_, results_tmp rfl _ _ _, v, rfl, ownsRow_putObj hrow _ hK rfl, hB.trans (belowK_b (w := w) (Nat.le_refl _) W D _ _ (by simp at hD; omega) hK rfl rfl)⟩
  case stop =>
    rintro D c pre W _ _ h _
    exact h.elim

/-- a row of bits -/
def Bls (w : World) (B : Nat) (A : Option Addr) (bs : List Bool) : Prop :=
  ∀ (i : Nat) (b : Bool), bs[i]? = some b → ∃ g off, A = some ⟨g, off, none⟩ ∧ g < B ∧ w.cell? ⟨g, off + i, none⟩ = some (.bool b)
theorem Bls.below {w w' : World} {B : Nat} {A : Option Addr} {ns : List Bool} (h : Bls w B A ns) (hb : Below B w w') : Bls w' B A ns := by
  intro i s hi
  obtain ⟨b, off, e, hlt, hc⟩ := h i s hi
  exact ⟨b, off, e, hlt, by rw [hb.cell (p := ⟨b, off + i, none⟩) hlt]; exact hc⟩
theorem Bls.more {w : World} {B B' : Nat} {A : Option Addr} {ns : List Bool} (h : Bls w B A ns) (hb : B ≤ B') : Bls w B' A ns := by
  intro i s hi
  obtain ⟨b, off, e, hlt, hc⟩ := h i s hi
  exact ⟨b, off, e, by omega, hc⟩
theorem bls_of_own {w : World} {base n : Nat} {v : Value} {xs : List Bool} (h : w.ownsRow base 4 1 v n (bcells xs)) (hn : xs.length = n) : ∃ A c, v = .slice A n c ∧ Bls w w.heap.size A xs := by
  rcases h.2 with ⟨rfl, h0⟩ | ⟨g, cap, cur, rfl, hb, hh, hn', hc, hsz, ht⟩
  · refine ⟨none, 0, by rw [h0], ?_⟩
    intro i t hi
    rw [List.eq_nil_of_length_eq_zero (hn.trans h0)] at hi
    simp at hi
  · refine ⟨some ⟨g, 0, none⟩, cap, rfl, ?_⟩
    intro i t hi
    have hil : i < n := by have := (List.getElem?_eq_some_iff.1 hi).1; omega
    refine ⟨g, 0, rfl, (Array.getElem?_eq_some_iff.1 hh).1, ?_⟩
    have : (bcells xs)[i]? = some (.bool t) := by simp [bcells, hi]
    rw [← ht, List.getElem?_take_of_lt (by omega)] at this
    simp only [World.cell?, hh]
    simpa using this

theorem heap_at (w : World) (o : Obj) : (w.alloc o).heap[w.heap.size]? = some o := by
  show (w.heap.push _)[w.heap.size]? = _
  simp
def BitsRet (w : World) (x k : Nat) (e : Ending) (w' : World) : Prop := ∃ A c, e = .returned (.slice A k c) ∧ Bls w' w'.heap.size A (bitsL x k) ∧ Below w.heap.size w w'

set_option maxHeartbeats 1000000 in
theorem collect_in (n : Nat) (hn : 6 ≤ n) (x k : Nat) (hk : k ≤ 32) (Bw Bn : Nat) (w : World) (hBw : Bw < w.heap.size) (hBn : Bn < w.heap.size) (hcw : w.cell? ⟨Bw, 0, none⟩ = some (.int .i64 (k : Nat))) (hcn : w.cell? ⟨Bn, 0, none⟩ = some (.int .i64 (x : Nat))) :
    CallsIn Fence.wide n Try.prog 27 #[.func (.func 48) #[] #[.pointer (some ⟨Bw, 0, none⟩), .pointer (some ⟨Bn, 0, none⟩)]] w fun e w' => ∃ v, e = .returned v ∧ w'.ownsRow w.heap.size 4 1 v k (bcells (bitsL x k)) ∧ Below w.heap.size w w' := by
  refine callsIn_of_wp Try.func27 rfl trivial ?_ rfl
  simp only [Try.ntmps27, List.size_toArray, List.length_cons, List.length_nil, Nat.reduceAdd, Nat.reduceSub, Array.replicate_succ, Array.replicate_zero, List.push_toArray, List.append_toArray, List.nil_append, List.cons_append]
  gi_wp2_with (refine ⟨trivial, fun _ => by omega, (appendSeq_in (n - 1) (by omega) x k hk Bw Bn _ hBw hBn hcw hcn).mono ?_⟩; rintro e w' ⟨v, rfl, hrow, hb⟩)
  go_ret
  exact ⟨v, rfl, hrow, hb⟩

set_option maxHeartbeats 1000000 in
theorem bits_in (x k : Nat) (hk : k ≤ 32) (w : World) : CallsIn Fence.wide 7 Try.prog 17 #[.int .i64 (x : Nat), .int .i64 (k : Nat)] w (BitsRet w x k) := by
  have hB : Below w.heap.size w ((w.alloc (.cells #[.int .i64 (x : Nat)] 3)).alloc (.cells #[.int .i64 (k : Nat)] 3)) := ((Below.refl _ _).alloc (Nat.le_refl _) _).alloc (by simp) _
  have dw : ((w.alloc (.cells #[.int .i64 (x : Nat)] 3)).alloc (.cells #[.int .i64 (k : Nat)] 3)).cell? ⟨w.heap.size + 1, 0, none⟩ = some (.int .i64 (k : Nat)) := by
    have h := heap_at (w.alloc (.cells #[.int .i64 (x : Nat)] 3)) (.cells #[.int .i64 (k : Nat)] 3)
    rw [World.size_alloc] at h
    simp only [World.cell?, h]
    rfl
  have dn : ((w.alloc (.cells #[.int .i64 (x : Nat)] 3)).alloc (.cells #[.int .i64 (k : Nat)] 3)).cell? ⟨w.heap.size, 0, none⟩ = some (.int .i64 (x : Nat)) := by
    have h := heap_at w (.cells #[.int .i64 (x : Nat)] 3)
    rw [((Below.refl _ (w.alloc (.cells #[.int .i64 (x : Nat)] 3))).alloc (Nat.le_refl _) (.cells #[.int .i64 (k : Nat)] 3)).cell (by simp)]
    simp only [World.cell?, h]
    rfl
  refine callsIn_of_wp Try.func17 rfl trivial ?_ rfl
  simp only [Try.ntmps17, List.size_toArray, List.length_cons, List.length_nil, Nat.reduceAdd, Nat.reduceSub, Array.replicate_succ, Array.replicate_zero, List.push_toArray, List.append_toArray, List.nil_append, List.cons_append]
  gi_wp2_with (first
    | (refine ⟨trivial, (each_in Fence.wide _ trivial rfl _ _ _).mono ?_⟩; rintro e w' ⟨rfl, rfl⟩)
    | (refine ⟨trivial, (collect_in _ (by omega) x k hk (w.heap.size + 1) w.heap.size _ (by simp) (by simp; omega) dw dn).mono ?_⟩; rintro e w' ⟨v, rfl, hrow, hb⟩))
  obtain ⟨A, c, rfl, hbl⟩ := bls_of_own hrow (bitsL_len x k)
  go_ret
  exact ⟨A, c, rfl, hbl, hB.trans (hb.mono (by simp; omega))⟩
theorem Bits_any (x k : Nat) (hk : k ≤ 32) (w : World) : Calls Try.prog 17 #[.int .i64 (x : Nat), .int .i64 (k : Nat)] w (BitsRet w x k) := callsIn_wide.1 (bits_in x k hk w)
end Go.Proofs.Ytfnamjnggmndmaa
