/-
  slices.Backward over expressions, WALKED.
-/
import Derived.Test.YtjkaeabnjkhllaaScRow
namespace Go.Proofs.Ytjkaeabnjkhllaa
open Go.RowKit Go.Shelf
attribute [local go_sem] Oper.semAt_some

/-- a kid where it stands: its place, and its cells -/
abbrev Kc := Nat × Hd × Option Addr × Nat × Nat
def kcCells (x : Kc) : List Value := hdCells x.2.1 (.slice x.2.2.1 x.2.2.2.1 x.2.2.2.2)
def kcVals (x : Kc) : Array Value := #[.int .i64 (x.1 : Nat), .agg #[.int .i64 x.2.1.op, .string x.2.1.val.1, .int .i64 x.2.1.val.2, .string x.2.1.wid.1, .int .i64 x.2.1.wid.2, .string x.2.1.hi.1, .int .i64 x.2.1.hi.2, .string x.2.1.lo.1, .int .i64 x.2.1.lo.2, .string x.2.1.name, .slice x.2.2.1 x.2.2.2.1 x.2.2.2.2]]

set_option maxHeartbeats 1000000 in
theorem back_any (A : Option Addr) (n c : Nat) (w : World) :
    Calls Try.prog 60 #[.slice A n c] w fun e w' => e = .returned (.func (.func 69) #[] #[.pointer (some ⟨w.heap.size, 0, none⟩)]) ∧ w' = w.alloc (.cells #[.slice A n c] 45) := by
  have hmf : ∀ (fn : Fn) (first cap : Array Value) (w : World), (Instr.makeFunc fn first cap).run Try.prog w = .ok (.func fn first cap) w := fun _ _ _ _ => rfl
  go_enter Try.func60, Try.ntmps60
  go_wp2
  go_ret
  exact ⟨rfl, rfl⟩

theorem rev_take {xs : List Kc} {k : Nat} {x : Kc} (hk : k < xs.length) (h : xs[xs.length - 1 - k]? = some x) : xs.reverse.take (k + 1) = xs.reverse.take k ++ [x] := by
  rw [List.take_add_one, List.getElem?_reverse hk, h]
  rfl

/-- cells below n stay, and one cell besides -/
def KB (n Bn : Nat) (A B : World) : Prop := Kn n A B ∧ ∀ v, A.cell? ⟨Bn, 0, none⟩ = some v → B.cell? ⟨Bn, 0, none⟩ = some v
theorem KB.trans {n Bn : Nat} {A B C : World} (h : KB n Bn A B) (k : KB n Bn B C) : KB n Bn A C := ⟨h.1.trans k.1, fun v hv => k.2 v (h.2 v hv)⟩
theorem KB.refl (n Bn : Nat) (A : World) : KB n Bn A A := ⟨Kn.refl _ _, fun _ h => h⟩
theorem KB.of_gr {n Bn : Nat} {A B : World} (h : Gr A B) : KB n Bn A B := ⟨Kn.of_gr h, fun _ hv => gr_cell h (World.block_lt_of_cell? _ _ hv) hv⟩
theorem KB.putObj {n Bn : Nat} (W : World) (l : Nat) (o o' : Obj) (hl : W.heap[l]? = some o) (ho : o.isCells = false) : KB n Bn W (W.putObj l o') :=
  ⟨Kn.putObj W l o o' hl ho, fun v hv => (Kn.putObj (n := Bn + 1) W l o o' hl ho).2.1 _ _ _ (Nat.lt_succ_self _) hv⟩

set_option maxRecDepth 100000 in
set_option maxHeartbeats 4000000 in
theorem back1_stops (n : Nat) (hn : 3 ≤ n) (Bn : Nat) (A : Option Addr) (c : Nat) (xs : List Kc) (w Z : World) (hZ : Kn w.heap.size w Z) (hc : Z.cell? ⟨Bn, 0, none⟩ = some (.slice A xs.length c)) (hr : Hid (RowC w 11 (.slice A xs.length c) (xs.map kcCells))) (hx : Hid (∀ (j : Nat) (x : Kc), xs[j]? = some x → x.1 = j)) :
    SeqStopsK Fence.wide n Try.prog 69 #[.pointer (some ⟨Bn, 0, none⟩)] kcVals (KB w.heap.size Bn) (fun ys => ys = xs.reverse) (fun pre => pre <+: xs.reverse) xs.length Z := fun l J Jx W hW hJ hJx hY h0 => by
  have hgW : KB w.heap.size Bn Z W := KB.of_gr (gr_of hW)
  have l1 : xs.length ≤ maxLen := by have := hr.out.1; simpa using this
  unfold maxLen at l1
  have AT := Lib.hid (show ∀ u, KB w.heap.size Bn Z u → u.cell? ⟨Bn, 0, none⟩ = some (.slice A xs.length c) from fun u hu => hu.2 _ hc)
  have KZ := Lib.hid (show ∀ u, KB w.heap.size Bn Z u → Kn w.heap.size w u from fun u hu => hZ.trans hu.1)
  have HW := Lib.hid hgW
  have HY := Lib.hid hY
  have H0 := Lib.hid h0
  clear hgW hJ hJx hY h0 hc hW hZ
  have c1 := AT.out W HW.out
  refine callsIn_of_wp Try.func69 rfl trivial ?_ rfl
  simp only [Try.ntmps69, List.size_toArray, List.length_cons, List.length_nil, Nat.reduceAdd, Nat.reduceSub, Array.replicate_succ, Array.replicate_zero, List.push_toArray, List.append_toArray, List.nil_append, List.cons_append]
  gi_wp2
  clear c1
  gi_loopw [3] (fun i wr => ∃ k : Nat, k ≤ xs.length ∧ i = .int .i64 ((xs.length : Int) - 1 - (k : Nat)) ∧ Hid (J (xs.reverse.take k) wr ∧ KB w.heap.size Bn Z wr)) (fun i _ => (intOf i + 1).toNat)
  case atStart => exact ⟨0, Nat.zero_le _, by go_num, Lib.hid ⟨H0.out, HW.out⟩⟩
  case round =>
    obtain ⟨k, hk, rfl, HR⟩ := hrel
    by_cases hlt : k < xs.length
    · obtain ⟨x, hs⟩ : ∃ x, xs[xs.length - 1 - k]? = some x := ⟨_, List.getElem?_eq_getElem (by omega)⟩
      obtain ⟨g, o, rfl, hg, hr1⟩ := (hr.out.kn (KZ.out _ HR.out.2)).at (j := xs.length - 1 - k) (c := kcCells x) (by simp [hs])
      have hxj := hx.out _ _ hs
      obtain ⟨j, hj⟩ : ∃ j, xs.length - 1 - k = j := ⟨_, rfl⟩
      have hji : (xs.length : Int) - 1 - (k : Int) = (j : Int) := by omega
      rw [hj] at hr1 hxj
      rw [hji]
      have c0 := hr1 0 _ rfl
      have c1 := hr1 1 _ rfl
      have c2 := hr1 2 _ rfl
      have c3 := hr1 3 _ rfl
      have c4 := hr1 4 _ rfl
      have c5 := hr1 5 _ rfl
      have c6 := hr1 6 _ rfl
      have c7 := hr1 7 _ rfl
      have c8 := hr1 8 _ rfl
      have c9 := hr1 9 _ rfl
      have c10 := hr1 10 _ rfl
      rw [Nat.add_zero] at c0
      obtain ⟨fn, tmps, assign, body, hy, hR⟩ := HY.out _ x wr HR.out.1 (by rw [List.length_take, List.length_reverse]; omega)
      dsimp only [kcVals] at hy
      rw [hxj] at hy
      have b0 := AT.out wr HR.out.2
      have HS := Lib.hid (And.intro hs (And.intro hj hxj))
      have hd1 : (j : Int) < (xs.length : Int) := by omega
      have hd0 : (0 : Int) ≤ (j : Int) := by omega
      clear hs hr1 hj hxj
      gi_wp2
      refine ⟨fun _ => by omega, hR.mono ?_⟩
      rintro e W3 (⟨rfl, hJ3, hk3⟩ | ⟨rfl, hJx3⟩)
      · have H3 := Lib.hid (And.intro hJ3 hk3)
        clear hJ3 hk3
        gi_wp2
        go_roundw
        case rel => exact ⟨k + 1, by omega, by have := HS.out.2.1; go_num, Lib.hid ⟨by rw [rev_take hlt HS.out.1]; exact H3.out.1, HR.out.2.trans H3.out.2⟩⟩
        case measure => simp [intOf]
      · have H3 := Lib.hid hJx3
        clear hJx3
        gi_wp2
        refine bodyPost_ret (results_none rfl _ _ _) rfl ?_
        refine ⟨⟨_, rfl⟩, .inr ⟨_, ?_, H3.out⟩⟩
        rw [← rev_take hlt HS.out.1]
        exact List.take_prefix _ _
    · obtain rfl : k = xs.length := by omega
      have hji : (xs.length : Int) - 1 - (xs.length : Int) = -1 := by omega
      rw [hji]
      have HR1 := Lib.hid (show J xs.reverse wr by have h := HR.out.1; rw [List.take_of_length_le (by simp)] at h; exact h)
      clear HR
      gi_wp2
      go_end0
      exact ⟨⟨_, rfl⟩, .inl ⟨_, rfl, HR1.out⟩⟩
end Go.Proofs.Ytjkaeabnjkhllaa
