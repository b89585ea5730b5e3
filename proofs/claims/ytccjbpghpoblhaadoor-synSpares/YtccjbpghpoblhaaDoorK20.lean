/-
  item, WHOLE.
-/
import Derived.Test.YtccjbpghpoblhaaDoorK19
/-
  inst, WALKED.
-/
namespace Go.Proofs.YtccjbpghpoblhaaDoor
open Go.RowKit

def pArgs (T : List LexM.Tk) (i : It) (n : Nat) : PR It := if tokIs T n [60] = true then thn (pList T (qArg T) 4 i (n + 1)) fun i' n' => thn (pNeed T n' [62]) fun _ n'' => .ok (i', n'') else .ok (i, n)
def pBinds (T : List LexM.Tk) (i : It) (n : Nat) : PR It := if tokIs T n [41] = true then .ok (i, n) else pList T (qBind T) 16 i n
def pInst (T : List LexM.Tk) (i : It) (n : Nat) : PR It := thn (pName T n) fun l n1 => thn (pArgs T { i with mod := l } n1) fun i2 n2 => thn (pNeed T n2 [40]) fun _ n3 => thn (pBinds T i2 n3) fun i4 n4 => thn (pNeed T n4 [41]) fun _ n5 => .ok (i4, n5)

theorem qArg_one {T : List LexM.Tk} {i i' : It} {n n' : Nat} (h : qArg T i n = .ok (i', n')) : i'.args.length = i.args.length + 1 ∧ i'.binds = i.binds := by
  unfold qArg at h
  rcases hp : pDim T n with x | ⟨d, m⟩
  · rw [hp, thn_err] at h; cases h
  · rw [hp, thn_ok] at h; cases h; simp
theorem qBind_one {T : List LexM.Tk} {i i' : It} {n n' : Nat} (h : qBind T i n = .ok (i', n')) : i'.binds.length = i.binds.length + 1 := by
  unfold qBind at h
  rcases hp : pBind T n with x | ⟨d, m⟩
  · rw [hp, thn_err] at h; cases h
  · rw [hp, thn_ok] at h; cases h; simp
theorem pMore_binds {T : List LexM.Tk} : ∀ (f : Nat) (i i' : It) (n n' : Nat), pMore T (qArg T) f i n = .ok (i', n') → i'.binds = i.binds
  | 0, i, i', n, n', h => by
    unfold pMore at h
    split at h
    · cases h
    · cases h; rfl
  | f + 1, i, i', n, n', h => by
    unfold pMore at h
    split at h
    · rcases hp : qArg T i (n + 1) with x | ⟨d, m⟩
      · rw [hp, thn_err] at h; cases h
      · rw [hp, thn_ok] at h
        exact (pMore_binds f d i' m n' h).trans (qArg_one hp).2
    · cases h; rfl
theorem pList_binds {T : List LexM.Tk} {most : Nat} {i i' : It} {n n' : Nat} (h : pList T (qArg T) most i n = .ok (i', n')) : i'.binds = i.binds := by
  unfold pList at h
  rcases hp : qArg T i n with x | ⟨d, m⟩
  · rw [hp, thn_err] at h; cases h
  · rw [hp, thn_ok] at h
    exact (pMore_binds _ d i' m n' h).trans (qArg_one hp).2

theorem cf66 (x y : Value) (w : World) : (callFunc 66 #[x, y]).run Tryd.prog w = .ok (.enter 66 #[x, y]) w := by simp [go_sem]

/-- between two parts of an instance -/
def CutI (P : Pr) (V : Va) (n : Nat) (w0 : World) (gI gq gp : Nat) (i : It) (s2 s3 : Value) (wx : World) : Prop :=
  s2 = .pointer (some ⟨gp, 0, none⟩) ∧ s3 = .pointer (some ⟨gq, 0, none⟩) ∧ Fr P.b w0 wx ∧ St P V n wx ∧ InRep P w0 gI gq gp i wx

theorem InRep.mod {P : Pr} {w0 w : World} {gI gq gp : Nat} {i : It} (h : InRep P w0 gI gq gp i w) (l : List UInt8) : InRep P w0 gI gq gp { i with mod := l } (w.setCell ⟨gI, 6, none⟩ (.string (str l))) := by
  obtain ⟨h1, h2, h3, h4, h5⟩ := h
  obtain ⟨_, cs, hb, _⟩ := id h5
  exact ⟨h1, h2, (Below.heap_setCell _ _ _ _ (box_ne h3 hb (by decide))).trans h3, (Below.heap_setCell _ _ _ _ (box_ne h4 hb (by decide))).trans h4, it_mod h5 l⟩
theorem InRep.pcell {P : Pr} {w0 w : World} {gI gq gp : Nat} {i : It} (h : InRep P w0 gI gq gp i w) : w.cell? ⟨gp, 0, none⟩ = some (.pointer (some ⟨P.b, 0, none⟩)) := by
  rw [cell_at h.2.2.2.1]; rfl

theorem take_b {P : Pr} {V : Va} {n : Nat} {l : List UInt8} {b : Bool} {w : World} (h : Hid (St P V n w)) (hb : tokIs P.T n l = b) :
    Calls Tryd.prog 56 #[.pointer (some ⟨P.b, 0, none⟩), .string (str l)] w fun e w' => e = .returned (.bool b) ∧ Fr P.b w w' ∧ St P V (if b = true then n + 1 else n) w' := by
  cases b with
  | true => exact (take_yes P V n l w h hb).mono fun e w' hh => hh
  | false => exact (take_no P V n l w h hb).mono fun e w' hh => hh

set_option maxRecDepth 100000 in
set_option maxHeartbeats 4000000 in
theorem inst_any (P : Pr) (V : Va) (n gI : Nat) (i : It) (w0 w : World) (hia : i.args = []) (hib : i.binds = []) (h : Hid (St P V n w)) (hf0 : Hid (Fr P.b w0 w)) (hlt : P.b < w0.heap.size) (hB : P.B ≤ w0.heap.size) (hi : Hid (ItBlk w (New w0) gI i)) :
    Calls Tryd.prog 47 #[.pointer (some ⟨P.b, 0, none⟩), .pointer (some ⟨gI, 0, none⟩)] w (Got P V w0 (pInst P.T i n) (vIt w0 gI)) := by
  have hszw := hf0.out.size
  have hgI0 : w0.heap.size ≤ gI := hi.out.new
  go_enter Tryd.func47, Tryd.ntmps47
  go_upto_region 1 with fail
  obtain ⟨W, eW, FW, SW, RW⟩ : ∃ W, (w.alloc (.cells #[.pointer (some ⟨P.b, 0, none⟩)] 65)).alloc (.cells #[.pointer (some ⟨gI, 0, none⟩)] 106) = W ∧ Hid (Fr P.b w0 W) ∧ Hid (St P V n W) ∧ Hid (InRep P w0 gI (w.heap.size + 1) w.heap.size i W) := by
    refine ⟨_, rfl, Lib.hid ((hf0.out.more _).more _), Lib.hid ((h.out.alloc _).alloc _), Lib.hid ⟨by omega, hszw, ?_, ?_, ?_⟩⟩
    · have := new_at (w.alloc (.cells #[.pointer (some ⟨P.b, 0, none⟩)] 65)) (.cells #[.pointer (some ⟨gI, 0, none⟩)] 106)
      simpa using this
    · exact (Below.heap_alloc _ _ _ (by simp)).trans (new_at w _)
    · exact hi.out.fr (((Fr.refl P.b w).more _).more _) hlt
  rw [eW]
  clear eW
  rcases hN : pName P.T n with x | ⟨l, n1⟩
  · have E1 := Lib.hid hN
    clear hN
    refine wp_region_held_drew (S := fun w' => w'.cell? ⟨w.heap.size, 0, none⟩ = some (.pointer (some ⟨P.b, 0, none⟩)) ∧ w'.cell? ⟨w.heap.size + 1, 0, none⟩ = some (.pointer (some ⟨gI, 0, none⟩))) (by kernel_rfl) ?_ (fun hHeld => ?_)
    · exact ⟨cell_at (o := 0) RW.out.2.2.2.1, cell_at (o := 0) RW.out.2.2.1⟩
    refine wpAnyH_take (i := 0) (v := .pointer (some ⟨gI, 0, none⟩)) rfl (by kernel_rfl) (by kernel_rfl) (by kernel_rfl) (fun _ _ _ h => h) (Or.inl ⟨by rfl, by intro w hSw; (try dsimp only at hSw); go_simp; try rfl⟩) hHeld ?_
    try simp only [Act.put, List.setIfInBounds_toArray]
    refine wpAnyH_take (i := 1) (v := .pointer (some ⟨P.b, 0, none⟩)) rfl (by kernel_rfl) (by kernel_rfl) (by kernel_rfl) (fun _ _ _ h => h) (Or.inl ⟨by rfl, by intro w hSw; (try dsimp only at hSw); go_simp; try rfl⟩) hHeld ?_
    try simp only [Act.put]
    refine wpAnyH_ready (rs := [2]) (by kernel_rfl) (by simp) ?_
    refine (AllReadyH.cons rfl (fun K hK => ?_) AllReadyH.nil)
    go_simp
    refine (name_bad (Lib.hid SW.out.drew) E1.out).mono ?_
    rintro e w3 ⟨rfl, hf3, m4, hs4⟩
    go_simp
    refine ⟨rfl, ?_⟩
    exact got_bad (by unfold pInst; rw [E1.out, thn_err]) (FW.out.draw.trans hf3) hs4 rfl
  have E1 := Lib.hid hN
  clear hN
  go_cut [2, 3] (fun s2 s3 wx => Hid (CutI P V n1 w0 gI (w.heap.size + 1) w.heap.size { i with mod := l } s2 s3 wx))
  case first =>
    refine wp_region_held_drew (S := fun w' => w'.cell? ⟨w.heap.size, 0, none⟩ = some (.pointer (some ⟨P.b, 0, none⟩)) ∧ w'.cell? ⟨w.heap.size + 1, 0, none⟩ = some (.pointer (some ⟨gI, 0, none⟩))) (by kernel_rfl) ?_ (fun hHeld => ?_)
    · exact ⟨cell_at (o := 0) RW.out.2.2.2.1, cell_at (o := 0) RW.out.2.2.1⟩
    refine wpAnyH_take (i := 0) (v := .pointer (some ⟨gI, 0, none⟩)) rfl (by kernel_rfl) (by kernel_rfl) (by kernel_rfl) (fun _ _ _ h => h) (Or.inl ⟨by rfl, by intro w hSw; (try dsimp only at hSw); go_simp; try rfl⟩) hHeld ?_
    try simp only [Act.put, List.setIfInBounds_toArray]
    refine wpAnyH_take (i := 1) (v := .pointer (some ⟨P.b, 0, none⟩)) rfl (by kernel_rfl) (by kernel_rfl) (by kernel_rfl) (fun _ _ _ h => h) (Or.inl ⟨by rfl, by intro w hSw; (try dsimp only at hSw); go_simp; try rfl⟩) hHeld ?_
    try simp only [Act.put]
    refine wpAnyH_ready (rs := [2]) (by kernel_rfl) (by simp) ?_
    refine (AllReadyH.cons rfl (fun K hK => ?_) AllReadyH.nil)
    go_simp
    refine (name_ok (Lib.hid SW.out.drew) E1.out).mono ?_
    rintro e w3 ⟨rfl, hf3, hs3⟩
    go_simp
    have F3 := Lib.hid (FW.out.draw.trans hf3)
    have S3 := Lib.hid hs3
    have R3 := Lib.hid (RW.out.fr ((Fr.refl P.b W).draw.trans hf3) hlt)
    clear hf3 hs3
    have k3 := R3.out.2.2.2.2.cell 6 (by omega)
    obtain ⟨x6, k3⟩ := k3
    have z3 := R3.out.2.2.2.2.frz 6
    refine hK.out _ _ ⟨by rw [cell_at R3.out.2.2.2.1]; rfl, by rw [cell_at R3.out.2.2.1]; rfl⟩ (fun hHeld => ?_)
    clear hK K
    try simp only [Act.put, List.setIfInBounds_toArray, List.set_cons_zero, List.set_cons_succ]
    refine wpAnyH_take (i := 3) (v := .pointer (some ⟨gI, 0, none⟩)) rfl (by kernel_rfl) (by kernel_rfl) (by kernel_rfl) (fun _ _ _ h => h) (Or.inl ⟨by rfl, by intro w hSw; (try dsimp only at hSw); go_simp; try rfl⟩) hHeld ?_
    try simp only [Act.put, List.setIfInBounds_toArray]
    refine wpAnyH_take (i := 4) (v := .pointer (some ⟨gI, 6, none⟩)) rfl (by kernel_rfl) (by kernel_rfl) (by kernel_rfl) (fun _ _ _ h => h) (Or.inl ⟨by rfl, by intro w hSw; (try dsimp only at hSw); go_simp; try rfl⟩) hHeld ?_
    try simp only [Act.put]
    refine wpAnyH_ready (rs := [5]) (by kernel_rfl) (by simp) ?_
    refine (AllReadyH.cons rfl (fun K hK => ?_) AllReadyH.nil)
    go_simp
    have RM := Lib.hid (R3.out.mod l)
    refine hK.out _ _ ⟨by rw [cell_at RM.out.2.2.2.1]; rfl, by rw [cell_at RM.out.2.2.1]; rfl⟩ (fun hHeld => ?_)
    clear hK K
    refine wpAnyH_done (by kernel_rfl) ?_ _
    go_wp2_with fail
    go_meet
    exact Lib.hid ⟨rfl, rfl, FrPuts F3.out gI hgI0 [.string (str l)] 6, StPuts S3.out gI (by omega) [.string (str l)] 6, RM.out⟩
  case rest =>
    obtain ⟨rfl, rfl, FX, SX, RX⟩ := hcut.out
    have FX := Lib.hid FX
    have SX := Lib.hid SX
    have RX := Lib.hid RX
    clear hcut FW SW RW
    have bX := RX.out.pcell
    obtain ⟨b, hT⟩ : ∃ b, tokIs P.T n1 [60] = b := ⟨_, rfl⟩
    have HT := Lib.hid hT
    clear hT
    go_wp2_with fail
    refine (take_b SX HT.out).mono ?_
    rintro e w2 ⟨rfl, hf, hs⟩
    have F2 := Lib.hid (FX.out.trans hf)
    have S2 := Lib.hid hs
    have R2 := Lib.hid (RX.out.fr hf hlt)
    have b2 := R2.out.pcell
    clear hf hs bX
    go_upto_if 10 with fail
    go_cut [2, 3] (fun s2 s3 wx => Hid (∃ i2 n2, pArgs P.T { i with mod := l } n1 = .ok (i2, n2) ∧ i2.binds = [] ∧ CutI P V n2 w0 gI (w.heap.size + 1) w.heap.size i2 s2 s3 wx))
    case first =>
      cases b with
      | true =>
        have hT := HT.out
        have S2 : Hid (St P V (n1 + 1) w2) := Lib.hid S2.out
        go_wp2_with fail
        refine (list_any P V w0 65 (.pointer (some ⟨w.heap.size + 1, 0, none⟩)) (.pointer (some ⟨w.heap.size, 0, none⟩)) (InRep P w0 gI (w.heap.size + 1) w.heap.size) (qArg P.T) (fun j => j.args.length) 4 { i with mod := l } (n1 + 1) w2 (Lib.hid (by simp [hia])) (Lib.hid (fun s n s' n' hq => (qArg_one hq).1)) (by omega) (by omega) (fun s u u' hr hf => hr.fr hf hlt) (fun u => cf65 _ _ u) S2 F2 R2 (Lib.hid (fun s n u hl hs hf hr => arg_any P V w0 gI (w.heap.size + 1) w.heap.size s n u hlt hB hl hs hf hr))).mono ?_
        intro e w3 hG
        rcases hG.elim with ⟨x, m, hL, hf, hs, rfl⟩ | ⟨i3, m3, v3, hL, hf, hs, rfl, hv⟩
        · have E2 := Lib.hid hL
          have F3 := Lib.hid hf
          have S3 := Lib.hid hs
          clear hL hf hs hG
          go_wp2_with fail
          refine ⟨rfl, ?_⟩
          exact got_bad (by unfold pInst; rw [E1.out, thn_ok]; unfold pArgs; rw [if_pos hT, E2.out, thn_err, thn_err]) F3.out S3.out rfl
        obtain ⟨rfl, hv⟩ := hv
        have E2 := Lib.hid hL
        have F3 := Lib.hid hf
        have S3 := Lib.hid hs
        have R3 := Lib.hid hv
        have b3 := R3.out.pcell
        clear hL hf hs hG hv b2
        go_wp2_with fail
        refine (need_any P V m3 [62] w3 S3).mono ?_
        intro e w4 hG
        rcases hG.elim with ⟨x, m, hL, hf, hs, rfl⟩ | ⟨a4, m4, v4, hL, hf, hs, rfl, hv⟩
        · have E3 := Lib.hid hL
          have F4 := Lib.hid (F3.out.trans hf)
          have S4 := Lib.hid hs
          clear hL hf hs hG
          go_wp2_with fail
          refine ⟨rfl, ?_⟩
          exact got_bad (by unfold pInst; rw [E1.out, thn_ok]; unfold pArgs; rw [if_pos hT, E2.out, thn_ok, E3.out, thn_err, thn_err]) F4.out S4.out rfl
        have E3 := Lib.hid hL
        have F4 := Lib.hid (F3.out.trans hf)
        have S4 := Lib.hid hs
        have R4 := Lib.hid (R3.out.fr hf hlt)
        clear hL hf hs hG hv b3
        go_wp2_with fail
        go_meet
        exact Lib.hid ⟨i3, m4, by unfold pArgs; rw [if_pos hT, E2.out, thn_ok, E3.out, thn_ok], (pList_binds E2.out).trans hib, rfl, rfl, F4.out, S4.out, R4.out⟩
      | false =>
        have hT : ¬ tokIs P.T n1 [60] = true := by rw [HT.out]; decide
        have S2 : Hid (St P V n1 w2) := Lib.hid S2.out
        go_wp2_with fail
        go_meet
        exact Lib.hid ⟨{ i with mod := l }, n1, by unfold pArgs; rw [if_neg hT], hib, rfl, rfl, F2.out, S2.out, R2.out⟩
    case rest =>
      obtain ⟨i2, n2, E2, hb2, rfl, rfl, FY, SY, RY⟩ := hcut.out
      have E2 := Lib.hid E2
      have FY := Lib.hid FY
      have SY := Lib.hid SY
      have RY := Lib.hid RY
      have bY := RY.out.pcell
      clear hcut F2 S2 R2 b2
      go_wp2_with fail
      refine (need_any P V n2 [40] _ SY).mono ?_
      intro e w4 hG
      rcases hG.elim with ⟨x, m, hL, hf, hs, rfl⟩ | ⟨a4, n3, v4, hL, hf, hs, rfl, hv⟩
      · have E3 := Lib.hid hL
        have F4 := Lib.hid (FY.out.trans hf)
        have S4 := Lib.hid hs
        clear hL hf hs hG
        go_wp2_with fail
        refine ⟨rfl, ?_⟩
        exact got_bad (by unfold pInst; rw [E1.out, thn_ok, E2.out, thn_ok, E3.out, thn_err]) F4.out S4.out rfl
      have E3 := Lib.hid hL
      have F4 := Lib.hid (FY.out.trans hf)
      have S4 := Lib.hid hs
      have R4 := Lib.hid (RY.out.fr hf hlt)
      have b4 := R4.out.pcell
      clear hL hf hs hG hv bY
      by_cases hT : tokIs P.T n3 [41] = true
      · go_wp2_with fail
        refine (is_s S4 hT).mono ?_
        rintro e w5 ⟨rfl, hf, hs⟩
        have F5 := Lib.hid (F4.out.trans hf)
        have S5 := Lib.hid hs
        have R5 := Lib.hid (R4.out.fr hf hlt)
        have b5 := R5.out.pcell
        clear hf hs b4
        go_wp2_with fail
        refine (need_any P V n3 [41] w5 S5).mono ?_
        intro e w6 hG
        rcases hG.elim with ⟨x, m, hL, hf, hs, rfl⟩ | ⟨a6, n6, v6, hL, hf, hs, rfl, hv⟩
        · have E5 := Lib.hid hL
          have F6 := Lib.hid (F5.out.trans hf)
          have S6 := Lib.hid hs
          clear hL hf hs hG
          go_wp2_with fail
          refine ⟨rfl, ?_⟩
          exact got_bad (by unfold pInst; rw [E1.out, thn_ok, E2.out, thn_ok, E3.out, thn_ok]; unfold pBinds; rw [if_pos hT, thn_ok, E5.out, thn_err]) F6.out S6.out rfl
        have E5 := Lib.hid hL
        have F6 := Lib.hid (F5.out.trans hf)
        have S6 := Lib.hid hs
        have R6 := Lib.hid (R5.out.fr hf hlt)
        clear hL hf hs hG hv b5
        go_wp2_with fail
        go_end0
        exact got_ok (by unfold pInst; rw [E1.out, thn_ok, E2.out, thn_ok, E3.out, thn_ok]; unfold pBinds; rw [if_pos hT, thn_ok, E5.out, thn_ok]) F6.out S6.out ⟨rfl, R6.out.2.2.2.2⟩
      · have hT' : tokIs P.T n3 [41] = false := by simpa using hT
        go_wp2_with fail
        refine (is_s S4 hT').mono ?_
        rintro e w5 ⟨rfl, hf, hs⟩
        have F5 := Lib.hid (F4.out.trans hf)
        have S5 := Lib.hid hs
        have R5 := Lib.hid (R4.out.fr hf hlt)
        have b5 := R5.out.pcell
        clear hf hs b4
        go_wp2_with fail
        refine (list_any P V w0 66 (.pointer (some ⟨w.heap.size + 1, 0, none⟩)) (.pointer (some ⟨w.heap.size, 0, none⟩)) (InRep P w0 gI (w.heap.size + 1) w.heap.size) (qBind P.T) (fun j => j.binds.length) 16 i2 n3 w5 (Lib.hid (by simp [hb2])) (Lib.hid (fun s n s' n' hq => qBind_one hq)) (by omega) (by omega) (fun s u u' hr hf => hr.fr hf hlt) (fun u => cf66 _ _ u) S5 F5 R5 (Lib.hid (fun s n u hl hs hf hr => bindc_any P V w0 gI (w.heap.size + 1) w.heap.size s n u hlt hB hl hs hf hr))).mono ?_
        intro e w6 hG
        rcases hG.elim with ⟨x, m, hL, hf, hs, rfl⟩ | ⟨i6, n6, v6, hL, hf, hs, rfl, hv⟩
        · have E4 := Lib.hid hL
          have F6 := Lib.hid hf
          have S6 := Lib.hid hs
          clear hL hf hs hG
          go_wp2_with fail
          refine ⟨rfl, ?_⟩
          exact got_bad (by unfold pInst; rw [E1.out, thn_ok, E2.out, thn_ok, E3.out, thn_ok]; unfold pBinds; rw [if_neg hT, E4.out, thn_err]) F6.out S6.out rfl
        obtain ⟨rfl, hv⟩ := hv
        have E4 := Lib.hid hL
        have F6 := Lib.hid hf
        have S6 := Lib.hid hs
        have R6 := Lib.hid hv
        have b6 := R6.out.pcell
        clear hL hf hs hG hv b5
        go_wp2_with fail
        refine (need_any P V n6 [41] w6 S6).mono ?_
        intro e w7 hG
        rcases hG.elim with ⟨x, m, hL, hf, hs, rfl⟩ | ⟨a7, n7, v7, hL, hf, hs, rfl, hv⟩
        · have E5 := Lib.hid hL
          have F7 := Lib.hid (F6.out.trans hf)
          have S7 := Lib.hid hs
          clear hL hf hs hG
          go_wp2_with fail
          refine ⟨rfl, ?_⟩
          exact got_bad (by unfold pInst; rw [E1.out, thn_ok, E2.out, thn_ok, E3.out, thn_ok]; unfold pBinds; rw [if_neg hT, E4.out, thn_ok, E5.out, thn_err]) F7.out S7.out rfl
        have E5 := Lib.hid hL
        have F7 := Lib.hid (F6.out.trans hf)
        have S7 := Lib.hid hs
        have R7 := Lib.hid (R6.out.fr hf hlt)
        clear hL hf hs hG hv b6
        go_wp2_with fail
        go_end0
        exact got_ok (by unfold pInst; rw [E1.out, thn_ok, E2.out, thn_ok, E3.out, thn_ok]; unfold pBinds; rw [if_neg hT, E4.out, thn_ok, E5.out, thn_ok]) F7.out S7.out ⟨rfl, R7.out.2.2.2.2⟩

end Go.Proofs.YtccjbpghpoblhaaDoor

namespace Go.Proofs.YtccjbpghpoblhaaDoor
open Go.RowKit

/-- what a rule's function reads -/
def restOf (F : Nat) : List LexM.Tk → It → Nat → PR It :=
  if F = 44 then pWire else if F = 45 then pReg else if F = 46 then pMemo else if F = 47 then pInst else if F = 48 then pProp else if F = 49 then pValue else pPut

theorem cfR {F : Nat} (hF : F ∈ [44, 45, 46, 47, 48, 49, 50]) (x y : Value) (w : World) : (callFunc F #[x, y]).run Tryd.prog w = .ok (.enter F #[x, y]) w := by
  simp only [List.mem_cons, List.not_mem_nil, or_false] at hF
  rcases hF with rfl | rfl | rfl | rfl | rfl | rfl | rfl <;> simp [go_sem]
theorem restR {F : Nat} (P : Pr) (V : Va) (hF : F ∈ [44, 45, 46, 47, 48, 49, 50]) : RestOk P V F (restOf F) := by
  simp only [List.mem_cons, List.not_mem_nil, or_false] at hF
  rcases hF with rfl | rfl | rfl | rfl | rfl | rfl | rfl <;> intro n gI i w0 w hia hib h hf hlt hB hi
  · exact wire_any P V n gI i w0 w h hf hlt hB hi
  · exact reg_any P V n gI i w0 w h hf hlt hB hi
  · exact mem_any P V n gI i w0 w h hf hlt hB hi
  · exact inst_any P V n gI i w0 w hia hib h hf hlt hB hi
  · exact property_any P V n gI i w0 w h hf hlt hB hi
  · exact value_any P V n gI i w0 w h hf hlt hB hi
  · exact put_any P V n gI i w0 w h hf hlt hB hi

theorem rule_mem {l t : List UInt8} {kind F : Nat} (h : ruleOf l = some (t, kind, F)) : t = l ∧ F ∈ [44, 45, 46, 47, 48, 49, 50] := by
  have h1 := List.find?_some h
  have h2 := List.mem_of_find?_eq_some h
  refine ⟨by simpa using h1, ?_⟩
  have : ∀ x ∈ ruleTab, x.2.2 ∈ [44, 45, 46, 47, 48, 49, 50] := by decide
  exact this _ h2

/-- an item, where k have begun -/
def pItem (T : List LexM.Tk) (k n : Nat) : PR It :=
  if n = T.length then .error (gu T n 21) else match ruleOf (tokAt T n).text with
  | none => .error (gu T n 20)
  | some (_, kind, F) => if k = 64 then .error (gu T n 2) else pItemR T (restOf F) kind (n + 1)
/-- whether one more has begun -/
def begun (T : List LexM.Tk) (V : Va) (n : Nat) : Va := if n ≠ T.length ∧ (ruleOf (tokAt T n).text).isSome = true ∧ V.it ≠ 64 then V.more else V

theorem item_any (P : Pr) (V : Va) (n : Nat) (w : World) (h : Hid (St P V n w)) (hit : V.it ≤ 64) :
    Calls Tryd.prog 70 #[.pointer (some ⟨P.b, 0, none⟩)] w (Got P (begun P.T V n) w (pItem P.T V.it n) (vItem w)) := by
  by_cases hn : n = P.T.length
  · have e1 : pItem P.T V.it n = .error (gu P.T n 21) := by unfold pItem; rw [if_pos hn]
    have e2 : begun P.T V n = V := by unfold begun; rw [if_neg (fun hh => hh.1 hn)]
    rw [e1, e2]
    exact item_end P V n w h hn
  · have hlt : n < P.T.length := Nat.lt_of_le_of_ne h.out.le hn
    obtain ⟨t, ht⟩ : ∃ t, P.T[n]? = some t := ⟨_, List.getElem?_eq_getElem hlt⟩
    have htok := tokAt_some ht
    rcases hr : ruleOf t.text with _ | ⟨t', kind, F⟩
    · have e1 : pItem P.T V.it n = .error (gu P.T n 20) := by unfold pItem; rw [if_neg hn, htok, hr]
      have e2 : begun P.T V n = V := by unfold begun; rw [htok, hr, if_neg (fun hh => by simpa using hh.2.1)]
      rw [e1, e2]
      exact item_none P V n t w h hlt ht hr
    · obtain ⟨rfl, hF⟩ := rule_mem hr
      by_cases h64 : V.it = 64
      · have e1 : pItem P.T V.it n = .error (gu P.T n 2) := by unfold pItem; rw [if_neg hn, htok, hr]; simp only []; rw [if_pos h64]
        have e2 : begun P.T V n = V := by unfold begun; rw [if_neg (fun hh => hh.2.2 h64)]
        rw [e1, e2]
        exact item_full P V n kind F t w h hlt ht hr h64
      · have e1 : pItem P.T V.it n = pItemR P.T (restOf F) kind (n + 1) := by unfold pItem; rw [if_neg hn, htok, hr]; simp only []; rw [if_neg h64]
        have e2 : begun P.T V n = V.more := by unfold begun; rw [htok, hr, if_pos ⟨hn, rfl, h64⟩]
        rw [e1, e2]
        exact item_rule (restOf F) P V n kind F t w (Lib.hid (restR P V.more hF)) (cfR hF) h hlt ht hr (by omega)

end Go.Proofs.YtccjbpghpoblhaaDoor

