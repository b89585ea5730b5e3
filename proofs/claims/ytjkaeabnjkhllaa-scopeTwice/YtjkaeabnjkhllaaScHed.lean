/-
  head of the laws, WALKED.
-/
import Derived.Test.YtjkaeabnjkhllaaScPau
namespace Go.Proofs.Ytjkaeabnjkhllaa
open Go.RowKit

def UpRet (w : World) (e : Ending) (w' : World) : Prop := e = .returned (.bool true) ∧ Gr w w'
/-- the cells that lead into a pair: its modules' row, t's items, its own box -/
def Way (u : World) (b gM gP gQ gU gT : Nat) : Prop :=
  u.cell? ⟨b, 0, none⟩ = some (.slice (some ⟨gM, 0, none⟩) 2 2) ∧ u.cell? ⟨gM, 0, none⟩ = some (.string ⟨#[117]⟩) ∧ u.cell? ⟨gM, 1, none⟩ = some (.slice (some ⟨gP, 0, none⟩) 1 1) ∧ u.cell? ⟨gM, 2, none⟩ = some (.slice (some ⟨gQ, 0, none⟩) 2 2) ∧ u.cell? ⟨gM, 3, none⟩ = some (.slice (some ⟨gU, 0, none⟩) 1 1) ∧ u.cell? ⟨gM, 4, none⟩ = some (.string ⟨#[116]⟩) ∧ u.cell? ⟨gM, 5, none⟩ = some (.slice none 0 0) ∧ u.cell? ⟨gM, 6, none⟩ = some (.slice none 0 0) ∧ u.cell? ⟨gM, 7, none⟩ = some (.slice (some ⟨gT, 0, none⟩) 3 3)
theorem way_of {u : World} {b gM gP gQ gU gA gB gT : Nat} {wn s0 bp n2 s2 : ByteArray} (hb : u.heap[b]? = some (.cells #[.slice (some ⟨gM, 0, none⟩) 2 2] 24 (0, 0))) (h : PrAt u gM gP gQ gU gA gB gT wn s0 bp n2 s2) : Way u b gM gP gQ gU gT := by
  have h1 := h.1
  refine ⟨by rw [cell_at hb]; rfl, ?_, ?_, ?_, ?_, ?_, ?_, ?_, ?_⟩
  all_goals (rw [cell_at h1]; rfl)
theorem few_vb : Few ⟨#[118, 46, 98]⟩ := by unfold Few; decide
theorem few_va : Few ⟨#[118, 46, 97]⟩ := by unfold Few; decide
theorem few_w : Few ⟨#[119]⟩ := by unfold Few; decide
theorem few_v : Few ⟨#[118]⟩ := by unfold Few; decide
theorem size47' (s : ByteArray) : (Try.prog.info? 47).map (·.size) = some (exC (hdZ 2 s)).toArray.size := size47
theorem ones47 (s : ByteArray) : (exC (hdZ 2 s)).toArray.all (·.oneCell') = true := by simp [exC, hdCells, hdZ, z0, nilS, Value.oneCell']
set_option maxRecDepth 100000 in
set_option maxHeartbeats 16000000 in
theorem Lhead_any (w : World) (hml : Hid (∃ z : Int, w.cell? ⟨0, 0, none⟩ = some (.int .i64 z))) : Calls Try.prog 11 #[] w (UpRet w) := by
  have ML := Lib.hid (fun (u : World) (hu : Gr w u) => (show ∃ z : Int, u.cell? ⟨0, 0, none⟩ = some (.int .i64 z) from by
    obtain ⟨z, hz⟩ := hml.out
    exact ⟨z, gr_cell hu (World.block_lt_of_cell? _ _ hz) hz⟩))
  clear hml
  go_enter Try.func11, Try.ntmps11
  go_upto_region 2 with (first
    | (go_at_call 24; refine (Pair_any _).mono ?_; rintro e w1 ⟨aM, aP, aQ, aU, aA, aB, aT, rfl, hp, -, hg⟩; have P1 := hp; have G1 := Lib.hid hg; have CA := Lib.hid (chk_pair P1.out (ML.out _ G1.out) few_vb few_w pair_a rfl); clear hp hg)
    | (go_at_call 14; refine CA.out.mono ?_; rintro e w2 ⟨A1, d1, rfl, -, hg⟩; have G2 := Lib.hid (G1.out.trans hg); clear hg))
  clear CA G1 P1
  have CN := Lib.hid (chk_none (ML.out _ G2.out))
  go_upto_region 4 with (first
    | (go_at_call 14; refine CN.out.mono ?_; rintro e w3 ⟨A2, d2, rfl, hr2, hg⟩; have G3 := Lib.hid (G2.out.trans hg); have R2 := Lib.hid hr2; clear hg hr2)
    | (go_at_call 24; refine (Pair_any _).mono ?_; rintro e w4 ⟨gM, gP, gQ, gU, gA, gB, gT, rfl, hp, hs, hg⟩; have P4 := hp; have S4 := hs; have G4 := Lib.hid hg; clear hp hg hs))
  clear CN G2
  obtain ⟨b, hb⟩ : ∃ b, w4.heap.size = b := ⟨_, rfl⟩
  refine wp_name fun V hV => ?_
  have VV := Lib.hid (show V.heap[b]? = some (.cells #[.slice (some ⟨gM, 0, none⟩) 2 2] 24 (0, 0)) ∧ PrAt V gM gP gQ gU gA gB gT ⟨#[110]⟩ ⟨#[118, 46, 98]⟩ ⟨#[97]⟩ ⟨#[112]⟩ ⟨#[119]⟩ ∧ Gr w3 V ∧ w3.heap.size ≤ b from by
    rw [hV, ← hb]
    exact ⟨new_at _ _, P4.out.gr (Gr.alloc _ _), G4.out.trans (Gr.alloc _ _), G4.out.size⟩)
  rw [hb]
  clear hV hb P4 G4
  have SX := Lib.hid (fun (u : World) (hu : Gr V u) => (show Way u b gM gP gQ gU gT from way_of (hu.keep VV.out.1) (VV.out.2.1.gr hu)))
  refine wp_region_held_drew (S := fun u : World => Way u b gM gP gQ gU gT) (by kernel_rfl) (SX.out _ (Gr.drew _)) (fun hHeld => ?_)
  refine wpAnyH_take (i := 0) (oi := { dst := some 21, op := Op.fieldAddr 24 (Operand.tmp 3) 0, type := 0, pos := "law.go:35", after := #[], guard := none }) (v := ?_) rfl (by kernel_rfl) (by kernel_rfl) (by kernel_rfl) (fun _ _ _ h => h) (Or.inl ⟨by rfl, ?_⟩) hHeld ?_
  case refine_2 => (intro w hSw; (try dsimp only at hSw); obtain ⟨y0, y1, y2, y3, y4, y5, y6, y7, y8⟩ := (show Way w b gM gP gQ gU gT from hSw); go_simp; try (with_reducible rfl))
  try simp only [Act.put, List.setIfInBounds_toArray, List.set_cons_zero, List.set_cons_succ]
  refine wpAnyH_take (i := 1) (oi := { dst := some 22, op := Op.load 22 (Operand.tmp 21), type := 22, pos := "law.go:35", after := #[{ on := 0, ground := Ground.data }], guard := none }) (v := ?_) rfl (by kernel_rfl) (by kernel_rfl) (by kernel_rfl) (fun _ _ _ h => h) (Or.inl ⟨by rfl, ?_⟩) hHeld ?_
  case refine_2 => (intro w hSw; (try dsimp only at hSw); obtain ⟨y0, y1, y2, y3, y4, y5, y6, y7, y8⟩ := (show Way w b gM gP gQ gU gT from hSw); go_simp; try (with_reducible rfl))
  try simp only [Act.put, List.setIfInBounds_toArray, List.set_cons_zero, List.set_cons_succ]
  refine wpAnyH_take (i := 2) (oi := { dst := some 23, op := Op.indexAddr 22 (Operand.tmp 22) (Operand.const (Value.int IntKind.i64 1)), type := 0, pos := "law.go:35", after := #[{ on := 1, ground := Ground.data }], guard := none }) (v := ?_) rfl (by kernel_rfl) (by kernel_rfl) (by kernel_rfl) (fun _ _ _ h => h) (Or.inl ⟨by rfl, ?_⟩) hHeld ?_
  case refine_2 => (intro w hSw; (try dsimp only at hSw); obtain ⟨y0, y1, y2, y3, y4, y5, y6, y7, y8⟩ := (show Way w b gM gP gQ gU gT from hSw); go_simp; try (with_reducible rfl))
  try simp only [Act.put, List.setIfInBounds_toArray, List.set_cons_zero, List.set_cons_succ]
  refine wpAnyH_take (i := 3) (oi := { dst := some 24, op := Op.fieldAddr 34 (Operand.tmp 23) 3, type := 0, pos := "law.go:35", after := #[{ on := 2, ground := Ground.data }], guard := none }) (v := ?_) rfl (by kernel_rfl) (by kernel_rfl) (by kernel_rfl) (fun _ _ _ h => h) (Or.inl ⟨by rfl, ?_⟩) hHeld ?_
  case refine_2 => (intro w hSw; (try dsimp only at hSw); obtain ⟨y0, y1, y2, y3, y4, y5, y6, y7, y8⟩ := (show Way w b gM gP gQ gU gT from hSw); go_simp; try (with_reducible rfl))
  try simp only [Act.put, List.setIfInBounds_toArray, List.set_cons_zero, List.set_cons_succ]
  refine wpAnyH_take (i := 4) (oi := { dst := some 25, op := Op.load 32 (Operand.tmp 24), type := 32, pos := "law.go:35", after := #[{ on := 3, ground := Ground.data }], guard := none }) (v := ?_) rfl (by kernel_rfl) (by kernel_rfl) (by kernel_rfl) (fun _ _ _ h => h) (Or.inl ⟨by rfl, ?_⟩) hHeld ?_
  case refine_2 => (intro w hSw; (try dsimp only at hSw); obtain ⟨y0, y1, y2, y3, y4, y5, y6, y7, y8⟩ := (show Way w b gM gP gQ gU gT from hSw); go_simp; try (with_reducible rfl))
  try simp only [Act.put, List.setIfInBounds_toArray, List.set_cons_zero, List.set_cons_succ]
  refine wpAnyH_ready (rs := [5]) (by kernel_rfl) (by simp) ?_
  refine AllReadyH.cons (o := { dst := some 26, op := Op.call { callee := Callee.value (Operand.func 22), args := #[Operand.const (Value.string { data := #[118] })], argTypes := #[9] }, type := 47, pos := "law.go:35", after := #[], guard := none }) rfl (fun K hK => ?_) AllReadyH.nil
  go_simp
  refine (Lref_any ⟨#[118]⟩ _).mono ?_
  rintro e u ⟨rfl, hu'⟩
  have hu : Gr V u := (Gr.drew _).trans hu'
  refine hK.out _ _ (SX.out _ hu) (fun hHeld => ?_)
  clear hK K hu'
  try simp only [Act.put, List.setIfInBounds_toArray, List.set_cons_zero, List.set_cons_succ]
  refine wpAnyH_take (i := 6) (oi := { dst := some 27, op := Op.indexAddr 32 (Operand.tmp 25) (Operand.const (Value.int IntKind.i64 2)), type := 0, pos := "law.go:35", after := #[{ on := 4, ground := Ground.data }, { on := 0, ground := Ground.phase }, { on := 1, ground := Ground.phase }, { on := 2, ground := Ground.phase }, { on := 3, ground := Ground.phase }, { on := 4, ground := Ground.phase }, { on := 5, ground := Ground.phase }], guard := none }) (v := ?_) rfl (by kernel_rfl) (by kernel_rfl) (by kernel_rfl) (fun _ _ _ h => h) (Or.inl ⟨by rfl, ?_⟩) hHeld ?_
  case refine_2 => (intro w hSw; (try dsimp only at hSw); obtain ⟨y0, y1, y2, y3, y4, y5, y6, y7, y8⟩ := (show Way w b gM gP gQ gU gT from hSw); go_simp; try (with_reducible rfl))
  try simp only [Act.put, List.setIfInBounds_toArray, List.set_cons_zero, List.set_cons_succ]
  refine wpAnyH_take (i := 7) (oi := { dst := some 28, op := Op.fieldAddr 49 (Operand.tmp 27) 7, type := 0, pos := "law.go:35", after := #[{ on := 6, ground := Ground.data }, { on := 0, ground := Ground.phase }, { on := 1, ground := Ground.phase }, { on := 2, ground := Ground.phase }, { on := 3, ground := Ground.phase }, { on := 4, ground := Ground.phase }, { on := 5, ground := Ground.phase }], guard := none }) (v := ?_) rfl (by kernel_rfl) (by kernel_rfl) (by kernel_rfl) (fun _ _ _ h => h) (Or.inl ⟨by rfl, ?_⟩) hHeld ?_
  case refine_2 => (intro w hSw; (try dsimp only at hSw); obtain ⟨y0, y1, y2, y3, y4, y5, y6, y7, y8⟩ := (show Way w b gM gP gQ gU gT from hSw); go_simp; try (with_reducible rfl))
  try simp only [Act.put, List.setIfInBounds_toArray, List.set_cons_zero, List.set_cons_succ]
  have HU := Lib.hid hu
  clear hu
  have PU := Lib.hid (VV.out.2.1.gr HU.out)
  have SY := Lib.hid (show Way (u.setCells gT 93 (exC (hdZ 2 ⟨#[118]⟩)).toArray.toList) b gM gP gQ gU gT from way_of ((sets_blk (ne_ty (HU.out.keep VV.out.1) PU.out.2.2.2.2.2.2 (by decide)) _ _ _).trans (HU.out.keep VV.out.1)) (PU.out.e2 ⟨#[118]⟩))
  refine wpAnyH_ready (rs := [8]) (by kernel_rfl) (by simp) ?_
  refine AllReadyH.cons (o := { dst := none, op := Op.store 47 (Operand.tmp 28) (Operand.tmp 26), type := 0, pos := "law.go:35", after := #[{ on := 7, ground := Ground.data }, { on := 5, ground := Ground.data }, { on := 5, ground := Ground.chain }, { on := 0, ground := Ground.phase }, { on := 1, ground := Ground.phase }, { on := 2, ground := Ground.phase }, { on := 3, ground := Ground.phase }, { on := 4, ground := Ground.phase }, { on := 5, ground := Ground.phase }], guard := none }) rfl (fun K hK => ?_) AllReadyH.nil
  have TH := Lib.hid (show u.there gT 93 (exC (hdZ 2 ⟨#[118]⟩)).toArray.size from there_in PU.out.2.2.2.2.2.2 (Nat.le_of_ble_eq_true rfl))
  refine wp_store_mid 47 _ _ rfl gT 93 (exC (hdZ 2 ⟨#[118]⟩)).toArray rfl rfl TH.out (size47' _) (ones47 _) ?_
  refine hK.out _ _ SY.out (fun hHeld => ?_)
  clear hK K TH SY SX
  try simp only [Act.put, List.setIfInBounds_toArray, List.set_cons_zero, List.set_cons_succ]
  refine wpAnyH_done (by kernel_rfl) ?_ _
  go_upto_region 5 with fail
  refine wp_name fun W hV => ?_
  have WW := Lib.hid (show W.heap[b]? = some (.cells #[.slice (some ⟨gM, 0, none⟩) 2 2] 24 (0, 0)) ∧ PrAt W gM gP gQ gU gA gB gT ⟨#[110]⟩ ⟨#[118, 46, 98]⟩ ⟨#[97]⟩ ⟨#[112]⟩ ⟨#[118]⟩ ∧ Gr w3 W ∧ w3.heap.size ≤ b from by
    rw [hV]
    exact ⟨(sets_blk (ne_ty (HU.out.keep VV.out.1) PU.out.2.2.2.2.2.2 (by decide)) _ _ _).trans (HU.out.keep VV.out.1), PU.out.e2 _, gr_sets S4.out.2.2 _ _ _ (VV.out.2.2.1.trans HU.out), VV.out.2.2.2⟩)
  clear hV PU HU VV
  have SX := Lib.hid (fun (u : World) (hu : Gr W u) => (show Way u b gM gP gQ gU gT from way_of (hu.keep WW.out.1) (WW.out.2.1.gr hu)))
  refine wp_region_held_drew (S := fun u : World => Way u b gM gP gQ gU gT) (by kernel_rfl) (SX.out _ (Gr.drew _)) (fun hHeld => ?_)
  refine wpAnyH_take (i := 0) (oi := { dst := some 29, op := Op.fieldAddr 24 (Operand.tmp 3) 0, type := 0, pos := "law.go:36", after := #[], guard := none }) (v := ?_) rfl (by kernel_rfl) (by kernel_rfl) (by kernel_rfl) (fun _ _ _ h => h) (Or.inl ⟨by rfl, ?_⟩) hHeld ?_
  case refine_2 => (intro w hSw; (try dsimp only at hSw); obtain ⟨y0, y1, y2, y3, y4, y5, y6, y7, y8⟩ := (show Way w b gM gP gQ gU gT from hSw); go_simp; try (with_reducible rfl))
  try simp only [Act.put, List.setIfInBounds_toArray, List.set_cons_zero, List.set_cons_succ]
  refine wpAnyH_take (i := 1) (oi := { dst := some 30, op := Op.load 22 (Operand.tmp 29), type := 22, pos := "law.go:36", after := #[{ on := 0, ground := Ground.data }], guard := none }) (v := ?_) rfl (by kernel_rfl) (by kernel_rfl) (by kernel_rfl) (fun _ _ _ h => h) (Or.inl ⟨by rfl, ?_⟩) hHeld ?_
  case refine_2 => (intro w hSw; (try dsimp only at hSw); obtain ⟨y0, y1, y2, y3, y4, y5, y6, y7, y8⟩ := (show Way w b gM gP gQ gU gT from hSw); go_simp; try (with_reducible rfl))
  try simp only [Act.put, List.setIfInBounds_toArray, List.set_cons_zero, List.set_cons_succ]
  refine wpAnyH_take (i := 2) (oi := { dst := some 31, op := Op.indexAddr 22 (Operand.tmp 30) (Operand.const (Value.int IntKind.i64 1)), type := 0, pos := "law.go:36", after := #[{ on := 1, ground := Ground.data }], guard := none }) (v := ?_) rfl (by kernel_rfl) (by kernel_rfl) (by kernel_rfl) (fun _ _ _ h => h) (Or.inl ⟨by rfl, ?_⟩) hHeld ?_
  case refine_2 => (intro w hSw; (try dsimp only at hSw); obtain ⟨y0, y1, y2, y3, y4, y5, y6, y7, y8⟩ := (show Way w b gM gP gQ gU gT from hSw); go_simp; try (with_reducible rfl))
  try simp only [Act.put, List.setIfInBounds_toArray, List.set_cons_zero, List.set_cons_succ]
  refine wpAnyH_take (i := 3) (oi := { dst := some 32, op := Op.fieldAddr 34 (Operand.tmp 31) 3, type := 0, pos := "law.go:36", after := #[{ on := 2, ground := Ground.data }], guard := none }) (v := ?_) rfl (by kernel_rfl) (by kernel_rfl) (by kernel_rfl) (fun _ _ _ h => h) (Or.inl ⟨by rfl, ?_⟩) hHeld ?_
  case refine_2 => (intro w hSw; (try dsimp only at hSw); obtain ⟨y0, y1, y2, y3, y4, y5, y6, y7, y8⟩ := (show Way w b gM gP gQ gU gT from hSw); go_simp; try (with_reducible rfl))
  try simp only [Act.put, List.setIfInBounds_toArray, List.set_cons_zero, List.set_cons_succ]
  refine wpAnyH_take (i := 4) (oi := { dst := some 33, op := Op.load 32 (Operand.tmp 32), type := 32, pos := "law.go:36", after := #[{ on := 3, ground := Ground.data }], guard := none }) (v := ?_) rfl (by kernel_rfl) (by kernel_rfl) (by kernel_rfl) (fun _ _ _ h => h) (Or.inl ⟨by rfl, ?_⟩) hHeld ?_
  case refine_2 => (intro w hSw; (try dsimp only at hSw); obtain ⟨y0, y1, y2, y3, y4, y5, y6, y7, y8⟩ := (show Way w b gM gP gQ gU gT from hSw); go_simp; try (with_reducible rfl))
  try simp only [Act.put, List.setIfInBounds_toArray, List.set_cons_zero, List.set_cons_succ]
  refine wpAnyH_ready (rs := [5]) (by kernel_rfl) (by simp) ?_
  refine AllReadyH.cons (o := { dst := some 34, op := Op.call { callee := Callee.value (Operand.func 22), args := #[Operand.const (Value.string { data := #[118, 46, 97] })], argTypes := #[9] }, type := 47, pos := "law.go:36", after := #[], guard := none }) rfl (fun K hK => ?_) AllReadyH.nil
  go_simp
  refine (Lref_any ⟨#[118, 46, 97]⟩ _).mono ?_
  rintro e u ⟨rfl, hu'⟩
  have hu : Gr W u := (Gr.drew _).trans hu'
  refine hK.out _ _ (SX.out _ hu) (fun hHeld => ?_)
  clear hK K hu'
  try simp only [Act.put, List.setIfInBounds_toArray, List.set_cons_zero, List.set_cons_succ]
  refine wpAnyH_take (i := 6) (oi := { dst := some 35, op := Op.indexAddr 32 (Operand.tmp 33) (Operand.const (Value.int IntKind.i64 0)), type := 0, pos := "law.go:36", after := #[{ on := 4, ground := Ground.data }, { on := 0, ground := Ground.phase }, { on := 1, ground := Ground.phase }, { on := 2, ground := Ground.phase }, { on := 3, ground := Ground.phase }, { on := 4, ground := Ground.phase }, { on := 5, ground := Ground.phase }], guard := none }) (v := ?_) rfl (by kernel_rfl) (by kernel_rfl) (by kernel_rfl) (fun _ _ _ h => h) (Or.inl ⟨by rfl, ?_⟩) hHeld ?_
  case refine_2 => (intro w hSw; (try dsimp only at hSw); obtain ⟨y0, y1, y2, y3, y4, y5, y6, y7, y8⟩ := (show Way w b gM gP gQ gU gT from hSw); go_simp; try (with_reducible rfl))
  try simp only [Act.put, List.setIfInBounds_toArray, List.set_cons_zero, List.set_cons_succ]
  refine wpAnyH_take (i := 7) (oi := { dst := some 36, op := Op.fieldAddr 49 (Operand.tmp 35) 7, type := 0, pos := "law.go:36", after := #[{ on := 6, ground := Ground.data }, { on := 0, ground := Ground.phase }, { on := 1, ground := Ground.phase }, { on := 2, ground := Ground.phase }, { on := 3, ground := Ground.phase }, { on := 4, ground := Ground.phase }, { on := 5, ground := Ground.phase }], guard := none }) (v := ?_) rfl (by kernel_rfl) (by kernel_rfl) (by kernel_rfl) (fun _ _ _ h => h) (Or.inl ⟨by rfl, ?_⟩) hHeld ?_
  case refine_2 => (intro w hSw; (try dsimp only at hSw); obtain ⟨y0, y1, y2, y3, y4, y5, y6, y7, y8⟩ := (show Way w b gM gP gQ gU gT from hSw); go_simp; try (with_reducible rfl))
  try simp only [Act.put, List.setIfInBounds_toArray, List.set_cons_zero, List.set_cons_succ]
  have HU := Lib.hid hu
  clear hu
  have PU := Lib.hid (WW.out.2.1.gr HU.out)
  have SY := Lib.hid (show Way (u.setCells gT 9 (exC (hdZ 2 ⟨#[118, 46, 97]⟩)).toArray.toList) b gM gP gQ gU gT from way_of ((sets_blk (ne_ty (HU.out.keep WW.out.1) PU.out.2.2.2.2.2.2 (by decide)) _ _ _).trans (HU.out.keep WW.out.1)) (PU.out.e0 ⟨#[118, 46, 97]⟩))
  refine wpAnyH_ready (rs := [8]) (by kernel_rfl) (by simp) ?_
  refine AllReadyH.cons (o := { dst := none, op := Op.store 47 (Operand.tmp 36) (Operand.tmp 34), type := 0, pos := "law.go:36", after := #[{ on := 7, ground := Ground.data }, { on := 5, ground := Ground.data }, { on := 5, ground := Ground.chain }, { on := 0, ground := Ground.phase }, { on := 1, ground := Ground.phase }, { on := 2, ground := Ground.phase }, { on := 3, ground := Ground.phase }, { on := 4, ground := Ground.phase }, { on := 5, ground := Ground.phase }], guard := none }) rfl (fun K hK => ?_) AllReadyH.nil
  have TH := Lib.hid (show u.there gT 9 (exC (hdZ 2 ⟨#[118, 46, 97]⟩)).toArray.size from there_in PU.out.2.2.2.2.2.2 (Nat.le_of_ble_eq_true rfl))
  refine wp_store_mid 47 _ _ rfl gT 9 (exC (hdZ 2 ⟨#[118, 46, 97]⟩)).toArray rfl rfl TH.out (size47' _) (ones47 _) ?_
  refine hK.out _ _ SY.out (fun hHeld => ?_)
  clear hK K TH SY SX
  try simp only [Act.put, List.setIfInBounds_toArray, List.set_cons_zero, List.set_cons_succ]
  refine wpAnyH_done (by kernel_rfl) ?_ _
  go_upto_region 6 with fail
  refine wp_name fun X hV => ?_
  have XX := Lib.hid (show X.heap[b]? = some (.cells #[.slice (some ⟨gM, 0, none⟩) 2 2] 24 (0, 0)) ∧ PrAt X gM gP gQ gU gA gB gT ⟨#[110]⟩ ⟨#[118, 46, 97]⟩ ⟨#[97]⟩ ⟨#[112]⟩ ⟨#[118]⟩ ∧ Gr w3 X ∧ w3.heap.size ≤ b from by
    rw [hV]
    exact ⟨(sets_blk (ne_ty (HU.out.keep WW.out.1) PU.out.2.2.2.2.2.2 (by decide)) _ _ _).trans (HU.out.keep WW.out.1), PU.out.e0 _, gr_sets S4.out.2.2 _ _ _ (WW.out.2.2.1.trans HU.out), WW.out.2.2.2⟩)
  clear hV PU HU WW
  have CB := Lib.hid (chk_pair XX.out.2.1 (ML.out _ (G3.out.trans XX.out.2.2.1)) few_va few_v pair_b rfl)
  obtain ⟨x0, x1, x2, x3, x4, x5, x6, x7, x8⟩ := way_of XX.out.1 XX.out.2.1
  go_upto_region 8 with (first
    | (go_at_call 14; refine CB.out.mono ?_; rintro e w6 ⟨A6, d6, rfl, hr6, hg⟩; have G6 := Lib.hid hg; have R6 := Lib.hid hr6; clear hg hr6)
    | (go_at_call 24; refine (Pair_any _).mono ?_; rintro e w7 ⟨fM, fP, fQ, fU, fA, fB, fT, rfl, hp, hs, hg⟩; have P7 := hp; have S7 := hs; have G7 := Lib.hid hg; clear hp hg hs))
  clear CB x0 x1 x2 x3 x4 x5 x6 x7 x8
  obtain ⟨b', hb⟩ : ∃ b, w7.heap.size = b := ⟨_, rfl⟩
  refine wp_name fun Y hV => ?_
  have YY := Lib.hid (show Y.heap[b']? = some (.cells #[.slice (some ⟨fM, 0, none⟩) 2 2] 24 (0, 0)) ∧ PrAt Y fM fP fQ fU fA fB fT ⟨#[110]⟩ ⟨#[118, 46, 98]⟩ ⟨#[97]⟩ ⟨#[112]⟩ ⟨#[119]⟩ ∧ Gr w6 Y ∧ w6.heap.size ≤ b' from by
    rw [hV, ← hb]
    exact ⟨new_at _ _, P7.out.gr (Gr.alloc _ _), G7.out.trans (Gr.alloc _ _), G7.out.size⟩)
  rw [hb]
  clear hV hb P7 G7
  obtain ⟨x0, x1, x2, x3, x4, x5, x6, x7, x8⟩ := way_of YY.out.1 YY.out.2.1
  have hblk := YY.out.2.1.2.2.2.2.2.1
  have z0 : Y.frozen? ⟨fB, 0, none⟩ = false := frozen_at hblk
  have z1 := cell_at (o := 0) hblk
  have hit := YY.out.2.1.2.2.2.2.2.2
  have z2 := cell_at (o := 50) hit
  replace z2 : Y.cell? ⟨fT, 50, none⟩ = some (.slice (some ⟨fB, 0, none⟩) 1 1) := z2
  replace z1 : Y.cell? ⟨fB, 0, none⟩ = some (.string ⟨#[97]⟩) := z1
  have HBL := Lib.hid hblk
  clear hblk hit
  go_upto_region 9 with fail
  clear x0 x1 x2 x3 x4 x5 x6 x7 x8 z0 z1 z2
  refine wp_name fun Y1 hV => ?_
  have Y1Y := Lib.hid (show Y1.heap[b']? = some (.cells #[.slice (some ⟨fM, 0, none⟩) 2 2] 24 (0, 0)) ∧ PrAt Y1 fM fP fQ fU fA fB fT ⟨#[110]⟩ ⟨#[118, 46, 98]⟩ ⟨#[98]⟩ ⟨#[112]⟩ ⟨#[119]⟩ ∧ Gr w6 Y1 ∧ w6.heap.size ≤ b' from by
    rw [hV]
    exact ⟨(sets_blk (ne_ty YY.out.1 HBL.out (by decide)) [.string ⟨#[98]⟩] 0 _).trans YY.out.1, YY.out.2.1.bd ⟨#[98]⟩, gr_sets S7.out.2.1 [.string ⟨#[98]⟩] 0 _ YY.out.2.2.1, YY.out.2.2.2⟩)
  clear hV HBL YY
  obtain ⟨x0, x1, x2, x3, x4, x5, x6, x7, x8⟩ := way_of Y1Y.out.1 Y1Y.out.2.1
  have hblk := Y1Y.out.2.1.2.2.1
  have z0 : Y1.frozen? ⟨fQ, 2, none⟩ = false := frozen_at hblk
  have z1 := cell_at (o := 2) hblk
  replace z1 : Y1.cell? ⟨fQ, 2, none⟩ = some (.string ⟨#[110]⟩) := z1
  have HBL := Lib.hid hblk
  clear hblk
  go_upto_region 10 with fail
  clear x0 x1 x2 x3 x4 x5 x6 x7 x8 z0 z1
  refine wp_name fun Y2 hV => ?_
  have Y2Y := Lib.hid (show Y2.heap[b']? = some (.cells #[.slice (some ⟨fM, 0, none⟩) 2 2] 24 (0, 0)) ∧ PrAt Y2 fM fP fQ fU fA fB fT ⟨#[109]⟩ ⟨#[118, 46, 98]⟩ ⟨#[98]⟩ ⟨#[112]⟩ ⟨#[119]⟩ ∧ Gr w6 Y2 ∧ w6.heap.size ≤ b' from by
    rw [hV]
    exact ⟨(sets_blk (ne_ty Y1Y.out.1 HBL.out (by decide)) [.string ⟨#[109]⟩] 2 _).trans Y1Y.out.1, Y1Y.out.2.1.qw ⟨#[109]⟩, gr_sets S7.out.1 [.string ⟨#[109]⟩] 2 _ Y1Y.out.2.2.1, Y1Y.out.2.2.2⟩)
  clear hV HBL Y1Y
  obtain ⟨x0, x1, x2, x3, x4, x5, x6, x7, x8⟩ := way_of Y2Y.out.1 Y2Y.out.2.1
  have hblk := Y2Y.out.2.1.2.2.2.2.2.2
  have z0 : Y2.frozen? ⟨fT, 85, none⟩ = false := frozen_at hblk
  have z1 := cell_at (o := 85) hblk
  replace z1 : Y2.cell? ⟨fT, 85, none⟩ = some (.string ⟨#[112]⟩) := z1
  have HBL := Lib.hid hblk
  clear hblk
  go_upto_region 11 with fail
  clear x0 x1 x2 x3 x4 x5 x6 x7 x8 z0 z1
  refine wp_name fun Y3 hV => ?_
  have Y3Y := Lib.hid (show Y3.heap[b']? = some (.cells #[.slice (some ⟨fM, 0, none⟩) 2 2] 24 (0, 0)) ∧ PrAt Y3 fM fP fQ fU fA fB fT ⟨#[109]⟩ ⟨#[118, 46, 98]⟩ ⟨#[98]⟩ ⟨#[119]⟩ ⟨#[119]⟩ ∧ Gr w6 Y3 ∧ w6.heap.size ≤ b' from by
    rw [hV]
    exact ⟨(sets_blk (ne_ty Y2Y.out.1 HBL.out (by decide)) [.string ⟨#[119]⟩] 85 _).trans Y2Y.out.1, Y2Y.out.2.1.nm ⟨#[119]⟩, gr_sets S7.out.2.2 [.string ⟨#[119]⟩] 85 _ Y2Y.out.2.2.1, Y2Y.out.2.2.2⟩)
  clear hV HBL Y2Y
  have CC := Lib.hid (chk_pair Y3Y.out.2.1 (ML.out _ ((G3.out.trans XX.out.2.2.1).trans (G6.out.trans Y3Y.out.2.2.1))) few_vb few_w pair_c rfl)
  obtain ⟨x0, x1, x2, x3, x4, x5, x6, x7, x8⟩ := way_of Y3Y.out.1 Y3Y.out.2.1
  go_upto_region 12 with (go_at_call 14; refine CC.out.mono ?_; rintro e w11 ⟨A11, d11, rfl, hr11, hg⟩; have G11 := Lib.hid hg; have R11 := Lib.hid hr11; clear hg hr11)
  clear CC x0 x1 x2 x3 x4 x5 x6 x7 x8
  have GD := Lib.hid (G6.out.trans (Y3Y.out.2.2.1.trans G11.out))
  have WY := Lib.hid (fun (u : World) (hu : Gr w11 u) => way_of ((GD.out.trans hu).keep XX.out.1) (XX.out.2.1.gr (GD.out.trans hu)))
  have KU := Lib.hid (fun (u : World) (hu : Gr w11 u) => kind_u (XX.out.2.1.gr (GD.out.trans hu)) ⟨#[98]⟩ kind_b)
  have KV := Lib.hid (fun (u : World) (hu : Gr w11 u) => kind_t (XX.out.2.1.gr (GD.out.trans hu)) ⟨#[118]⟩ kind_v)
  have KP := Lib.hid (fun (u : World) (hu : Gr w11 u) => kind_t (XX.out.2.1.gr (GD.out.trans hu)) ⟨#[112]⟩ kind_p)
  obtain ⟨x0, x1, x2, x3, x4, x5, x6, x7, x8⟩ := WY.out _ (Gr.refl _)
  go_upto_region 13 with (go_at_call 16; refine (KU.out _ (Gr.refl _)).mono ?_; rintro e w12 ⟨rfl, hg⟩; have G12 := Lib.hid hg; clear hg)
  clear x0 x1 x2 x3 x4 x5 x6 x7 x8
  obtain ⟨x0, x1, x2, x3, x4, x5, x6, x7, x8⟩ := WY.out _ G12.out
  go_upto_region 14 with (go_at_call 16; refine (KV.out _ G12.out).mono ?_; rintro e w13 ⟨rfl, hg⟩; have G13 := Lib.hid (G12.out.trans hg); clear hg)
  clear x0 x1 x2 x3 x4 x5 x6 x7 x8
  obtain ⟨x0, x1, x2, x3, x4, x5, x6, x7, x8⟩ := WY.out _ G13.out
  go_upto_region 15 with (go_at_call 16; refine (KP.out _ G13.out).mono ?_; rintro e w14 ⟨rfl, hg⟩; have G14 := Lib.hid (G13.out.trans hg); clear hg)
  clear x0 x1 x2 x3 x4 x5 x6 x7 x8 KU KV KP WY
  have GF := Lib.hid (show Gr w3 w14 from XX.out.2.2.1.trans (GD.out.trans G14.out))
  have QA := Lib.hid (fun (u : World) (hu : Gr w3 u) => R2.out.gr hu)
  have QB := Lib.hid (fun (u : World) (hu : Gr w6 u) => R6.out.gr hu)
  have QC := Lib.hid (fun (u : World) (hu : Gr w11 u) => R11.out.gr hu)
  have G6F := Lib.hid (show Gr w6 w14 from (Y3Y.out.2.2.1.trans G11.out).trans G14.out)
  have SM1 := Lib.hid (show Calls Try.prog 13 #[.slice A2 1 d2, .slice (some ⟨w14.heap.size, 0, none⟩) 1 1] (w14.alloc (.cells #[.int .i64 51, .int .i64 0, .int .i64 0, .int .i64 (-1)] 40)) (fun e w' => e = .returned (.bool true) ∧ Gr (w14.alloc (.cells #[.int .i64 51, .int .i64 0, .int .i64 0, .int .i64 (-1)] 40)) w') from RSame_yes [(51, 0, -1)] A2 (some ⟨w14.heap.size, 0, none⟩) d2 1 _ (by decide) (Lib.hid (QA.out _ (GF.out.trans (Gr.alloc _ _)))) (Lib.hid (rowc_block (new_at _ _) rfl (by intro c hc; simp only [List.map_cons, List.map_nil, List.mem_cons, List.not_mem_nil, or_false] at hc; subst hc <;> rfl) rfl (by decide))))
  go_upto_region 16 with (go_at_call 13; refine SM1.out.mono ?_; rintro e w15 ⟨rfl, hg⟩; have Hw15 := Lib.hid ((Gr.alloc w14 _).trans hg); clear hg)
  clear SM1
  have SM2 := Lib.hid (show Calls Try.prog 13 #[.slice A6 2 d6, .slice (some ⟨w15.heap.size, 0, none⟩) 2 2] (w15.alloc (.cells #[.int .i64 51, .int .i64 0, .int .i64 1, .int .i64 0, .int .i64 52, .int .i64 0, .int .i64 1, .int .i64 2] 40)) (fun e w' => e = .returned (.bool true) ∧ Gr (w15.alloc (.cells #[.int .i64 51, .int .i64 0, .int .i64 1, .int .i64 0, .int .i64 52, .int .i64 0, .int .i64 1, .int .i64 2] 40)) w') from RSame_yes [(51, 1, 0), (52, 1, 2)] A6 (some ⟨w15.heap.size, 0, none⟩) d6 2 _ (by decide) (Lib.hid (QB.out _ ((G6F.out.trans Hw15.out).trans (Gr.alloc _ _)))) (Lib.hid (rowc_block (new_at _ _) rfl (by intro c hc; simp only [List.map_cons, List.map_nil, List.mem_cons, List.not_mem_nil, or_false] at hc; rcases hc with rfl | rfl <;> rfl) rfl (by decide))))
  go_upto_region 17 with (go_at_call 13; refine SM2.out.mono ?_; rintro e w16 ⟨rfl, hg⟩; have Hw16 := Lib.hid ((Gr.alloc w15 _).trans hg); clear hg)
  clear SM2
  have SM3 := Lib.hid (show Calls Try.prog 13 #[.slice A11 3 d11, .slice (some ⟨w16.heap.size, 0, none⟩) 3 3] (w16.alloc (.cells #[.int .i64 40, .int .i64 0, .int .i64 0, .int .i64 (-1), .int .i64 53, .int .i64 0, .int .i64 1, .int .i64 1, .int .i64 50, .int .i64 0, .int .i64 1, .int .i64 2] 40)) (fun e w' => e = .returned (.bool true) ∧ Gr (w16.alloc (.cells #[.int .i64 40, .int .i64 0, .int .i64 0, .int .i64 (-1), .int .i64 53, .int .i64 0, .int .i64 1, .int .i64 1, .int .i64 50, .int .i64 0, .int .i64 1, .int .i64 2] 40)) w') from RSame_yes [(40, 0, -1), (53, 1, 1), (50, 1, 2)] A11 (some ⟨w16.heap.size, 0, none⟩) d11 3 _ (by decide) (Lib.hid (QC.out _ (((G14.out.trans Hw15.out).trans Hw16.out).trans (Gr.alloc _ _)))) (Lib.hid (rowc_block (new_at _ _) rfl (by intro c hc; simp only [List.map_cons, List.map_nil, List.mem_cons, List.not_mem_nil, or_false] at hc; rcases hc with rfl | rfl | rfl <;> rfl) rfl (by decide))))
  go_upto_region 18 with (go_at_call 13; refine SM3.out.mono ?_; rintro e w17 ⟨rfl, hg⟩; have Hw17 := Lib.hid ((Gr.alloc w16 _).trans hg); clear hg)
  clear SM3
  go_wp2_with fail
  go_ret
  exact ⟨rfl, G3.out.trans (GF.out.trans (Hw15.out.trans (Hw16.out.trans Hw17.out)))⟩
end Go.Proofs.Ytjkaeabnjkhllaa
