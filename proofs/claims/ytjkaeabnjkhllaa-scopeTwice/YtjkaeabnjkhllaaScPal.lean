/-
  ref, one and Pair of the laws, WALKED.
-/
import Derived.Test.YtjkaeabnjkhllaaScPaa
namespace Go.Proofs.Ytjkaeabnjkhllaa
open Go.RowKit

theorem size24 : (Try.prog.info? 24).map (·.size) = some (#[undef] : Array Value).size := by kernel_rfl
theorem sets_blk {g j : Nat} (hj : j ≠ g) : ∀ (vs : List Value) (o : Nat) (w : World), (w.setCells g o vs).heap[j]? = w.heap[j]?
  | [], _, _ => rfl
  | v :: r, o, w => (sets_blk hj r (o + 1) _).trans (heap_setCell_other w ⟨g, o, none⟩ j v hj)
theorem wp_name {P : Program} {c : Code} {Q : Exit → Act → World → Prop} {a : Act} {w : World} (h : ∀ V, V = w → c.wp P Q a V) : c.wp P Q a w := h w rfl
set_option maxRecDepth 100000 in
set_option maxHeartbeats 4000000 in
theorem Lref_any (s : ByteArray) (w : World) : Calls Try.prog 22 #[.string s] w fun e w' => e = .returned (.agg #[.int .i64 2, .string ⟨#[]⟩, .int .i64 0, .string ⟨#[]⟩, .int .i64 0, .string ⟨#[]⟩, .int .i64 0, .string ⟨#[]⟩, .int .i64 0, .string s, .slice none 0 0]) ∧ Gr w w' := by
  go_enter Try.func22, Try.ntmps22
  go_wp2_with fail
  refine bodyPost_ret (results_cell_row rfl _ _ w.heap.size 47 #[.int .i64 2, .string ⟨#[]⟩, .int .i64 0, .string ⟨#[]⟩, .int .i64 0, .string ⟨#[]⟩, .int .i64 0, .string ⟨#[]⟩, .int .i64 0, .string s, .slice none 0 0] (0, 0) _ rfl (new_at w _) Try.underlying47 rfl size47) rfl ⟨rfl, Gr.alloc _ _⟩
set_option maxRecDepth 100000 in
set_option maxHeartbeats 4000000 in
theorem Lone_any (w : World) : Calls Try.prog 34 #[] w fun e w' => e = .returned (.agg #[.int .i64 1, .string ⟨#[]⟩, .int .i64 1, .string ⟨#[]⟩, .int .i64 1, .string ⟨#[]⟩, .int .i64 0, .string ⟨#[]⟩, .int .i64 0, .string ⟨#[]⟩, .slice none 0 0]) ∧ Gr w w' := by
  go_enter Try.func34, Try.ntmps34
  go_wp2_with fail
  refine bodyPost_ret (results_cell_row rfl _ _ w.heap.size 47 #[.int .i64 1, .string ⟨#[]⟩, .int .i64 1, .string ⟨#[]⟩, .int .i64 1, .string ⟨#[]⟩, .int .i64 0, .string ⟨#[]⟩, .int .i64 0, .string ⟨#[]⟩, .slice none 0 0] (0, 0) _ rfl (new_at w _) Try.underlying47 rfl size47) rfl ⟨rfl, Gr.alloc _ _⟩
set_option maxRecDepth 100000 in
set_option maxHeartbeats 8000000 in
theorem Pair_any (w : World) : Calls Try.prog 24 #[] w fun e w' => ∃ gM gP gQ gU gA gB gT, e = .returned (.agg #[.slice (some ⟨gM, 0, none⟩) 2 2]) ∧ Hid (PrAt w' gM gP gQ gU gA gB gT ⟨#[110]⟩ ⟨#[118, 46, 98]⟩ ⟨#[97]⟩ ⟨#[112]⟩ ⟨#[119]⟩) ∧ Hid (w.heap.size ≤ gQ ∧ w.heap.size ≤ gB ∧ w.heap.size ≤ gT) ∧ Gr w w' := by
  go_enter Try.func24, Try.ntmps24
  go_upto_region 2 with (go_at_call 22; refine (Lref_any _ _).mono ?_; rintro e w1 ⟨rfl, hg⟩; have H1 := Lib.hid hg; clear hg)
  have X1 := Lib.hid (show w1.heap[w.heap.size]? = some (.cells #[.slice none 0 0] 24 (0, 0)) ∧ w1.heap[w.heap.size + 1]? = some (.cells #[.string ⟨#[110]⟩] 9 (0, 0)) ∧ w1.heap[w.heap.size + 1 + 1]? = some (.cells #[.bool true, .string ⟨#[97]⟩, .string ⟨#[110]⟩, .int .i64 0, .bool false, .string ⟨#[98]⟩, .string ⟨#[]⟩, .int .i64 1] 59 (0, 0)) ∧ Gr w w1 from by
    have h := H1.out
    refine ⟨h.keep ((Gr.alloc _ _).keep (heap_alloc2_old w _ _)), h.keep ((Gr.alloc _ _).keep (heap_alloc2_new w _ _)), h.keep ?_, (((Gr.alloc _ _).trans (Gr.alloc _ _)).trans (Gr.alloc _ _)).trans h⟩
    have h3 := new_at ((w.alloc (.cells #[.slice none 0 0] 24)).alloc (.cells #[.string ⟨#[110]⟩] 9)) (.cells #[.bool true, .string ⟨#[97]⟩, .string ⟨#[110]⟩, .int .i64 0, .bool false, .string ⟨#[98]⟩, .string ⟨#[]⟩, .int .i64 1] 59)
    simpa using h3)
  clear H1
  refine wp_name fun V hV => ?_
  have VV := Lib.hid (show V.heap[w1.heap.size]? = some (.cells (itC 4 ⟨#[98]⟩ z0 ByteArray.empty nilS nilS (hdZ 2 ⟨#[97]⟩)).toArray 49 (0, 0)) ∧ V.heap[w1.heap.size + 1]? = some (.cells #[.string ⟨#[117]⟩, .slice (some ⟨w.heap.size + 1, 0, none⟩) 1 1, .slice (some ⟨w.heap.size + 1 + 1, 0, none⟩) 2 2, .slice (some ⟨w1.heap.size, 0, none⟩) 1 1] 34 (0, 0)) ∧ Gr w1 V from by
    rw [hV]
    exact ⟨heap_alloc2_old _ _ _, heap_alloc2_new _ _ _, (Gr.alloc _ _).trans (Gr.alloc _ _)⟩)
  clear hV
  go_upto_region 3 with (first
    | (go_at_call 34; refine (Lone_any _).mono ?_; rintro e w3 ⟨rfl, hg⟩; have H3 := Lib.hid hg; clear hg)
    | (go_at_call 22; refine (Lref_any ⟨#[118, 46, 98]⟩ _).mono ?_; rintro e w2 ⟨rfl, hg⟩; have H2 := Lib.hid hg; clear hg)
    | (go_at_call 22; refine (Lref_any ⟨#[119]⟩ _).mono ?_; rintro e w4 ⟨rfl, hg⟩; have H4 := Lib.hid hg; clear hg))
  refine wp_name fun U hU => ?_
  have UU := Lib.hid (show U.heap[w4.heap.size]? = some (.cells (itC 1 ⟨#[119]⟩ (ByteArray.empty, 1) ByteArray.empty nilS nilS (hdZ 2 ⟨#[118, 46, 98]⟩) ++ (itC 7 ⟨#[118]⟩ z0 ⟨#[117]⟩ (.slice (some ⟨w2.heap.size, 0, none⟩) 1 1) (.slice (some ⟨w3.heap.size, 0, none⟩) 1 1) (hdZ 0 ByteArray.empty) ++ itC 8 ⟨#[112]⟩ z0 ByteArray.empty nilS nilS (hdZ 2 ⟨#[119]⟩))).toArray 49 (0, 0)) ∧ U.heap[w4.heap.size + 1]? = some (.cells #[.string ⟨#[116]⟩, .slice none 0 0, .slice none 0 0, .slice (some ⟨w4.heap.size, 0, none⟩) 3 3] 34 (0, 0)) ∧ Gr w4 U from by
    rw [hU]
    exact ⟨heap_alloc2_old _ _ _, heap_alloc2_new _ _ _, (Gr.alloc _ _).trans (Gr.alloc _ _)⟩)
  clear hU
  have h34 : w4.heap[w3.heap.size]? = some (.cells (Value.string ⟨#[97]⟩ :: exC hd1).toArray 64 (0, 0)) := H4.out.keep (new_at _ _)
  have h23 : w3.heap[w2.heap.size]? = some (.cells #[.string ⟨#[]⟩, .int .i64 1] 42 (0, 0)) := H3.out.keep (new_at _ _)
  have g34 : Gr w3 w4 := (Gr.alloc _ _).trans H4.out
  have g23 : Gr w2 w3 := (Gr.alloc _ _).trans H3.out
  have HK := Lib.hid (And.intro h34 (And.intro h23 (And.intro g34 g23)))
  clear h34 h23 g34 g23 H3 H4
  have GU := Lib.hid (show Gr V U from (H2.out.trans (HK.out.2.2.2.trans HK.out.2.2.1)).trans UU.out.2.2)
  have K := Lib.hid (fun (u : World) (hu : Gr U u) => (show u.cell? ⟨w1.heap.size + 1, 0, none⟩ = some (.string ⟨#[117]⟩) ∧ u.cell? ⟨w1.heap.size + 1, 1, none⟩ = some (.slice (some ⟨w.heap.size + 1, 0, none⟩) 1 1) ∧ u.cell? ⟨w1.heap.size + 1, 2, none⟩ = some (.slice (some ⟨w.heap.size + 1 + 1, 0, none⟩) 2 2) ∧ u.cell? ⟨w1.heap.size + 1, 3, none⟩ = some (.slice (some ⟨w1.heap.size, 0, none⟩) 1 1) ∧
      u.cell? ⟨w4.heap.size + 1, 0, none⟩ = some (.string ⟨#[116]⟩) ∧ u.cell? ⟨w4.heap.size + 1, 1, none⟩ = some (.slice none 0 0) ∧ u.cell? ⟨w4.heap.size + 1, 2, none⟩ = some (.slice none 0 0) ∧ u.cell? ⟨w4.heap.size + 1, 3, none⟩ = some (.slice (some ⟨w4.heap.size, 0, none⟩) 3 3) ∧ u.cell? ⟨w.heap.size, 0, none⟩ = some (.slice none 0 0) ∧ u.frozen? ⟨w.heap.size, 0, none⟩ = false from by
    have a1 := (GU.out.trans hu).keep VV.out.2.1
    have a2 := hu.keep UU.out.2.1
    have a3 := ((VV.out.2.2.trans GU.out).trans hu).keep X1.out.1
    refine ⟨?_, ?_, ?_, ?_, ?_, ?_, ?_, ?_, ?_, ?_⟩
    iterate 4 (rw [cell_at a1]; rfl)
    iterate 4 (rw [cell_at a2]; rfl)
    · rw [cell_at a3]; rfl
    · unfold World.frozen?
      simp only [a3]
      rfl))
  obtain ⟨k0, k1, k2, k3, k4, k5, k6, k7, k8, k9⟩ := K.out U (Gr.refl _)
  have THR := Lib.hid (show (U.alloc (.cells #[.string ⟨#[117]⟩, .slice (some ⟨w.heap.size + 1, 0, none⟩) 1 1, .slice (some ⟨w.heap.size + 1 + 1, 0, none⟩) 2 2, .slice (some ⟨w1.heap.size, 0, none⟩) 1 1, .string ⟨#[116]⟩, .slice none 0 0, .slice none 0 0, .slice (some ⟨w4.heap.size, 0, none⟩) 3 3] 34)).there w.heap.size 0 (#[Value.slice (some ⟨U.heap.size, 0, none⟩) 2 2] : Array Value).size from there_all (z := #[.slice none 0 0]) (((VV.out.2.2.trans GU.out).trans (Gr.alloc U (.cells #[.string ⟨#[117]⟩, .slice (some ⟨w.heap.size + 1, 0, none⟩) 1 1, .slice (some ⟨w.heap.size + 1 + 1, 0, none⟩) 2 2, .slice (some ⟨w1.heap.size, 0, none⟩) 1 1, .string ⟨#[116]⟩, .slice none 0 0, .slice none 0 0, .slice (some ⟨w4.heap.size, 0, none⟩) 3 3] 34))).keep X1.out.1))
  have HALL := Lib.hid (show (#[Value.slice (some ⟨U.heap.size, 0, none⟩) 2 2] : Array Value).all (·.oneCell') = true from by simp [Value.oneCell'])
  go_wp2_with (refine wpList_store_mid (by rfl) 24 _ _ rfl w.heap.size 0 #[.slice (some ⟨U.heap.size, 0, none⟩) 2 2] rfl rfl THR.out size24 HALL.out ?_)
  have hb0 : (U.alloc (.cells #[.string ⟨#[117]⟩, .slice (some ⟨w.heap.size + 1, 0, none⟩) 1 1, .slice (some ⟨w.heap.size + 1 + 1, 0, none⟩) 2 2, .slice (some ⟨w1.heap.size, 0, none⟩) 1 1, .string ⟨#[116]⟩, .slice none 0 0, .slice none 0 0, .slice (some ⟨w4.heap.size, 0, none⟩) 3 3] 34)).heap[w.heap.size]? = some (.cells #[.slice none 0 0] 24 (0, 0)) := ((VV.out.2.2.trans GU.out).trans (Gr.alloc U _)).keep X1.out.1
  have hp := put_all hb0 (cs := [.slice (some ⟨U.heap.size, 0, none⟩) 2 2]) rfl
  have s1 := heap_lt X1.out.2.2.1
  have s2 := heap_lt VV.out.2.1
  have s3 := H2.out.size
  have s4 := HK.out.2.2.2.size
  have s5 := HK.out.2.2.1.size
  have s6 := heap_lt UU.out.2.1
  have gw : Gr w (U.alloc (.cells #[.string ⟨#[117]⟩, .slice (some ⟨w.heap.size + 1, 0, none⟩) 1 1, .slice (some ⟨w.heap.size + 1 + 1, 0, none⟩) 2 2, .slice (some ⟨w1.heap.size, 0, none⟩) 1 1, .string ⟨#[116]⟩, .slice none 0 0, .slice none 0 0, .slice (some ⟨w4.heap.size, 0, none⟩) 3 3] 34)) := ((X1.out.2.2.2.trans VV.out.2.2).trans GU.out).trans (Gr.alloc U _)
  have kp : ∀ (g : Nat) (o : Obj), U.heap[g]? = some o → g ≠ w.heap.size → (((U.alloc (.cells #[.string ⟨#[117]⟩, .slice (some ⟨w.heap.size + 1, 0, none⟩) 1 1, .slice (some ⟨w.heap.size + 1 + 1, 0, none⟩) 2 2, .slice (some ⟨w1.heap.size, 0, none⟩) 1 1, .string ⟨#[116]⟩, .slice none 0 0, .slice none 0 0, .slice (some ⟨w4.heap.size, 0, none⟩) 3 3] 34)).setCells w.heap.size 0 [.slice (some ⟨U.heap.size, 0, none⟩) 2 2])).heap[g]? = some o := fun g o ho hne => (sets_blk hne _ _ _).trans ((Gr.alloc U _).keep ho)
  refine bodyPost_ret (v := .agg #[.slice (some ⟨U.heap.size, 0, none⟩) 2 2]) ?_ ?_ ?_
  · exact results_cell_row rfl _ _ w.heap.size 24 #[.slice (some ⟨U.heap.size, 0, none⟩) 2 2] (0, 0) _ rfl hp Try.underlying24 rfl size24
  · rfl
  refine ⟨U.heap.size, w.heap.size + 1, w.heap.size + 1 + 1, w1.heap.size, w2.heap.size, w3.heap.size, w4.heap.size, rfl, Lib.hid ⟨?_, ?_, ?_, ?_, ?_, ?_, ?_⟩, Lib.hid ⟨by omega, by omega, by omega⟩, gr_sets (Nat.le_refl _) _ _ _ gw⟩
  · exact (sets_blk (by omega) _ _ _).trans (new_at U _)
  · exact kp _ _ ((VV.out.2.2.trans GU.out).keep X1.out.2.1) (by omega)
  · exact kp _ _ ((VV.out.2.2.trans GU.out).keep X1.out.2.2.1) (by omega)
  · exact kp _ _ (GU.out.keep VV.out.1) (by omega)
  · exact kp _ _ ((HK.out.2.2.1.trans UU.out.2.2).keep HK.out.2.1) (by omega)
  · exact kp _ _ (UU.out.2.2.keep HK.out.1) (by omega)
  · exact kp _ _ UU.out.1 (by omega)
end Go.Proofs.Ytjkaeabnjkhllaa
