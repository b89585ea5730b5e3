/-
  THE LAW DimsNames, WALKED.
-/
import Derived.Test.YtkbfediolicfaaaDoorDimLawC
namespace Go.Proofs.YtkbfediolicfaaaDoor
open Go.RowKit
open DimM

theorem app_inj (a b t : ByteArray) : a ++ t = b ++ t ↔ a = b := by
  constructor
  · intro h
    have h1 : (a ++ t).data = (b ++ t).data := by rw [h]
    rw [ByteArray.data_append, ByteArray.data_append] at h1
    have h2 := congrArg Array.toList h1
    simp only [Array.toList_append] at h2
    apply ByteArray.ext
    exact Array.toList_inj.1 (List.append_cancel_right h2)
  · intro h; rw [h]
def ren (t : ByteArray) (l : Ps) : Ps := l.map fun p => (p.1 ++ t, p.2)
theorem look_ren (s t : ByteArray) (l : Ps) : DimM.look (s ++ t) (ren t l) = DimM.look s l := by
  induction l with
  | nil => rfl
  | cons p r ih =>
    unfold ren at ih ⊢
    rw [List.map_cons, DimM.look, DimM.look, ih]
    simp only [app_inj]
theorem app_full {s : ByteArray} (t : ByteArray) (h : s.data ≠ #[]) : (s ++ t).data ≠ #[] := by
  rw [ByteArray.data_append]
  intro e
  apply h
  have := congrArg Array.toList e
  simp at this
  exact this.1
theorem val_ren {s : ByteArray} (t : ByteArray) (n : Int) (l : Ps) (h : s.data ≠ #[]) : val (s ++ t) n (ren t l) = val s n l := by
  unfold val adds
  rw [if_neg h, if_neg (app_full t h), look_ren]
theorem wid_ren {s : ByteArray} (t : ByteArray) (n : Int) (l : Ps) (h : s.data ≠ #[]) : wid (s ++ t) n (ren t l) = wid s n l := by
  unfold wid; rw [val_ren t n l h]
theorem fine_ren {l : Ps} (t : ByteArray) (h : Fine l) : Fine (ren t l) := by
  intro p hp
  obtain ⟨q, hq, rfl⟩ := List.mem_map.1 hp
  exact h q hq
theorem ren_fst (t : ByteArray) (l : Ps) : (ren t l).map Prod.fst = l.map fun p => p.1 ++ t := by simp [ren]
theorem ren_snd (t : ByteArray) (l : Ps) : (ren t l).map Prod.snd = l.map Prod.snd := by simp [ren]
theorem ren_len (t : ByteArray) (l : Ps) : (ren t l).length = l.length := by simp [ren]
theorem app_size (s t : ByteArray) : (s ++ t).size = s.size + t.size := by simp

/-- what the walk keeps -/
def Nk (w0 : World) (s : ByteArray) (n : Int) (A1 A2 : Option Addr) (ps : Ps) (w : World) : Prop :=
  Sta w0 w ∧ EnvAt w A1 A2 ps ∧ w0.heap.size < w.heap.size ∧ w.cell? ⟨w0.heap.size, 0, none⟩ = some (.string s) ∧ w.cell? ⟨w0.heap.size, 1, none⟩ = some (.int .i64 n)
theorem Nk.step {w0 w w' : World} {s : ByteArray} {n : Int} {A1 A2 : Option Addr} {ps : Ps} (h : Nk w0 s n A1 A2 ps w) (hb : Below w.heap.size w w') : Nk w0 s n A1 A2 ps w' := by
  obtain ⟨h1, h2, h4, h5, h6⟩ := h
  have := hb.size
  exact ⟨h1.step hb, h2.below hb, by omega, (hb.cell (p := ⟨w0.heap.size, 0, none⟩) h4).trans h5, (hb.cell (p := ⟨w0.heap.size, 1, none⟩) h4).trans h6⟩

def NmRel (w2 : World) (t : ByteArray) (ps : Ps) (g : Nat) (v i : Value) (wr : World) : Prop :=
  ∃ k : Nat, k + g = ps.length ∧ i = .int .i64 k ∧ Hid (wr.ownsRow w2.heap.size 9 1 v k (scells ((ps.take k).map fun p => p.1 ++ t))) ∧ Hid (Below w2.heap.size w2 wr)

set_option maxRecDepth 100000 in
set_option maxHeartbeats 4000000 in
theorem names_walk (s : ByteArray) (n : Int) (A : Option Addr) (len c : Nat) (ps : Ps) (t : ByteArray) (w : World) (hs : s.size ≤ reachBytes) (hl : ps.length = len) (hm : len ≤ maxLen) (hP : Hid (Nmd w w.heap.size A ps)) (hF : Hid (Fine ps)) (hZ : Hid (∀ p ∈ ps, p.1.size ≤ reachBytes)) (ht : t.size ≤ maxLen) (hg : Hid (ErrTy w)) :
    Calls Tryd.prog 9 #[.agg #[.string s, .int .i64 n], .slice A len c, .string t] w fun e w' => e = .returned (.bool true) ∧ Below w.heap.size w w' := by
  subst hl
  unfold maxLen at hm ht
  unfold reachBytes at hs
  have hb0 : Below w.heap.size w (w.alloc (.cells #[.string s, .int .i64 n] 23)) := (Below.refl _ _).alloc (Nat.le_refl _) _
  have S0 := Lib.hid (Sta.step (Sta.refl hg.out) hb0)
  have P0 := Lib.hid ((hP.out.below hb0).more hb0.size)
  clear hb0
  by_cases hlen : 100 < ps.length
  · go_enter Tryd.func9, Tryd.ntmps9
    go_wp2_with fail
    refine (head_any _ (Lib.hid S0.out.2)).mono ?_
    rintro e w1 ⟨rfl, hb⟩
    have S1 := Lib.hid (S0.out.step hb)
    clear hb
    go_wp2
    go_ret
    exact ⟨rfl, S1.out.1⟩
  by_cases ht2 : 20 < t.size
  · go_enter Tryd.func9, Tryd.ntmps9
    go_wp2_with fail
    refine (head_any _ (Lib.hid S0.out.2)).mono ?_
    rintro e w1 ⟨rfl, hb⟩
    have S1 := Lib.hid (S0.out.step hb)
    clear hb
    go_wp2
    go_ret
    exact ⟨rfl, S1.out.1⟩
  by_cases hse : s.data = #[]
  · have hs1 := str_empty hse
    have hs2 : s.toList.isEmpty = true := by rw [hs1]; rfl
    have HS := Lib.hid hse
    clear hse hs1
    go_enter Tryd.func9, Tryd.ntmps9
    go_wp2_with fail
    refine (head_any _ (Lib.hid S0.out.2)).mono ?_
    rintro e w1 ⟨rfl, hb⟩
    have d0 : w1.cell? ⟨w.heap.size, 0, none⟩ = some (.string s) := by rw [hb.cell (p := ⟨w.heap.size, 0, none⟩) (by simp)]; simp
    have S1 := Lib.hid (S0.out.step hb)
    clear hb
    go_wp2
    go_ret
    exact ⟨rfl, S1.out.1⟩
  have hs2 := str_full hse
  have HV := Lib.hid (val_ren t n ps hse)
  have HW := Lib.hid (wid_ren t n ps hse)
  clear hse
  obtain ⟨i9, hi, hz0, hz1, hz2⟩ := info_parts info9
  have HI9 := Lib.hid (And.intro hi (And.intro hz0 (And.intro hz1 hz2)))
  clear hi hz0 hz1 hz2
  go_enter Tryd.func9, Tryd.ntmps9
  go_wp2_with fail
  refine (head_any _ (Lib.hid S0.out.2)).mono ?_
  rintro e w1 ⟨rfl, hb⟩
  have d0 : w1.cell? ⟨w.heap.size, 0, none⟩ = some (.string s) := by rw [hb.cell (p := ⟨w.heap.size, 0, none⟩) (by simp)]; simp
  have d1 : w1.cell? ⟨w.heap.size, 1, none⟩ = some (.int .i64 n) := by rw [hb.cell (p := ⟨w.heap.size, 1, none⟩) (by simp)]; simp
  have hs1 : w.heap.size < w1.heap.size := by have := hb.size; simp at this; omega
  have S1 := Lib.hid (S0.out.step hb)
  have P1 := Lib.hid ((P0.out.below hb).more hb.size)
  clear hb
  go_wp2_with fail
  refine (Env_any A c ps w1 (by omega) P1 hF).mono ?_
  rintro e w2 ⟨A1, c1, A2, c2, rfl, hE, hb⟩
  have hsz := hb.size
  have K2 : Hid (Nk w s n A1 A2 ps w2) := Lib.hid ⟨S1.out.step hb, hE, by omega, (hb.cell (p := ⟨w.heap.size, 0, none⟩) hs1).trans d0, (hb.cell (p := ⟨w.heap.size, 1, none⟩) hs1).trans d1⟩
  clear hb hE d0 d1 hsz
  go_wp2_with fail
  go_loopg [10, 11] ps.length (fun g v i wr => NmRel w2 t ps g v i wr)
  case atStart => exact ⟨0, by omega, rfl, Lib.hid (World.ownsRow_nil _ _ _ _), Lib.hid (Below.refl _ _)⟩
  case round =>
    obtain ⟨k, hkg, rfl, HO, HB⟩ := hrel
    have HK := Lib.hid hkg
    have hkl : k ≤ ps.length := by omega
    clear hkg
    have KR := Lib.hid (K2.out.step HB.out)
    have hbs := HB.out.size
    by_cases hlt : k < ps.length
    · have hsome : ps[k]? = some ps[k] := List.getElem?_eq_getElem hlt
      have HS := Lib.hid hsome
      have hpz : ps[k].1.size ≤ 0x7ffffffff000 := hZ.out _ (List.mem_of_getElem? hsome)
      obtain ⟨b, off, rfl, hbl, c0⟩ := KR.out.2.1.2.2.1 k ps[k].1 (by rw [List.getElem?_map, hsome]; rfl)
      clear hsome
      generalize ps[k] = d at HS c0 hpz
      obtain ⟨u, m⟩ := d
      simp only at c0 hpz
      have hi1 : (k : Int) < (ps.length : Int) := by omega
      have hi0 : (0 : Int) ≤ (k : Int) := by omega
      have hsum : u.size + t.size ≤ 9223372036854775807 := by omega
      go_wp2_with (at_builtin; refine wpList_append_own _ rfl _ _ 27 rfl w2.heap.size 9 i9 (.string ⟨#[]⟩) 1 16 Tryd.underlying27 HI9.out.1 HI9.out.2.1 HI9.out.2.2.1 HI9.out.2.2.2 rfl (by decide) _ _ _ rfl (HO.out.alloc _) ⟨wr.heap.size, 0, none⟩ 1 1 [.string (u ++ t)] rfl rfl (int_new _ _ _) (fun x hx => by simp at hx; subst hx; rfl) (by unfold maxLen; omega) (by omega) (by simp; omega) ?_; intro v' w3 hown' hgrow3 hnil3; have HO3 := Lib.hid hown'; have HB3 := Lib.hid (app_row HO.out HB.out hgrow3); clear hown' hgrow3 hnil3)
      go_roundg (gk - 1)
      case measure => have := HK.out; omega
      case rel => exact ⟨k + 1, by have := HK.out; omega, by go_num, Lib.hid (by rw [take_map_snoc _ HS.out, scells_snoc]; exact HO3.out), HB3⟩
    · have hk : k = ps.length := by omega
      subst hk
      have htk : ps.take ps.length = ps := List.take_of_length_le (by omega)
      have ho := HO.out
      rw [htk] at ho
      obtain ⟨A3, c3, rfl, h3⟩ := strs_of_own ho (by simp)
      have hE3 : EnvAt wr A3 A2 (ren t ps) := ⟨by rw [ren_len]; omega, fine_ren t hF.out, by rw [ren_fst]; exact h3, by rw [ren_snd]; exact KR.out.2.1.2.2.2⟩
      have E3 := Lib.hid hE3
      clear htk ho h3 hE3 hbs
      obtain ⟨_, _, _, d0, d1⟩ := KR.out
      have hsum : s.size + t.size ≤ 9223372036854775807 := by omega
      rcases hv : val s n ps with ⟨x, ev⟩
      rcases hw : wid s n ps with ⟨y, ew⟩
      have HV1 := Lib.hid hv
      have HV2 := Lib.hid (HV.out.trans hv)
      have HW1 := Lib.hid hw
      have HW2 := Lib.hid (HW.out.trans hw)
      clear hv hw
      have hx : (x == x) = true := by simp
      have hy : (y == y) = true := by simp
      have hev : (ev == ev) = true := by simp
      have hew : (ew == ew) = true := by simp
      have HRL := Lib.hid (ren_len t ps)
      go_wp2_with fail
      refine (Value_is KR.out.2.1 KR.out.1.2 rfl HV1.out).mono ?_
      rintro e w4 ⟨rfl, hb⟩
      have K4 := Lib.hid (KR.out.step hb)
      have E4 := Lib.hid (E3.out.below hb)
      clear hb d0 d1
      obtain ⟨_, _, _, d0, d1⟩ := K4.out
      go_wp2_with fail
      refine (Value_is E4.out K4.out.1.2 HRL.out HV2.out).mono ?_
      rintro e w5 ⟨rfl, hb⟩
      have K5 := Lib.hid (K4.out.step hb)
      have E5 := Lib.hid (E4.out.below hb)
      clear hb d0 d1
      obtain ⟨_, _, _, d0, d1⟩ := K5.out
      go_wp2_with fail
      refine (Width_is K5.out.2.1 K5.out.1.2 rfl HW1.out).mono ?_
      rintro e w6 ⟨rfl, hb⟩
      have K6 := Lib.hid (K5.out.step hb)
      have E6 := Lib.hid (E5.out.below hb)
      clear hb d0 d1
      obtain ⟨_, _, _, d0, d1⟩ := K6.out
      go_wp2_with fail
      refine (Width_is E6.out K6.out.1.2 HRL.out HW2.out).mono ?_
      rintro e w7 ⟨rfl, hb⟩
      have K7 := Lib.hid (K6.out.step hb)
      clear hb d0 d1
      go_wp2
      go_ret
      exact ⟨rfl, K7.out.1.1⟩
end Go.Proofs.YtkbfediolicfaaaDoor
