/-
  SynLexes, WALKED: true of every text, every place and every byte.
-/
import Derived.Test.YtccjbpghpoblhaaDoorK32
import Derived.Test.YtccjbpghpoblhaaDoorK34
import Derived.Laws.IdiomStrings
import Derived.IntWalk
/-
  MODULES' NAMES are names that stand in the text, and no kept words. Plain mathematics.
-/
namespace Go.Proofs.YtccjbpghpoblhaaDoor

/-- a token of the name l -/
def NameIn (T : List LexM.Tk) (l : List UInt8) : Prop := (∃ t ∈ T, t.kind = 1 ∧ t.text = l) ∧ isWord l = false

theorem pName_in {T : List LexM.Tk} {n m : Nat} {l : List UInt8} (h : pName T n = .ok (l, m)) : NameIn T l := by
  unfold pName at h
  split at h
  · rename_i hc
    simp only [Bool.and_eq_true, Bool.not_eq_true'] at hc
    obtain ⟨rfl, _⟩ := ok_inv h
    have hk := hc.1
    unfold kindIs at hk
    rcases hT : T[n]? with _ | t
    · rw [hT] at hk; simp at hk
    · rw [hT] at hk
      refine ⟨⟨t, List.mem_of_getElem? hT, by simpa using hk, by rw [tokAt_some hT]⟩, hc.2⟩
  · cases h
theorem pMore_name {T : List LexM.Tk} {q : Mh → Nat → PR Mh} (hq : ∀ s n s' n', q s n = .ok (s', n') → s'.name = s.name) : ∀ (f : Nat) (s : Mh) (n : Nat) (s' : Mh) (n' : Nat), pMore T q f s n = .ok (s', n') → s'.name = s.name
  | 0, s, n, s', n', h => by
    rw [pMore] at h
    split at h
    · cases h
    · rw [(ok_inv h).1]
  | f + 1, s, n, s', n', h => by
    rw [pMore] at h
    split at h
    · obtain ⟨s1, n1, h1, h⟩ := thn_inv h
      rw [pMore_name hq f _ _ _ _ h, hq _ _ _ _ h1]
    · rw [(ok_inv h).1]
theorem pList_name {T : List LexM.Tk} {q : Mh → Nat → PR Mh} (hq : ∀ s n s' n', q s n = .ok (s', n') → s'.name = s.name) {most : Nat} {s s' : Mh} {n n' : Nat} (h : pList T q most s n = .ok (s', n')) : s'.name = s.name := by
  unfold pList at h
  obtain ⟨s1, n1, h1, h⟩ := thn_inv h
  rw [pMore_name hq _ _ _ _ _ h, hq _ _ _ _ h1]
theorem qParam_name {T : List LexM.Tk} (s : Mh) (n : Nat) (s' : Mh) (n' : Nat) (h : qParam T s n = .ok (s', n')) : s'.name = s.name := by
  unfold qParam at h
  obtain ⟨_, _, _, h⟩ := thn_inv h
  rw [← (ok_inv h).1]
theorem qPort_name {T : List LexM.Tk} (s : Mh) (n : Nat) (s' : Mh) (n' : Nat) (h : qPort T s n = .ok (s', n')) : s'.name = s.name := by
  unfold qPort at h
  obtain ⟨_, _, _, h⟩ := thn_inv h
  rw [← (ok_inv h).1]
theorem pHead_name {T : List LexM.Tk} {n k : Nat} {m : Mh} (h : pHead T n = .ok (m, k)) : NameIn T m.name := by
  unfold pHead at h
  obtain ⟨l, n1, h1, h⟩ := thn_inv h
  obtain ⟨m1, n4, h4, h⟩ := thn_inv h
  obtain ⟨_, n5, _, h⟩ := thn_inv h
  obtain ⟨m2, n6, h6, h⟩ := thn_inv h
  obtain ⟨_, n7, _, h⟩ := thn_inv h
  obtain ⟨_, n8, _, h⟩ := thn_inv h
  have e0 := (ok_inv h).1
  have e1 : m1.name = l := by
    split at h4
    · obtain ⟨m3, _, h5, h4⟩ := thn_inv h4
      obtain ⟨_, _, _, h4⟩ := thn_inv h4
      rw [← (ok_inv h4).1, pList_name qParam_name h5]
    · rw [← (ok_inv h4).1]
  have e2 : m2.name = m1.name := by
    split at h6
    · rw [(ok_inv h6).1]
    · exact pList_name qPort_name h6
  rw [← e0, e2, e1]
  exact pName_in h1
theorem pModule_name {T : List LexM.Tk} {mo n k mo' : Nat} {fs fs' : Fs} {m : Mo} (h : pModule T mo fs n = (.ok (m, k), fs', mo')) : NameIn T m.name := by
  unfold pModule at h
  split at h
  · split at h
    · cases h
    · rcases hh : pHead T (n + 1) with x | ⟨m1, n1⟩
      · rw [hh] at h; cases h
      · rw [hh] at h
        simp only [] at h
        rcases hb : pBody T (T.length + 1) 0 [] fs n1 with ⟨x | ⟨is, n2⟩, fs2⟩
        · rw [hb] at h; cases h
        · rw [hb] at h
          simp only [Prod.mk.injEq] at h
          have := (ok_inv h.1).1
          rw [← this]
          exact pHead_name hh
  · cases h
theorem pDesign_names (T : List LexM.Tk) : ∀ (f mo : Nat) (ms : List Mo) (fs : Fs) (n : Nat), (∀ m ∈ ms, NameIn T m.name) → ∀ m ∈ (pDesign T f mo ms fs n).1, NameIn T m.name
  | 0, mo, ms, fs, n, h => h
  | f + 1, mo, ms, fs, n, h => by
    rw [pDesign]
    split
    · rcases hm : pModule T mo fs n with ⟨x | ⟨m, n1⟩, fs1, mo1⟩
      · simp only []
        split
        · exact h
        · exact pDesign_names T f _ _ _ _ h
      · simp only []
        refine pDesign_names T f _ _ _ _ fun m' hm' => ?_
        rcases List.mem_append.1 hm' with hm' | hm'
        · exact h m' hm'
        · obtain rfl := List.mem_singleton.1 hm'
          exact pModule_name hm
    · exact h

/-- a module's name, lexed alone, is one token, a name that begins with a letter -/
theorem parse_names {l : List UInt8} (hl : l.length ≤ 20000) {m : Mo} (hm : m ∈ (parseOut l).1) :
    isWord m.name = false ∧ m.name.length ≤ 20000 ∧ ∃ (c : UInt8) (r : List UInt8) (p : Nat), m.name = c :: r ∧ LexM.isLt c = true ∧ lexOut m.name = ([⟨1, m.name, 0, p⟩], 0, 0) := by
  unfold parseOut at hm
  split at hm
  · simp at hm
  · have h1 := pDesign_names (lexOut l).1 _ 0 [] [] 0 (by simp) m hm
    obtain ⟨⟨t, ht, hk, htx⟩, hw⟩ := h1
    have hb := lexOut_bounds hl
    have hown : LexM.Own t := by
      unfold lexOut at ht
      rw [if_neg (by omega)] at ht
      rcases hx : LexM.lex l 0 with ⟨ts, _ | k⟩
      · rw [hx] at ht
        have := LexM.lex_own l.length l 0 (Nat.le_refl _) t
        rw [hx] at this
        exact this ht
      · rw [hx] at ht; simp at ht
    have htl := hb.2.1 t ht
    rw [htx] at htl
    obtain ⟨c, r, hc, h1, h2, h3, h4⟩ := LexM.own_kind hown
    obtain ⟨us, e1, e2, e3⟩ := LexM.lex_back [t] 0 (by simpa using hown)
    obtain ⟨p, hp⟩ := e3 0 t rfl
    have hus : us = [⟨t.kind, t.text, t.n, p⟩] := by
      match us, e2, hp with
      | [u], _, hp => simpa using hp
    have hn : t.n = 0 := h3 (by omega)
    have hj : LexM.joinSp ([t].map (·.text)) = m.name := by simp [LexM.joinSp, htx]
    rw [hj, hus, hk, htx, hn] at e1
    refine ⟨hw, htl, c, r, p, by rw [← htx, hc], by rw [← h1]; simp [hk], ?_⟩
    unfold lexOut
    rw [if_neg (by omega), e1]
end Go.Proofs.YtccjbpghpoblhaaDoor

namespace Go.Proofs.YtccjbpghpoblhaaDoor
open Go.RowKit

set_option maxHeartbeats 400000 in
theorem refLetter_any (c : UInt8) (w : World) : Calls Tryd.prog 20 #[.int .u8 (c.toNat : Int)] w fun e w' => e = .returned (.bool (LexM.isLt c)) ∧ w = w' := by
  have H := Lib.hid (isLt_eq c)
  generalize LexM.isLt c = b at *
  generalize (c.toNat : Int) = x at *
  go_enter Tryd.func20, Tryd.ntmps20
  go_wp2
  all_goals go_ret
  all_goals (refine ⟨ret_bool ?_, rfl⟩; first | (rw [H.out]; done) | (rw [H.out, Bool.eq_iff_iff]; simp <;> omega))
theorem refLetter_yes {c : UInt8} (h : LexM.isLt c = true) (w : World) : Calls Tryd.prog 20 #[.int .u8 (c.toNat : Int)] w fun e w' => e = .returned (.bool true) ∧ w' = w :=
  (refLetter_any c w).mono fun _ _ ⟨he, hw⟩ => ⟨by rw [he, h], hw.symm⟩

/-- a module's name in memory -/
theorem mod_name {w : World} {F : Nat → Prop} {ms : List Mo} {A : Option Addr} {n c : Nat} (h : ModsAt w F ms (.slice A n c)) {j : Nat} {m : Mo} (hm : ms[j]? = some m) : ∃ g, A = some ⟨g, 0, none⟩ ∧ g < w.heap.size ∧ w.cell? ⟨g, j * 4, none⟩ = some (.string (str m.name)) := by
  obtain ⟨css, hr, hl, hq⟩ := h
  obtain ⟨cs, hcs, hm'⟩ := hq j m hm
  have l4 : ∀ c ∈ css, c.length = 4 := css_len hl hq (fun k c hk => by obtain ⟨_, _, _, rfl, _⟩ := hk; rfl)
  obtain ⟨g, cap, hv, _, hgl, hrg⟩ := row_range hr hl l4 hcs
  obtain ⟨pv, qv, iv, rfl, h1, h2, h3⟩ := hm'
  injection hv with hv _ _
  have r := hrg 0 _ rfl
  rw [Nat.add_zero] at r
  exact ⟨g, hv, hgl, r⟩
theorem mods_len {w : World} {F : Nat → Prop} {ms : List Mo} {v : Value} (h : ModsAt w F ms v) : ms.length ≤ maxLen := by
  obtain ⟨css, hr, _, _⟩ := h
  rcases hr.1.2 with ⟨_, h1⟩ | ⟨g, cap, cur, hv, hb, hh, h2, h3, _⟩
  · rw [h1]; exact Nat.zero_le _
  · omega
/-- the one token of a name -/
theorem tok_one {w : World} {base c : Nat} {A : Option Addr} {t : LexM.Tk} (h : w.ownsRow base 37 4 (.slice A 1 c) 1 (rowOf [t])) : ∃ g, A = some ⟨g, 0, none⟩ ∧ w.cell? ⟨g, 0, none⟩ = some (.int .i64 (t.kind : Nat)) ∧ w.cell? ⟨g, 1, none⟩ = some (.string (str t.text)) := by
  obtain ⟨g, cap, hv, _, hgl, c0⟩ := row_cell (f := tkCells) (l := [t]) (fun a => rfl) h (i := 0) (j := 0) rfl (by omega)
  obtain ⟨g1, cap1, hv1, _, hgl1, c1⟩ := row_cell (f := tkCells) (l := [t]) (fun a => rfl) h (i := 0) (j := 1) rfl (by omega)
  have : g = g1 := by rw [hv] at hv1; simp at hv1; exact hv1.1
  subst this
  injection hv with hv _ _
  exact ⟨g, hv, c0, c1⟩

set_option maxRecDepth 100000 in
set_option maxHeartbeats 4000000 in
theorem lexes_walk (s : ByteArray) (n c : Int) (w : World) (hs : s.size ≤ maxLen) (hn : -9223372036854775808 ≤ n ∧ n ≤ 9223372036854775807) (hc : 0 ≤ c ∧ c ≤ 255) (hsg : Hid (SgLaid w)) (hop : Hid (OpLaid w)) :
    Calls Tryd.prog 8 #[.string s, .int .i64 n, .int .u8 c] w fun e w' => e = .returned (.bool true) ∧ Below w.heap.size w w' := by
  have S0 : Hid (Stg w w) := Lib.hid ⟨Below.refl _ _, hsg.out, hop.out⟩
  obtain ⟨t, ht⟩ : ∃ t, t = str (s.data.toList.take 3000) := ⟨_, rfl⟩
  have hts : t.size ≤ 3000 := by rw [ht]; exact few_size s
  have FW := few_any s
  rw [← ht] at FW
  clear ht
  have HFW := Lib.hid (fun u => FW u hs)
  clear FW
  go_enter Tryd.func8, Tryd.ntmps8
  go_wp2_with fail
  refine (head_any w hsg hop).mono ?_
  rintro e w1 ⟨rfl, hb⟩
  have S1 := Lib.hid (S0.out.step hb)
  clear hb
  go_wp2_with fail
  refine (HFW.out w1).mono ?_
  rintro e w1' ⟨rfl, rfl⟩
  by_cases h0 : n < 0
  · go_wp2
    go_ret
    exact ⟨rfl, S1.out.1⟩
  · by_cases h1 : (t.size : Int) < n
    · go_wp2
      go_ret
      exact ⟨rfl, S1.out.1⟩
    · obtain ⟨k, rfl⟩ : ∃ k : Nat, n = k := ⟨n.toNat, by omega⟩
      have hk : k ≤ t.size := by omega
      obtain ⟨b, rfl⟩ : ∃ b : UInt8, c = (b.toNat : Int) := ⟨UInt8.ofNat c.toNat, by simp; omega⟩
      go_wp2_with fail
      have hcv : (convert 60 9 (.slice (some ⟨w1.heap.size, 0, none⟩) 1 1)).run Tryd.prog (w1.alloc (.cells #[.int .u8 (b.toNat : Int)] 5)).drew = .ok (.string ⟨#[b]⟩) (w1.alloc (.cells #[.int .u8 (b.toNat : Int)] 5)).drew :=
        run_convert_bytes_back _ 60 9 5 ⟨w1.heap.size, 0, none⟩ 1 [b] Tryd.underlying60 Tryd.underlying5 Tryd.underlying9 (fun j hj => by
          obtain rfl : j = 0 := by simpa using hj
          show ((w1.alloc (.cells #[.int .u8 (b.toNat : Int)] 5)).drew).cell? ⟨w1.heap.size, 0, none⟩ = _
          simp [go_sem])
      go_region
      have hbX : Below w1.heap.size w1 (w1.alloc (.cells #[.int .u8 (b.toNat : Int)] 5)).drew := bel_of ((Gr.alloc _ _).trans (Gr.drew _))
      have S2 := Lib.hid (S1.out.step hbX)
      clear hbX hcv
      generalize (w1.alloc (.cells #[.int .u8 (b.toNat : Int)] 5)).drew = X at S2 ⊢
      have hul : (t.extract 0 k ++ ⟨#[b]⟩ ++ t.extract k t.size).size ≤ 3001 := by
        rw [ByteArray.size_append, ByteArray.size_append, ByteArray.size_extract, ByteArray.size_extract]
        have : (⟨#[b]⟩ : ByteArray).size = 1 := rfl
        omega
      generalize (t.extract 0 k ++ ⟨#[b]⟩ ++ t.extract k t.size) = u at hul ⊢
      rcases hL : lexOut u.data.toList with ⟨ts, en, ei⟩
      rcases hO : parseOut u.data.toList with ⟨ms, fs⟩
      have HL := Lib.hid hL
      have HO := Lib.hid hO
      clear hL hO
      have LX := Lex_any u X (by omega) (Lib.hid S2.out.2.1)
      rw [HL.out] at LX
      have HLX := Lib.hid LX
      clear LX
      go_wp2_with fail
      refine HLX.out.mono ?_
      rintro e w3 ⟨v, rfl, hown, hb⟩
      obtain ⟨A3, c3, rfl⟩ := own_form hown
      have S3 := Lib.hid (S2.out.step hb)
      clear hb hown
      go_wp2_with fail
      refine (Parse_is (by omega) S3.out.2.1 S3.out.2.2 HO.out).mono ?_
      rintro e w4 ⟨hb, mv, fv, rfl, hm, hf⟩
      obtain ⟨A4, c4, rfl⟩ := mods_form hm
      obtain ⟨B4, d4, rfl⟩ := row_form hf
      have hb' : Below w4.heap.size w4 (w4.alloc (.cells #[.slice A4 ms.length c4] 26)) := (Below.refl _ _).alloc (Nat.le_refl _) _
      have S4 := Lib.hid ((S3.out.step hb).step hb')
      have F4 := Lib.hid (hf.gr (gr_of hb'))
      have M4 := Lib.hid (hm.keep (fun _ h => h) (fun _ _ _ ho => (gr_of hb').keep ho))
      clear hb hm hf hb'
      by_cases he : en = 0
      · have hd : ((en : Int) != 0) = false := by simp; omega
        have HN := Lib.hid (show ∀ m ∈ ms, isWord m.name = false ∧ m.name.length ≤ 20000 ∧ ∃ (c : UInt8) (r : List UInt8) (p : Nat), m.name = c :: r ∧ LexM.isLt c = true ∧ lexOut m.name = ([⟨1, m.name, 0, p⟩], 0, 0) from fun m hm => parse_names (l := u.data.toList) (by rw [← Lib.size_eq]; omega) (by rw [HO.out]; exact hm))
        have CB := Lib.hid (new_at w4 (.cells #[.slice A4 ms.length c4] 26))
        have hml : ms.length ≤ maxLen := mods_len M4.out
        have HML := Lib.hid hml
        unfold maxLen at hml
        go_wp2_with fail
        go_loopg [15] ms.length (fun g i wr => ∃ j : Nat, j + g = ms.length ∧ i = .int .i64 (j : Nat) ∧ Hid (Gr (w4.alloc (.cells #[.slice A4 ms.length c4] 26)) wr))
        case atStart => exact ⟨0, by omega, rfl, Lib.hid (Gr.refl _)⟩
        case round =>
          obtain ⟨j, hj, rfl, GR⟩ := hrel
          have HJ := Lib.hid hj
          have hjl : j ≤ ms.length := by omega
          clear hj
          have cb : wr.cell? ⟨w4.heap.size, 0, none⟩ = some (.slice A4 ms.length c4) := by rw [cell_at (GR.out.keep CB.out)]; rfl
          have hml : ms.length ≤ maxLen := HML.out
          unfold maxLen at hml
          by_cases hlt : j < ms.length
          · obtain ⟨m, hm⟩ : ∃ m, ms[j]? = some m := ⟨_, List.getElem?_eq_getElem hlt⟩
            obtain ⟨g, rfl, hgl, hnm⟩ := mod_name M4.out hm
            have hgl2 : g < wr.heap.size := by have := GR.out.size; omega
            have cn := (World.cell?_of_block (a := ⟨g, j * 4, none⟩) (GR.out.block g hgl (by simp))).trans hnm
            obtain ⟨hw, hl2, c, r, p, hcr, hlt', hlx⟩ := HN.out m (List.mem_of_getElem? hm)
            have LX := Lex_any (str m.name) wr (by rw [str_size]; exact hl2) (Lib.hid (S4.out.step (bel_of GR.out)).2.1)
            rw [str_data, hlx] at LX
            have HLX := Lib.hid LX
            have WD := Lib.hid (fun u => Word_b (l := m.name) u hw)
            have hsz : 0 < (str m.name).size := by rw [str_size, hcr]; simp
            have LT := Lib.hid (fun u => refLetter_yes (c := (str m.name)[0]'hsz) (by
              have h3 : (str m.name).data[0]? = some c := by rw [← Array.getElem?_toList, str_data, hcr]; rfl
              have h4 : (str m.name)[0]'hsz = c := (Array.getElem?_eq_some_iff.1 h3).2
              rw [h4]
              exact hlt') u)
            have HCR := Lib.hid hcr
            have hbox := heap_lt (GR.out.keep CB.out)
            clear LX hnm hm hw hl2 hlx hlt' hcr
            go_wp2_with fail
            refine HLX.out.mono ?_
            rintro e w6 ⟨v, rfl, hown, hb⟩
            obtain ⟨A6, c6, rfl⟩ := own_form hown
            obtain ⟨g6, rfl, k0, k1⟩ := tok_one hown
            have cb6 := (World.cell?_of_block (a := ⟨w4.heap.size, 0, none⟩) (hb.block _ hbox)).trans cb
            have cn6 := (World.cell?_of_block (a := ⟨g, j * 4, none⟩) (hb.block g hgl2)).trans cn
            have HB6 := Lib.hid hb
            clear hown hb cb cn
            go_wp2_with (first | (go_at_call 19; refine (WD.out _).mono ?_; rintro e w7 ⟨rfl, rfl⟩) | (go_at_call 20; refine (LT.out _).mono ?_; rintro e w8 ⟨rfl, rfl⟩))
            go_roundg (ms.length - (j + 1))
            case measure => have := HJ.out; omega
            case rel => exact ⟨j + 1, by omega, by go_num, Lib.hid (GR.out.trans (gr_of HB6.out))⟩
          · go_wp2_with fail
            go_ret
            exact ⟨rfl, S4.out.1.trans ((bel_of GR.out).mono S4.out.1.size)⟩
      · have hd : ((en : Int) != 0) = true := by simp; omega
        have hfs : ms = [] ∧ fs = [(en, ei)] := by
          have h1 := parse_lexerr (l := u.data.toList) (by rw [HL.out]; exact he)
          rw [HO.out, HL.out] at h1
          simpa using h1
        obtain ⟨rfl, rfl⟩ := hfs
        have SF := Lib.hid (show Calls Tryd.prog 16 #[.slice B4 1 d4, .slice (some ⟨w4.heap.size + 1, 0, none⟩) 1 1] ((w4.alloc (.cells #[.slice A4 0 c4] 26)).alloc (.cells #[.int .i64 (en : Nat), .int .i64 (ei : Nat), .int .i64 0, .int .i64 0] 35)) (fun e w' => e = .returned (.bool true) ∧ Gr (w4.alloc (.cells #[.slice A4 0 c4] 26)) w') from
          (SameFaults_yes [(en, ei)] _ _ _ _ _ (Lib.hid (F4.out.gr (Gr.alloc _ _))) (Lib.hid (oneFault_at (new_of (by simp) _)))).mono fun e w' h => ⟨h.1, (Gr.alloc _ _).trans h.2⟩)
        have cbx : (w4.alloc (.cells #[.slice A4 0 c4] 26)).cell? ⟨w4.heap.size, 0, none⟩ = some (.slice A4 0 c4) := by rw [cell_at (new_at w4 _)]; rfl
        go_wp2_with (first | (go_at_call 16; (with_reducible refine SF.out.mono ?_); rintro e w6 ⟨rfl, hw6⟩))
        go_ret
        exact ⟨rfl, S4.out.1.trans ((bel_of hw6).mono S4.out.1.size)⟩
end Go.Proofs.YtccjbpghpoblhaaDoor

