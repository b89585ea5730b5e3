/-
  Rows of one's own, for SynSpares: an append of a part of a row; how many items there are; a module without one of its items.
-/
import Derived.Test.YtccjbpghpoblhaaDoorK34
import Derived.Laws.AppendOwnNone
/-
  Same, WALKED where both designs are one.
-/
namespace Go.Proofs.YtccjbpghpoblhaaDoor
open Go.RowKit

abbrev Mo4o (w : World) (g o : Nat) (a b c d : Value) : Prop := w.cell? ⟨g, o, none⟩ = some a ∧ w.cell? ⟨g, o + 1, none⟩ = some b ∧ w.cell? ⟨g, o + 2, none⟩ = some c ∧ w.cell? ⟨g, o + 3, none⟩ = some d
/-- a module of a row, in memory -/
theorem mod_cells {w : World} {F : Nat → Prop} {ms : List Mo} {A : Option Addr} {n c : Nat} (h : ModsAt w F ms (.slice A n c)) {j : Nat} {m : Mo} (hm : ms[j]? = some m) : ∃ g pv qv iv, A = some ⟨g, 0, none⟩ ∧ g < w.heap.size ∧ Mo4o w g (j * 4) (.string (str m.name)) pv qv iv ∧ MoAt w F m [.string (str m.name), pv, qv, iv] := by
  obtain ⟨css, hr, hl, hq⟩ := h
  obtain ⟨cs, hcs, hm'⟩ := hq j m hm
  have l4 : ∀ c ∈ css, c.length = 4 := css_len hl hq (fun k c hk => by obtain ⟨_, _, _, rfl, _⟩ := hk; rfl)
  obtain ⟨g, cap, hv, _, hgl, hrg⟩ := row_range hr hl l4 hcs
  obtain ⟨pv, qv, iv, rfl, h1, h2, h3⟩ := hm'
  injection hv with hv _ _
  exact ⟨g, pv, qv, iv, hv, hgl, ⟨hrg 0 _ rfl, hrg 1 _ rfl, hrg 2 _ rfl, hrg 3 _ rfl⟩, ⟨pv, qv, iv, rfl, h1, h2, h3⟩⟩
theorem mo4o_gr {w w' : World} {g o : Nat} {a b c d : Value} (h : Mo4o w g o a b c d) (hl : g < w.heap.size) (hg : Gr w w') : Mo4o w' g o a b c d := by
  have q : ∀ o, w'.cell? ⟨g, o, none⟩ = w.cell? ⟨g, o, none⟩ := fun o => World.cell?_of_block (a := ⟨g, o, none⟩) (hg.block g hl (by simp))
  exact ⟨(q _).trans h.1, (q _).trans h.2.1, (q _).trans h.2.2.1, (q _).trans h.2.2.2⟩
theorem mods_len {w : World} {F : Nat → Prop} {ms : List Mo} {v : Value} (h : ModsAt w F ms v) : ms.length ≤ maxLen := by
  obtain ⟨css, hr, _, _⟩ := h
  rcases hr.1.2 with ⟨_, h1⟩ | ⟨g, cap, cur, hv, hb, hh, h2, h3, _⟩
  · rw [h1]; exact Nat.zero_le _
  · omega

set_option maxRecDepth 100000 in
set_option maxHeartbeats 4000000 in
theorem Same_yes (ms : List Mo) (A A' : Option Addr) (n c c' : Nat) (F F' : Nat → Prop) (w : World) (hn : ms.length = n) (h : Hid (ModsAt w F ms (.slice A n c))) (h' : Hid (ModsAt w F' ms (.slice A' n c'))) :
    Calls Tryd.prog 14 #[.agg #[.slice A n c], .agg #[.slice A' n c']] w fun e w' => e = .returned (.bool true) ∧ Gr w w' := by
  have hml := mods_len h.out
  unfold maxLen at hml
  subst hn
  go_enter Tryd.func14, Tryd.ntmps14
  go_upto_region 1 with fail
  obtain ⟨W, eW, GW, CA, CB⟩ : ∃ W, (w.alloc (.cells #[.slice A ms.length c] 26)).alloc (.cells #[.slice A' ms.length c'] 26) = W ∧ Hid (Gr w W) ∧ Hid (W.heap[w.heap.size]? = some (.cells #[.slice A ms.length c] 26 (0, 0))) ∧ Hid (W.heap[w.heap.size + 1]? = some (.cells #[.slice A' ms.length c'] 26 (0, 0))) := by
    refine ⟨_, rfl, Lib.hid ((Gr.alloc _ _).trans (Gr.alloc _ _)), Lib.hid ((Below.heap_alloc _ _ _ (by simp)).trans (new_at w _)), Lib.hid ?_⟩
    have := new_at (w.alloc (.cells #[.slice A ms.length c] 26)) (.cells #[.slice A' ms.length c'] 26)
    simpa using this
  rw [eW]
  clear eW
  have AT := Lib.hid (show ∀ (u : World), Gr W u → (u.cell? ⟨w.heap.size, 0, none⟩ = some (.slice A ms.length c) ∧ u.cell? ⟨w.heap.size + 1, 0, none⟩ = some (.slice A' ms.length c')) from fun u hu => by
    have a := hu.keep CA.out
    have b := hu.keep CB.out
    exact ⟨by rw [cell_at a]; rfl, by rw [cell_at b]; rfl⟩)
  obtain ⟨k0, q0⟩ := AT.out W (Gr.refl _)
  go_wp2_with fail
  clear k0 q0
  go_loopg [5] ms.length (fun g x wr => ∃ j : Nat, j + g = ms.length ∧ x = .int .i64 (j : Nat) ∧ Hid (Gr W wr))
  case atStart => exact ⟨0, by omega, rfl, Lib.hid (Gr.refl _)⟩
  case round =>
    obtain ⟨j, hj, rfl, GR⟩ := hrel
    have HJ := Lib.hid hj
    clear hj
    obtain ⟨k0, q0⟩ := AT.out wr GR.out
    by_cases hlt : j < ms.length
    · have hd1 : ((j : Int) < (ms.length : Int)) := by omega
      have hd0 : (0 : Int) ≤ (j : Int) := by omega
      obtain ⟨m, hm⟩ : ∃ m, ms[j]? = some m := ⟨_, List.getElem?_eq_getElem hlt⟩
      obtain ⟨g, pv, qv, iv, rfl, hgl, c4, mat⟩ := mod_cells h.out hm
      obtain ⟨g', pv', qv', iv', rfl, hgl', c4', mat'⟩ := mod_cells h'.out hm
      have GG := GW.out.trans GR.out
      have KEEP := Lib.hid (show ∀ u, Gr wr u → (u.cell? ⟨w.heap.size, 0, none⟩ = some (.slice (some ⟨g, 0, none⟩) ms.length c) ∧ u.cell? ⟨w.heap.size + 1, 0, none⟩ = some (.slice (some ⟨g', 0, none⟩) ms.length c') ∧ Mo4o u g (j * 4) (.string (str m.name)) pv qv iv ∧ Mo4o u g' (j * 4) (.string (str m.name)) pv' qv' iv') from fun u hu => ⟨(AT.out u (GR.out.trans hu)).1, (AT.out u (GR.out.trans hu)).2, mo4o_gr c4 hgl (GG.trans hu), mo4o_gr c4' hgl' (GG.trans hu)⟩)
      have SM := Lib.hid (show ∀ u : World, Gr wr u → Calls Tryd.prog 17 #[.agg #[.string (str m.name), pv, qv, iv], .agg #[.string (str m.name), pv', qv', iv']] u (fun e w' => e = .returned (.bool true) ∧ Gr u w') from fun u hu => SameModule_yes m _ _ _ _ u (Lib.hid (mat.gr (GG.trans hu))) (Lib.hid (mat'.gr (GG.trans hu))))
      clear c4 c4' mat mat' GG hm hgl hgl'
      go_wp2_with fail
      clear k0 q0
      go_region_held3 (fun u => u.cell? ⟨w.heap.size, 0, none⟩ = some (.slice (some ⟨g, 0, none⟩) ms.length c) ∧ u.cell? ⟨w.heap.size + 1, 0, none⟩ = some (.slice (some ⟨g', 0, none⟩) ms.length c') ∧ Mo4o u g (j * 4) (.string (str m.name)) pv qv iv ∧ Mo4o u g' (j * 4) (.string (str m.name)) pv' qv' iv')
        (first | exact KEEP.out _ (Gr.drew _) | exact KEEP.out _ (by assumption))
        (first
          | (go_at_call 17; (with_reducible refine (SM.out _ (Gr.drew _)).mono ?_); rintro e u1 ⟨rfl, hu1'⟩; have hu1 : Gr wr u1 := (Gr.drew _).trans hu1'))
      go_wp2_with fail
      go_roundg (gk - 1)
      case measure => have := HJ.out; omega
      case rel => exact ⟨j + 1, by have := HJ.out; omega, by go_num, Lib.hid (GR.out.trans hu1)⟩
    · have hd1 : ¬ ((j : Int) < (ms.length : Int)) := by omega
      go_wp2_with fail
      go_ret
      exact ⟨rfl, GW.out.trans GR.out⟩
end Go.Proofs.YtccjbpghpoblhaaDoor

namespace Go.Proofs.YtccjbpghpoblhaaDoor
open Go.RowKit

/-- an append of a row that may be nil onto a row of one's own -/
theorem append_srs {P : Program} (w : World) {ops : Array Oper} {rest : List Oper} {o : Oper} {a : Act} {Q : Exit → Act → World → Prop} (hgd : o.guard = none) (s x : Operand) (t : TypeId)
    (ho : o.op = .call { callee := .builtin .append, args := #[s, x], argTypes := #[t, t] })
    (base : Nat) (e : TypeId) (i : TypeInfo) (z : Value) (size bytes : Nat) (ht : P.underlying t = some (.slice e)) (hi : P.info? e = some i) (hz : i.zero = some z)
    (hsize : i.size = size) (hby : i.bytes = bytes) (hzs : z.cells.size = size) (hsz : 0 < size)
    (v : Value) (n : Nat) (xs : List Value) (hs : a.eval s = v) (hown : w.ownsRow base e size v n xs)
    (A : Option Addr) (m c : Nat) (news : List Value) (hx : a.eval x = .slice A m c) (hnil : A = none → m = 0 ∧ c = 0) (hl : news.length = m * size) (hnews : ∀ ad, A = some ad → ∀ j u, news[j]? = some u → w.cell? (ad.add j) = some u) (h1 : ∀ u ∈ news, u.oneCell' = true)
    (h63 : n + m ≤ maxLen) (hbytes : (n + m) * bytes ≤ 140737488355328) (hbase : base ≤ w.heap.size)
    (h : ∀ v' w', w'.ownsRow base e size v' (n + m) (xs ++ news) → Below base w w' → wpList P ops Q rest (a.put o.dst v') w') : wpList P ops Q (o :: rest) a w := by
  rcases A with _ | ad
  · obtain ⟨rfl, rfl⟩ := hnil rfl
    have hn0 : news = [] := List.eq_nil_of_length_eq_zero (by rw [hl]; omega)
    subst hn0
    exact wpList_append_own_none hgd s x t ho base e i size ht hi v n xs hs hown hx (h v w (by rw [List.append_nil]; exact hown) (Below.refl _ _))
  · exact wpList_append_own w hgd s x t ho base e i z size bytes ht hi hz hsize hby hzs hsz v n xs hs hown ad m c news hx hl (hnews ad rfl) h1 h63 hbytes hbase
      fun v' w' h2 h3 _ => h v' w' h2 ((Below.refl _ _).grown h3 hbase (fun k hk => (hown.lt k hk).1))
theorem own_empty59 (w : World) (base : Nat) (hb : base ≤ w.heap.size) : (w.alloc (.cells #[] 59)).ownsRow base 59 42 (.slice (some ⟨w.heap.size, 0, none⟩) 0 0) 0 [] :=
  ⟨rfl, .inr ⟨w.heap.size, 0, #[], rfl, hb, by show (w.heap.push _)[w.heap.size]? = _; simp, Nat.le_refl _, Nat.zero_le _, rfl, rfl⟩⟩
theorem flat_take {α : Type} {s : Nat} : ∀ {css : List (List α)} (k : Nat), (∀ c ∈ css, c.length = s) → css.flatten.take (k * s) = (css.take k).flatten ∧ css.flatten.drop (k * s) = (css.drop k).flatten
  | [], k, _ => by simp
  | c :: r, 0, _ => by simp
  | c :: r, k + 1, h => by
    have hc := h c (by simp)
    obtain ⟨h1, h2⟩ := flat_take (css := r) k (fun c hc => h c (by simp [hc]))
    have e : (k + 1) * s = c.length + k * s := by rw [hc, Nat.add_mul]; omega
    constructor
    · rw [List.flatten_cons, e, List.take_length_add_append, h1, List.take_succ_cons, List.flatten_cons]
    · rw [List.flatten_cons, e, List.drop_length_add_append, h2, List.drop_succ_cons]
/-- the cells of a row, by its block -/
theorem row_src {w : World} {F : Nat → Prop} {e : TypeId} {size : Nat} {A : Option Addr} {n c : Nat} {xs : List Value} (h : RowAt w F e size (.slice A n c) n xs) (hn : 0 < n) : ∃ g, A = some ⟨g, 0, none⟩ ∧ g < w.heap.size ∧ n ≤ c ∧ xs.length = n * size ∧ ∀ w', Gr w w' → ∀ j u, xs[j]? = some u → w'.cell? ⟨g, j, none⟩ = some u := by
  obtain ⟨⟨hl, h1⟩, _⟩ := h
  rcases h1 with ⟨_, h0⟩ | ⟨g, cap, cur, hv, _, hh, hc, _, _, ht⟩
  · omega
  · injection hv with e1 _ e3
    refine ⟨g, e1, heap_lt hh, by rw [e3]; exact hc, hl, fun w' hg j u hu => ?_⟩
    rw [cell_at (hg.keep hh)]
    rw [← ht, List.getElem?_take] at hu
    split at hu
    · simpa using hu
    · cases hu
theorem add_zero (g j : Nat) : (⟨g, 0, none⟩ : Addr).add j = ⟨g, j, none⟩ := by
  by_cases hq : j = 0
  · subst hq; rfl
  · simp [Addr.add, hq]
theorem add_off (g o j : Nat) : (⟨g, o, none⟩ : Addr).add j = ⟨g, o + j, none⟩ := by
  by_cases hq : j = 0
  · subst hq; rfl
  · simp [Addr.add, hq]
theorem src_take {w : World} {g : Nat} {xs : List Value} (h : ∀ (j : Nat) (u : Value), xs[j]? = some u → w.cell? ⟨g, j, none⟩ = some u) (k : Nat) : ∀ ad, some (⟨g, 0, none⟩ : Addr) = some ad → ∀ (j : Nat) (u : Value), (xs.take k)[j]? = some u → w.cell? (ad.add j) = some u := by
  rintro ad had j u hu
  obtain rfl := Option.some.inj had
  rw [add_zero]
  rw [List.getElem?_take] at hu
  split at hu
  · exact h j u hu
  · cases hu
theorem src_drop {w : World} {g : Nat} {xs : List Value} (h : ∀ (j : Nat) (u : Value), xs[j]? = some u → w.cell? ⟨g, j, none⟩ = some u) (k : Nat) : ∀ ad, some (⟨g, k, none⟩ : Addr) = some ad → ∀ (j : Nat) (u : Value), (xs.drop k)[j]? = some u → w.cell? (ad.add j) = some u := by
  rintro ad had j u hu
  obtain rfl := Option.some.inj had
  rw [add_off]
  rw [List.getElem?_drop] at hu
  exact h _ u hu
theorem src_if {w : World} {g o : Nat} {xs : List Value} {q : Prop} [Decidable q] (h : ∀ (j : Nat) (u : Value), xs[j]? = some u → w.cell? ⟨g, j, none⟩ = some u) (hq : q → xs.length ≤ o) : ∀ ad, (if q then some (⟨g, 0, none⟩ : Addr) else some ⟨g, o, none⟩) = some ad → ∀ (j : Nat) (u : Value), (xs.drop o)[j]? = some u → w.cell? (ad.add j) = some u := by
  rintro ad had j u hu
  by_cases c : q
  · rw [List.getElem?_drop, List.getElem?_eq_none (by have := hq c; omega)] at hu
    cases hu
  · rw [if_neg c] at had
    exact src_drop h o ad had j u hu
theorem nil_if {a b : Addr} {q : Prop} [Decidable q] {p : Prop} (h : (if q then some a else some b) = none) : p := by
  split at h <;> cases h
theorem own_set {w : World} {base b o : Nat} {e : TypeId} {size : Nat} {v x : Value} {n : Nat} {xs : List Value} (h : w.ownsRow base e size v n xs) (hb : b < base) : (w.setCell ⟨b, o, none⟩ x).ownsRow base e size v n xs :=
  ⟨h.1, h.2.imp id (fun ⟨g, cap, cur, h1, h2, h3, h4⟩ => ⟨g, cap, cur, h1, h2, by rw [show (w.setCell ⟨b, o, none⟩ x).heap[g]? = w.heap[g]? by simp [World.setCell, Array.getElem?_modify]; omega]; exact h3, h4⟩)⟩
theorem gr_set {w0 w : World} {b o : Nat} {x : Value} (h : Gr w0 w) (hb : w0.heap.size ≤ b) : Gr w0 (w.setCell ⟨b, o, none⟩ x) :=
  ⟨h.os, h.tape, h.output, by have := h.size; simpa [World.setCell] using this, fun i hi hn => by rw [← h.block i hi hn]; simp [World.setCell, Array.getElem?_modify]; omega⟩
theorem items_one {w : World} {F : Nat → Prop} {is : List It} {css : List (List Value)} (hl : css.length = is.length) (h : ∀ (j : Nat) (b : It), is[j]? = some b → ∃ c, css[j]? = some c ∧ ItAt w F b c) : ∀ u ∈ css.flatten, u.oneCell' = true := by
  intro u hu
  obtain ⟨cs, hcs, hu⟩ := List.mem_flatten.1 hu
  obtain ⟨j, hj⟩ := List.getElem?_of_mem hcs
  have hjl : j < is.length := by rw [← hl]; exact (List.getElem?_eq_some_iff.1 hj).1
  obtain ⟨cs', h1, h2⟩ := h j (is[j]'hjl) (List.getElem?_eq_getElem hjl)
  rw [hj] at h1
  obtain rfl := Option.some.inj h1
  have h3 := it_one h2
  rw [Array.all_eq_true_iff_forall_mem] at h3
  exact h3 u (by simpa using hu)
theorem pBody_len (T : List LexM.Tk) : ∀ (f k : Nat) (is : List It) (fs : Fs) (n : Nat) (is' : List It) (n' : Nat) (fs' : Fs), pBody T f k is fs n = (.ok (is', n'), fs') → is'.length ≤ is.length + f
  | 0, k, is, fs, n, is', n', fs', h => by cases h
  | f + 1, k, is, fs, n, is', n', fs', h => by
    rw [pBody] at h
    split at h
    · injection h with h _
      injection h with h
      injection h with h _
      subst h
      omega
    · split at h
      · have := pBody_len T f _ _ _ _ _ _ _ h
        simp at this
        omega
      · split at h
        · cases h
        · split at h
          · have := pBody_len T f _ _ _ _ _ _ _ h
            omega
          · cases h
theorem pDesign_items (T : List LexM.Tk) : ∀ (f mo : Nat) (ms : List Mo) (fs : Fs) (n : Nat), (∀ m ∈ ms, m.items.length ≤ T.length + 1) → ∀ m ∈ (pDesign T f mo ms fs n).1, m.items.length ≤ T.length + 1
  | 0, mo, ms, fs, n, h => h
  | f + 1, mo, ms, fs, n, h => by
    rw [pDesign]
    split
    · rcases hp : pModule T mo fs n with ⟨x | ⟨q, n1⟩, fs1, mo1⟩
      · simp only []
        split
        · exact h
        · exact pDesign_items T f _ _ _ _ h
      · simp only []
        refine pDesign_items T f _ _ _ _ (fun m hm => ?_)
        rcases List.mem_append.1 hm with hm | hm
        · exact h m hm
        · simp at hm
          subst hm
          unfold pModule at hp
          split at hp
          · split at hp
            · cases hp
            · split at hp
              · cases hp
              · split at hp
                · cases hp
                · rename_i hb
                  have := pBody_len T _ _ _ _ _ _ _ _ hb
                  injection hp with hp _
                  injection hp with hp
                  injection hp with hp _
                  subst hp
                  simpa using this
          · cases hp
    · exact h
theorem parse_items {l : List UInt8} (hl : l.length ≤ 20000) : ∀ m ∈ (parseOut l).1, m.items.length ≤ 20001 := by
  have hb := (lexOut_bounds hl).1
  unfold parseOut
  split
  · simp
  · intro m hm
    have := pDesign_items _ _ _ _ _ _ (by simp) m hm
    omega
/-- a module without one of its items -/
theorem mo_cut {wr w7 : World} {F : Nat → Prop} {m : Mo} {I J : List It} {pv qv iv v6 : Value} {css : List (List Value)} {k n6 base : Nat} (hg : Gr wr w7) (hm : MoAt wr F m [.string (str m.name), pv, qv, iv]) (hcl : css.length = m.items.length)
    (hcs : ∀ (j : Nat) (b : It), m.items[j]? = some b → ∃ c, css[j]? = some c ∧ ItAt wr (fun _ => True) b c) (hk : m.items.take k ++ m.items.drop (k + 1) = I ++ J) (hn : (I ++ J).length = n6)
    (ho : w7.ownsRow base 59 42 v6 n6 (css.flatten.take (k * 42) ++ css.flatten.drop ((k + 1) * 42))) : MoAt w7 (fun _ => True) { m with items := I ++ J } [.string (str m.name), pv, qv, v6] := by
  obtain ⟨p, q, i, e, h1, h2, _⟩ := hm
  simp at e
  obtain ⟨rfl, rfl, rfl⟩ := e
  have h42 : ∀ c ∈ css, c.length = 42 := css_len hcl hcs (fun _ _ h => it_len h)
  rw [(flat_take k h42).1, (flat_take (k + 1) h42).2, ← List.flatten_append] at ho
  refine ⟨_, _, _, rfl, RowAt.keep h1 (fun _ _ => trivial) (fun _ _ _ ho => hg.keep ho), RowAt.keep h2 (fun _ _ => trivial) (fun _ _ _ ho => hg.keep ho), ⟨css.take k ++ css.drop (k + 1), ⟨?_, fun _ _ => trivial⟩, ?_, fun j b hb => ?_⟩⟩
  · show w7.ownsRow 0 59 42 v6 (I ++ J).length _
    rw [hn]
    exact ⟨ho.1, ho.2.imp id (fun ⟨g, cap, cur, h1, _, h3⟩ => ⟨g, cap, cur, h1, Nat.zero_le _, h3⟩)⟩
  · show _ = (I ++ J).length
    rw [← hk]
    simp [hcl]
  · have hb' : (m.items.take k ++ m.items.drop (k + 1))[j]? = some b := by rw [hk]; exact hb
    rw [List.getElem?_append] at hb' ⊢
    have hlt : (css.take k).length = (m.items.take k).length := by simp [hcl]
    rw [hlt]
    split at hb'
    · rename_i hj
      rw [List.getElem?_take] at hb'
      split at hb'
      · rename_i hj2
        obtain ⟨c, q1, q2⟩ := hcs j b hb'
        exact ⟨c, by rw [if_pos hj, List.getElem?_take, if_pos hj2]; exact q1, q2.keep (fun _ h => h) (fun _ _ _ ho => hg.keep ho)⟩
      · cases hb'
    · rename_i hj
      rw [List.getElem?_drop] at hb'
      obtain ⟨c, q1, q2⟩ := hcs _ b hb'
      exact ⟨c, by rw [if_neg hj, List.getElem?_drop]; exact q1, q2.keep (fun _ h => h) (fun _ _ _ ho => hg.keep ho)⟩
end Go.Proofs.YtccjbpghpoblhaaDoor

