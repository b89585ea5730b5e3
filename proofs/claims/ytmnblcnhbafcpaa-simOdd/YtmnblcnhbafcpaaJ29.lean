/-
  NETS AND NUMBERS THAT CAME IN.
-/
import Derived.Test.YtmnblcnhbafcpaaJ05
import Derived.Test.YtmnblcnhbafcpaaRows
import Derived.WalkKit
import Derived.ProofKit
import Derived.OpenShut
import Derived.Deep.Grids
import Derived.Deep.Slices
namespace Go.Proofs.Ytmnblcnhbafcpaa
open Go.RowKit Go.Deep
open NetM

theorem u16_nat {a : Int} (h : (Lit.int .u16 a).wf = true) : ∃ n : Nat, a = (n : Nat) ∧ n < 65536 := by
  simp [Lit.wf, IntKind.min, IntKind.max, IntKind.signed, IntKind.bits] at h
  exact ⟨a.toNat, by omega, by omega⟩
theorem u8_nat {a : Int} (h : (Lit.int .u8 a).wf = true) : ∃ n : Nat, a = (n : Nat) ∧ n < 256 := by
  simp [Lit.wf, IntKind.min, IntKind.max, IntKind.signed, IntKind.bits] at h
  exact ⟨a.toNat, by omega, by omega⟩
theorem own : ownKnob Try.prog.godebug = none := by kernel_rfl
theorem laidOut : laidOutB Try.prog = true := by kernel_rfl
theorem cells3 : Try.prog.cellsOf 3 = 1 := by kernel_rfl
theorem cells9 : Try.prog.cellsOf 9 = 1 := by kernel_rfl
theorem cells45 : Try.prog.cellsOf 64 = 1 := by kernel_rfl
theorem cells27 : Try.prog.cellsOf 27 = 5 := by kernel_rfl
theorem block_lt {w : World} {b o : Nat} {v : Value} (h : w.cell? ⟨b, o, none⟩ = some v) : b < w.heap.size := by
  rcases Nat.lt_or_ge b w.heap.size with hlt | hge
  · exact hlt
  · simp [World.cell?, Array.getElem?_eq_none hge] at h
section
variable {H : Type} {enc : TypeId × Value → H} {w : World} {base : Nat} {spare : Nat → Bool} {held : Bool}
theorem rows_read {α : Type} (z : α) (f : α → List Value) {k : Nat} (hk : 0 < k) (hf : ∀ x, (f x).length = k) {t e : TypeId} (hu : Try.prog.underlying t = some (.slice e)) (hce : Try.prog.cellsOf e = k)
    (hr : ∀ {fuel : Nat} {cs : List Value} {x : DataW H × List MemPlace}, DataW.trod enc Try.prog w base (fun _ => true) held fuel e cs = some x → ∃ d : α, cs = f d)
    {fuel : Nat} {A : Option Addr} {len cap : Nat} {x : DataW H × List MemPlace} (h : DataW.trod enc Try.prog w base (fun _ => true) held fuel t [.slice A len cap] = some x) :
    ∃ ds : List α, ds.length = len ∧ len ≤ maxLen ∧ len ≤ cap ∧ ∀ (i : Nat) (d : α), ds[i]? = some d → ∃ b off, A = some ⟨b, off, none⟩ ∧ b < w.heap.size ∧ ∀ j v, (f d)[j]? = some v → w.cell? ⟨b, off + i * k + j, none⟩ = some v := by
  rcases open_slice hu h with ⟨hcs, _⟩ | ⟨a, len', cap', m, n, D, Pl, hcs, _, hl, hm, hmm, hx, hi⟩
  · have e : A = none ∧ len = 0 ∧ cap = 0 := by simpa using hcs
    obtain ⟨rfl, rfl, rfl⟩ := e
    exact ⟨[], rfl, Nat.zero_le _, Nat.zero_le _, fun i t ht => by simp at ht⟩
  · have e : A = some a ∧ len = len' ∧ cap = cap' := by simpa using hcs
    obtain ⟨rfl, rfl, rfl⟩ := e
    have hm2 : m = cap := by simpa using hmm
    subst hm2
    have hT : ∀ i, ∃ d : α, i < m → ∃ cs', w.cells? base (a.add (i * k)) k = some cs' ∧ cs' = f d := by
      intro i
      by_cases him : i < m
      · obtain ⟨cs', hc, ht⟩ := hi i him
        rw [hce] at hc
        obtain ⟨d, e1⟩ := hr ht
        exact ⟨d, fun _ => ⟨cs', hc, e1⟩⟩
      · exact ⟨z, fun h => absurd h him⟩
    obtain ⟨g, hch⟩ : ∃ g : Nat → α, ∀ i, i < m → ∃ cs', w.cells? base (a.add (i * k)) k = some cs' ∧ cs' = f (g i) :=
      ⟨fun i => (hT i).choose, fun i => (hT i).choose_spec⟩
    refine ⟨(List.range len).map g, by simp, by omega, by omega, ?_⟩
    intro i d hd
    rw [List.getElem?_map] at hd
    obtain ⟨j, hj, rfl⟩ := Option.map_eq_some_iff.1 hd
    have hjl : i < len ∧ j = i := by
      obtain ⟨h1, h2⟩ := List.getElem?_eq_some_iff.1 hj
      simp at h1 h2
      exact ⟨h1, h2.symm⟩
    obtain ⟨hil, rfl⟩ := hjl
    have hspot : a.spot = none := by
      obtain ⟨cs0, hc0, rfl⟩ := hch 0 (by omega)
      obtain ⟨_, _, hat0⟩ := World.cells?_some hc0
      have h1 := hat0 0 (by omega)
      have h0 : ((f (g 0))[0]?).isSome := by rw [List.getElem?_eq_getElem (by rw [hf]; exact hk)]; rfl
      obtain ⟨v0, hv0⟩ := Option.isSome_iff_exists.1 h0
      rw [hv0, Nat.zero_mul] at h1
      simpa [Addr.add] using World.cell?_spot h1
    obtain ⟨b, off, spot⟩ := a
    simp only at hspot
    subst hspot
    obtain ⟨cs', hc, rfl⟩ := hch j (by omega)
    obtain ⟨_, _, hat⟩ := World.cells?_some hc
    have hadd : ∀ q, (⟨b, off, none⟩ : Addr).add q = ⟨b, off + q, none⟩ := fun q => by
      by_cases hq : q = 0
      · subst hq; rfl
      · simp [Addr.add, hq]
    have hall : ∀ q v, (f (g j))[q]? = some v → w.cell? ⟨b, off + j * k + q, none⟩ = some v := fun q v hv => by
      have hq : q < k := by have := (List.getElem?_eq_some_iff.1 hv).1; rw [hf] at this; exact this
      have h1 := hat q hq
      rw [Go.Deep.add_add, hadd, ← Nat.add_assoc] at h1
      rw [h1]
      exact hv
    refine ⟨b, off, rfl, ?_, hall⟩
    have h0 : ((f (g j))[0]?).isSome := by rw [List.getElem?_eq_getElem (by rw [hf]; exact hk)]; rfl
    obtain ⟨v0, hv0⟩ := Option.isSome_iff_exists.1 h0
    exact block_lt (hall 0 v0 hv0)
def ndL (x : Nd) : List Value := [.int .i64 x.op, .int .i64 x.w, .int .i64 x.a, .int .i64 x.b, .int .i64 x.c, .int .i64 x.n, .int .i64 x.lo]
theorem cells41 : Try.prog.cellsOf 53 = 7 := by kernel_rfl
theorem nd_read {fuel : Nat} {cs : List Value} {x : DataW H × List MemPlace} (h : DataW.trod enc Try.prog w base spare held fuel 53 cs = some x) : ∃ d : Nd, cs = ndL d := by
  obtain ⟨xs, n, _, hx, hcl, hxl, hf⟩ := DataW.trod_struct Try.underlying53 h
  rw [cells41] at hcl
  match cs, hcl with
  | [c0, c1, c2, c3, c4, c5, c6], _ =>
    match xs, hxl with
    | [y0, y1, y2, y3, y4, y5, y6], _ =>
      have f0 : DataW.trod enc Try.prog w base spare held n 3 (([c0, c1, c2, c3, c4, c5, c6].drop 0).take (Try.prog.cellsOf 3)) = some y0 := hf 0 _ rfl
      rw [cells3] at f0
      obtain ⟨a0, e0, _, _⟩ := DataW.trod_int Try.underlying3 f0
      have f1 : DataW.trod enc Try.prog w base spare held n 3 (([c0, c1, c2, c3, c4, c5, c6].drop 1).take (Try.prog.cellsOf 3)) = some y1 := hf 1 _ rfl
      rw [cells3] at f1
      obtain ⟨a1, e1, _, _⟩ := DataW.trod_int Try.underlying3 f1
      have f2 : DataW.trod enc Try.prog w base spare held n 3 (([c0, c1, c2, c3, c4, c5, c6].drop 2).take (Try.prog.cellsOf 3)) = some y2 := hf 2 _ rfl
      rw [cells3] at f2
      obtain ⟨a2, e2, _, _⟩ := DataW.trod_int Try.underlying3 f2
      have f3 : DataW.trod enc Try.prog w base spare held n 3 (([c0, c1, c2, c3, c4, c5, c6].drop 3).take (Try.prog.cellsOf 3)) = some y3 := hf 3 _ rfl
      rw [cells3] at f3
      obtain ⟨a3, e3, _, _⟩ := DataW.trod_int Try.underlying3 f3
      have f4 : DataW.trod enc Try.prog w base spare held n 3 (([c0, c1, c2, c3, c4, c5, c6].drop 4).take (Try.prog.cellsOf 3)) = some y4 := hf 4 _ rfl
      rw [cells3] at f4
      obtain ⟨a4, e4, _, _⟩ := DataW.trod_int Try.underlying3 f4
      have f5 : DataW.trod enc Try.prog w base spare held n 3 (([c0, c1, c2, c3, c4, c5, c6].drop 5).take (Try.prog.cellsOf 3)) = some y5 := hf 5 _ rfl
      rw [cells3] at f5
      obtain ⟨a5, e5, _, _⟩ := DataW.trod_int Try.underlying3 f5
      have f6 : DataW.trod enc Try.prog w base spare held n 3 (([c0, c1, c2, c3, c4, c5, c6].drop 6).take (Try.prog.cellsOf 3)) = some y6 := hf 6 _ rfl
      rw [cells3] at f6
      obtain ⟨a6, e6, _, _⟩ := DataW.trod_int Try.underlying3 f6
      simp at e0 e1 e2 e3 e4 e5 e6
      subst e0 e1 e2 e3 e4 e5 e6
      exact ⟨⟨a0, a1, a2, a3, a4, a5, a6⟩, rfl⟩
theorem nd_open {fuel len cap : Nat} {A : Option Addr} {x : DataW H × List MemPlace} (h : DataW.trod enc Try.prog w base (fun _ => true) held fuel 22 [.slice A len cap] = some x) :
    ∃ l : List Nd, l.length = len ∧ len ≤ maxLen ∧ len ≤ cap ∧ Nds w w.heap.size A l := by
  obtain ⟨l, h1, h2, h3, h4⟩ := rows_read (⟨0, 0, 0, 0, 0, 0, 0⟩ : Nd) ndL (k := 7) (by decide) (fun _ => rfl) Try.underlying22 cells41 nd_read h
  refine ⟨l, h1, h2, h3, fun i x hi => ?_⟩
  obtain ⟨b, off, e, hb, hc⟩ := h4 i x hi
  exact ⟨b, off, e, hb, hc 0 _ rfl, hc 1 _ rfl, hc 2 _ rfl, hc 3 _ rfl, hc 4 _ rfl, hc 5 _ rfl, hc 6 _ rfl⟩
def pnL (x : Pn) : List Value := [.string x.s, .int .i64 x.node]
theorem cells47 : Try.prog.cellsOf 55 = 2 := by kernel_rfl
theorem pn_read {fuel : Nat} {cs : List Value} {x : DataW H × List MemPlace} (h : DataW.trod enc Try.prog w base spare held fuel 55 cs = some x) : ∃ d : Pn, cs = pnL d := by
  obtain ⟨xs, n, _, hx, hcl, hxl, hf⟩ := DataW.trod_struct Try.underlying55 h
  rw [cells47] at hcl
  match cs, hcl with
  | [c0, c1], _ =>
    match xs, hxl with
    | [y0, y1], _ =>
      have f0 : DataW.trod enc Try.prog w base spare held n 9 (([c0, c1].drop 0).take (Try.prog.cellsOf 9)) = some y0 := hf 0 _ rfl
      rw [cells9] at f0
      obtain ⟨a0, e0, _, _⟩ := DataW.trod_string Try.underlying9 f0
      have f1 : DataW.trod enc Try.prog w base spare held n 3 (([c0, c1].drop 1).take (Try.prog.cellsOf 3)) = some y1 := hf 1 _ rfl
      rw [cells3] at f1
      obtain ⟨a1, e1, _, _⟩ := DataW.trod_int Try.underlying3 f1
      simp at e0 e1
      subst e0 e1
      exact ⟨⟨a0, a1⟩, rfl⟩
theorem pn_open {fuel len cap : Nat} {A : Option Addr} {x : DataW H × List MemPlace} (h : DataW.trod enc Try.prog w base (fun _ => true) held fuel 23 [.slice A len cap] = some x) :
    ∃ l : List Pn, l.length = len ∧ len ≤ maxLen ∧ len ≤ cap ∧ Pns w w.heap.size A l := by
  obtain ⟨l, h1, h2, h3, h4⟩ := rows_read (⟨ByteArray.empty, 0⟩ : Pn) pnL (k := 2) (by decide) (fun _ => rfl) Try.underlying23 cells47 pn_read h
  refine ⟨l, h1, h2, h3, fun i x hi => ?_⟩
  obtain ⟨b, off, e, hb, hc⟩ := h4 i x hi
  exact ⟨b, off, e, hb, hc 0 _ rfl, hc 1 _ rfl⟩
def ceL (x : Ce) : List Value := [.string x.s, .int .i64 x.node, .int .i64 x.next, .int .i64 x.reset]
theorem cells43 : Try.prog.cellsOf 60 = 4 := by kernel_rfl
theorem ce_read {fuel : Nat} {cs : List Value} {x : DataW H × List MemPlace} (h : DataW.trod enc Try.prog w base spare held fuel 60 cs = some x) : ∃ d : Ce, cs = ceL d := by
  obtain ⟨xs, n, _, hx, hcl, hxl, hf⟩ := DataW.trod_struct Try.underlying60 h
  rw [cells43] at hcl
  match cs, hcl with
  | [c0, c1, c2, c3], _ =>
    match xs, hxl with
    | [y0, y1, y2, y3], _ =>
      have f0 : DataW.trod enc Try.prog w base spare held n 9 (([c0, c1, c2, c3].drop 0).take (Try.prog.cellsOf 9)) = some y0 := hf 0 _ rfl
      rw [cells9] at f0
      obtain ⟨a0, e0, _, _⟩ := DataW.trod_string Try.underlying9 f0
      have f1 : DataW.trod enc Try.prog w base spare held n 3 (([c0, c1, c2, c3].drop 1).take (Try.prog.cellsOf 3)) = some y1 := hf 1 _ rfl
      rw [cells3] at f1
      obtain ⟨a1, e1, _, _⟩ := DataW.trod_int Try.underlying3 f1
      have f2 : DataW.trod enc Try.prog w base spare held n 3 (([c0, c1, c2, c3].drop 2).take (Try.prog.cellsOf 3)) = some y2 := hf 2 _ rfl
      rw [cells3] at f2
      obtain ⟨a2, e2, _, _⟩ := DataW.trod_int Try.underlying3 f2
      have f3 : DataW.trod enc Try.prog w base spare held n 3 (([c0, c1, c2, c3].drop 3).take (Try.prog.cellsOf 3)) = some y3 := hf 3 _ rfl
      rw [cells3] at f3
      obtain ⟨a3, e3, _, _⟩ := DataW.trod_int Try.underlying3 f3
      simp at e0 e1 e2 e3
      subst e0 e1 e2 e3
      exact ⟨⟨a0, a1, a2, a3⟩, rfl⟩
theorem ce_open {fuel len cap : Nat} {A : Option Addr} {x : DataW H × List MemPlace} (h : DataW.trod enc Try.prog w base (fun _ => true) held fuel 24 [.slice A len cap] = some x) :
    ∃ l : List Ce, l.length = len ∧ len ≤ maxLen ∧ len ≤ cap ∧ Ces w w.heap.size A l := by
  obtain ⟨l, h1, h2, h3, h4⟩ := rows_read (⟨ByteArray.empty, 0, 0, 0⟩ : Ce) ceL (k := 4) (by decide) (fun _ => rfl) Try.underlying24 cells43 ce_read h
  refine ⟨l, h1, h2, h3, fun i x hi => ?_⟩
  obtain ⟨b, off, e, hb, hc⟩ := h4 i x hi
  exact ⟨b, off, e, hb, hc 0 _ rfl, hc 1 _ rfl, hc 2 _ rfl, hc 3 _ rfl⟩
def prL (x : Pr) : List Value := [.int .i64 x.kind, .string x.s, .int .i64 x.node]
theorem cells59 : Try.prog.cellsOf 47 = 3 := by kernel_rfl
theorem pr_read {fuel : Nat} {cs : List Value} {x : DataW H × List MemPlace} (h : DataW.trod enc Try.prog w base spare held fuel 47 cs = some x) : ∃ d : Pr, cs = prL d := by
  obtain ⟨xs, n, _, hx, hcl, hxl, hf⟩ := DataW.trod_struct Try.underlying47 h
  rw [cells59] at hcl
  match cs, hcl with
  | [c0, c1, c2], _ =>
    match xs, hxl with
    | [y0, y1, y2], _ =>
      have f0 : DataW.trod enc Try.prog w base spare held n 3 (([c0, c1, c2].drop 0).take (Try.prog.cellsOf 3)) = some y0 := hf 0 _ rfl
      rw [cells3] at f0
      obtain ⟨a0, e0, _, _⟩ := DataW.trod_int Try.underlying3 f0
      have f1 : DataW.trod enc Try.prog w base spare held n 9 (([c0, c1, c2].drop 1).take (Try.prog.cellsOf 9)) = some y1 := hf 1 _ rfl
      rw [cells9] at f1
      obtain ⟨a1, e1, _, _⟩ := DataW.trod_string Try.underlying9 f1
      have f2 : DataW.trod enc Try.prog w base spare held n 3 (([c0, c1, c2].drop 2).take (Try.prog.cellsOf 3)) = some y2 := hf 2 _ rfl
      rw [cells3] at f2
      obtain ⟨a2, e2, _, _⟩ := DataW.trod_int Try.underlying3 f2
      simp at e0 e1 e2
      subst e0 e1 e2
      exact ⟨⟨a0, a1, a2⟩, rfl⟩
theorem pr_open {fuel len cap : Nat} {A : Option Addr} {x : DataW H × List MemPlace} (h : DataW.trod enc Try.prog w base (fun _ => true) held fuel 25 [.slice A len cap] = some x) :
    ∃ l : List Pr, l.length = len ∧ len ≤ maxLen ∧ len ≤ cap ∧ Prs w w.heap.size A l := by
  obtain ⟨l, h1, h2, h3, h4⟩ := rows_read (⟨0, ByteArray.empty, 0⟩ : Pr) prL (k := 3) (by decide) (fun _ => rfl) Try.underlying25 cells59 pr_read h
  refine ⟨l, h1, h2, h3, fun i x hi => ?_⟩
  obtain ⟨b, off, e, hb, hc⟩ := h4 i x hi
  exact ⟨b, off, e, hb, hc 0 _ rfl, hc 1 _ rfl, hc 2 _ rfl⟩
theorem u16s_open {fuel len cap : Nat} {A : Option Addr} {x : DataW H × List MemPlace} (h : DataW.trod enc Try.prog w base (fun _ => true) held fuel 63 [.slice A len cap] = some x) :
    ∃ l : List Nat, l.length = len ∧ len ≤ maxLen ∧ (∀ y ∈ l, y < 65536) ∧ U16s w w.heap.size A l := by
  obtain ⟨l, h1, h2, h3, h4⟩ := rows_read (⟨0, by decide⟩ : {n : Nat // n < 65536}) (fun n => [.int .u16 (n.1 : Nat)]) (k := 1) (by decide) (fun _ => rfl) Try.underlying63 cells45 (fun {fuel cs x} hh => by
    obtain ⟨a, e0, _, hw⟩ := DataW.trod_int Try.underlying64 hh
    obtain ⟨n, rfl, hn⟩ := u16_nat hw
    exact ⟨⟨n, hn⟩, e0⟩) h
  refine ⟨l.map (·.1), by rw [List.length_map]; exact h1, h2, fun y hy => ?_, fun i s hi => ?_⟩
  · obtain ⟨d, _, rfl⟩ := List.mem_map.1 hy
    exact d.2
  · rw [List.getElem?_map] at hi
    obtain ⟨d, hd, rfl⟩ := Option.map_eq_some_iff.1 hi
    obtain ⟨b, off, e, hb, hc⟩ := h4 i d hd
    have := hc 0 _ rfl
    rw [Nat.mul_one, Nat.add_zero] at this
    exact ⟨b, off, e, hb, this⟩
theorem cellsS22 : Try.prog.cellsOf 22 = 1 := by kernel_rfl
theorem cellsS23 : Try.prog.cellsOf 23 = 1 := by kernel_rfl
theorem cellsS24 : Try.prog.cellsOf 24 = 1 := by kernel_rfl
theorem cellsS25 : Try.prog.cellsOf 25 = 1 := by kernel_rfl
theorem slice_form {fuel : Nat} {t e : TypeId} {cs : List Value} {x : DataW H × List MemPlace} (hu : Try.prog.underlying t = some (.slice e)) (h : DataW.trod enc Try.prog w base (fun _ => true) held fuel t cs = some x) : ∃ A len cap, cs = [.slice A len cap] := by
  rcases open_slice hu h with ⟨hcs, _⟩ | ⟨a, len', cap', _, _, _, _, hcs, _⟩
  · exact ⟨none, 0, 0, hcs⟩
  · exact ⟨some a, len', cap', hcs⟩
theorem net_open {fuel : Nat} {cs : List Value} {x : DataW H × List MemPlace} (h : DataW.trod enc Try.prog w base (fun _ => true) held fuel 27 cs = some x) :
    ∃ (n : Nt) (A1 A2 A3 A4 A5 : Option Addr) (c1 c2 c3 c4 c5 : Nat), cs = [.slice A1 n.nodes.length c1, .slice A2 n.ins.length c2, .slice A3 n.cells.length c3, .slice A4 n.props.length c4, .slice A5 n.names.length c5] ∧ NtAt w n (ntV A1 A2 A3 A4 A5 n.nodes.length n.ins.length n.cells.length n.props.length n.names.length c1 c2 c3 c4 c5) := by
  obtain ⟨xs, m, _, hx, hcl, hxl, hf⟩ := DataW.trod_struct Try.underlying27 h
  rw [cells27] at hcl
  match cs, hcl with
  | [c0, c1, c2, c3, c4], _ =>
    match xs, hxl with
    | [y0, y1, y2, y3, y4], _ =>
      have f0 : DataW.trod enc Try.prog w base (fun _ => true) held m 22 (([c0, c1, c2, c3, c4].drop 0).take (Try.prog.cellsOf 22)) = some y0 := hf 0 _ rfl
      rw [cellsS22] at f0
      obtain ⟨A0, len0, cap0, e0⟩ := slice_form Try.underlying22 f0
      rw [e0] at f0
      obtain ⟨l0, rfl, _, hc0, r0⟩ := nd_open f0
      have f1 : DataW.trod enc Try.prog w base (fun _ => true) held m 23 (([c0, c1, c2, c3, c4].drop 1).take (Try.prog.cellsOf 23)) = some y1 := hf 1 _ rfl
      rw [cellsS23] at f1
      obtain ⟨A1, len1, cap1, e1⟩ := slice_form Try.underlying23 f1
      rw [e1] at f1
      obtain ⟨l1, rfl, _, hc1, r1⟩ := pn_open f1
      have f2 : DataW.trod enc Try.prog w base (fun _ => true) held m 24 (([c0, c1, c2, c3, c4].drop 2).take (Try.prog.cellsOf 24)) = some y2 := hf 2 _ rfl
      rw [cellsS24] at f2
      obtain ⟨A2, len2, cap2, e2⟩ := slice_form Try.underlying24 f2
      rw [e2] at f2
      obtain ⟨l2, rfl, _, hc2, r2⟩ := ce_open f2
      have f3 : DataW.trod enc Try.prog w base (fun _ => true) held m 25 (([c0, c1, c2, c3, c4].drop 3).take (Try.prog.cellsOf 25)) = some y3 := hf 3 _ rfl
      rw [cellsS25] at f3
      obtain ⟨A3, len3, cap3, e3⟩ := slice_form Try.underlying25 f3
      rw [e3] at f3
      obtain ⟨l3, rfl, _, hc3, r3⟩ := pr_open f3
      have f4 : DataW.trod enc Try.prog w base (fun _ => true) held m 23 (([c0, c1, c2, c3, c4].drop 4).take (Try.prog.cellsOf 23)) = some y4 := hf 4 _ rfl
      rw [cellsS23] at f4
      obtain ⟨A4, len4, cap4, e4⟩ := slice_form Try.underlying23 f4
      rw [e4] at f4
      obtain ⟨l4, rfl, _, hc4, r4⟩ := pn_open f4
      simp at e0 e1 e2 e3 e4
      subst e0 e1 e2 e3 e4
      exact ⟨⟨l0, l1, l2, l3, l4⟩, A0, A1, A2, A3, A4, cap0, cap1, cap2, cap3, cap4, rfl, A0, A1, A2, A3, A4, cap0, cap1, cap2, cap3, cap4, rfl, hc0, r0, r1, r2, r3, r4⟩
end
end Go.Proofs.Ytmnblcnhbafcpaa
