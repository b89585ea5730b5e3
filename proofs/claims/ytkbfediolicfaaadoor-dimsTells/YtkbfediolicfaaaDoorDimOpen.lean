/-
  WHAT CAME IN: a dimension, a row of dimensions, a row of parameters; what the rows' list gives; a world for the rows' witness.
-/
import Derived.Test.YtkbfediolicfaaaDoorDimHead
import Derived.Test.YtkbfediolicfaaaDoorCards
import Derived.Test.YtkbfediolicfaaaDoorTie
import Derived.ProofKit
import Derived.OpenShut
import Derived.ShutString
import Derived.ChangeOld
import Derived.Carry
import Derived.Deep.Slices
import Derived.Deep.DeepHandedRow
import Derived.LaidLaws
import Derived.LaidHandle
namespace Go.Proofs.YtkbfediolicfaaaDoor
open Go.ChangeShapes Go.WideShapes Go.ChangeAt Go.RowKit Go.Deep
open DimM

theorem own : ownKnob Tryd.prog.godebug = none := by kernel_rfl
theorem laidOut : laidOutB Tryd.prog = true := by kernel_rfl
theorem gEt : Tryd.prog.globalNamed "errors.errorType" = some 0 := by kernel_rfl
theorem gRt : (Tryd.prog.cutTypes.find? (·.1 == "internal/reflectlite.rtype")).map (·.2) = some 74 := by kernel_rfl
theorem oneRow : ((List.range 116).filter fun t => Tryd.prog.rowNamed t [101, 114, 114, 111, 114]) = [48] := by kernel_rfl
theorem tySize : Tryd.prog.types.size = 116 := by kernel_rfl

/-- what the list gives: the cell of the variable -/
theorem errTy_of {W : World} (h : laidMetH Tryd.prog [("errors.errorType", Rows.laid_errors_errorType)] W) : ErrTy W := by
  have h' : laidMet Tryd.prog [] W ∧ handlesMet Tryd.prog [("errors.errorType", Rows.laid_errors_errorType)] W := h
  obtain ⟨name, u, ty, e1, e2, e3, e4, e5⟩ := h'.2 _ (List.mem_singleton.2 rfl)
  have en : name = [101, 114, 114, 111, 114] := (Option.some.inj e1).symm
  subst en
  obtain rfl := Option.some.inj (gRt.symm.trans e2)
  have hm : ty ∈ (List.range 116).filter fun t => Tryd.prog.rowNamed t [101, 114, 114, 111, 114] := List.mem_filter.2 ⟨List.mem_range.2 (by rw [← tySize]; exact e3), e4⟩
  rw [oneRow] at hm
  obtain rfl := List.mem_singleton.1 hm
  have hh : typeHandle Tryd.prog 48 = .pointer (some ⟨1, 48, none⟩) := by kernel_rfl
  rw [hh] at e5
  have := World.var?_cell gEt e5 0
  unfold ErrTy
  simpa using this

/-- a world that meets the list -/
noncomputable def laidWorld (os : Os) : World :=
  { World.holding Tryd.prog os ⟨#[], #[], []⟩ with heap := (World.holding Tryd.prog os ⟨#[], #[], []⟩).heap.modify 0 fun
      | .cells _ t frozen => .cells #[.iface 74 (.agg #[.pointer (some ⟨1, 48, none⟩)])] t frozen
      | o => o }

theorem cells23 : Tryd.prog.cellsOf 23 = 2 := by kernel_rfl
theorem cells41 : Tryd.prog.cellsOf 41 = 2 := by kernel_rfl
theorem cells3 : Tryd.prog.cellsOf 3 = 1 := by kernel_rfl
theorem cells9 : Tryd.prog.cellsOf 9 = 1 := by kernel_rfl
theorem cells39 : Tryd.prog.cellsOf 39 = 1 := by kernel_rfl

theorem u16_wf {a : Int} (h : (Lit.int .u16 a).wf = true) : 0 ≤ a ∧ a ≤ 65535 := by
  simp [Lit.wf] at h
  have h1 : IntKind.u16.min = 0 := by decide
  have h2 : IntKind.u16.max = 65535 := by decide
  rw [h1, h2] at h
  exact h

section
variable {H : Type} {enc : TypeId × Value → H} {w : World} {base : Nat} {spare : Nat → Bool} {held : Bool}
theorem dim_read {fuel : Nat} {cs : List Value} {x : DataW H × List MemPlace} (h : DataW.trod enc Tryd.prog w base spare held fuel 23 cs = some x) :
    ∃ (s : ByteArray) (n : Int), cs = [.string s, .int .i64 n] ∧ s.size ≤ maxLen ∧ x.1 = .agg [.lit (.string s.data.toList), .lit (.int .i64 n)] := by
  obtain ⟨xs, n, _, hx, hcl, hxl, hf⟩ := DataW.trod_struct Tryd.underlying23 h
  rw [cells23] at hcl
  match cs, hcl with
  | [c0, c1], _ =>
    match xs, hxl with
    | [y0, y1], _ =>
      have f0 : DataW.trod enc Tryd.prog w base spare held n 9 (([c0, c1].drop 0).take (Tryd.prog.cellsOf 9)) = some y0 := hf 0 _ rfl
      have f1 : DataW.trod enc Tryd.prog w base spare held n 3 (([c0, c1].drop 1).take (Tryd.prog.cellsOf 3)) = some y1 := hf 1 _ rfl
      rw [cells9] at f0
      rw [cells3] at f1
      obtain ⟨s, e0, r0, hs⟩ := DataW.trod_string Tryd.underlying9 f0
      obtain ⟨a, e1, r1, _⟩ := DataW.trod_int Tryd.underlying3 f1
      refine ⟨s, a, ?_, hs, ?_⟩
      · simp at e0 e1
        subst e0 e1
        rfl
      · rw [hx]
        simp only [List.map_cons, List.map_nil, r0, r1]
theorem nmd_read {fuel : Nat} {cs : List Value} {x : DataW H × List MemPlace} (h : DataW.trod enc Tryd.prog w base spare held fuel 41 cs = some x) :
    ∃ (s : ByteArray) (n : Int), cs = [.string s, .int .u16 n] ∧ (0 ≤ n ∧ n ≤ 65535) ∧ x.1 = .agg [.lit (.string s.data.toList), .lit (.int .u16 n)] := by
  obtain ⟨xs, n, _, hx, hcl, hxl, hf⟩ := DataW.trod_struct Tryd.underlying41 h
  rw [cells41] at hcl
  match cs, hcl with
  | [c0, c1], _ =>
    match xs, hxl with
    | [y0, y1], _ =>
      have f0 : DataW.trod enc Tryd.prog w base spare held n 9 (([c0, c1].drop 0).take (Tryd.prog.cellsOf 9)) = some y0 := hf 0 _ rfl
      have f1 : DataW.trod enc Tryd.prog w base spare held n 39 (([c0, c1].drop 1).take (Tryd.prog.cellsOf 39)) = some y1 := hf 1 _ rfl
      rw [cells9] at f0
      rw [cells39] at f1
      obtain ⟨s, e0, r0, _⟩ := DataW.trod_string Tryd.underlying9 f0
      obtain ⟨a, e1, r1, hw⟩ := DataW.trod_int Tryd.underlying39 f1
      refine ⟨s, a, ?_, u16_wf hw, ?_⟩
      · simp at e0 e1
        subst e0 e1
        rfl
      · rw [hx]
        simp only [List.map_cons, List.map_nil, r0, r1]

theorem block_lt {w : World} {b o : Nat} {v : Value} (h : w.cell? ⟨b, o, none⟩ = some v) : b < w.heap.size := by
  rcases Nat.lt_or_ge b w.heap.size with hlt | hge
  · exact hlt
  · simp [World.cell?, Array.getElem?_eq_none hge] at h

theorem weights_mem {P : Program} {e : TypeId} {l : List (DataW H)} {y : DataW H} (hy : y ∈ l) : ∀ q ∈ DataW.weights P e y, q ∈ DataW.weightsAll P e l := by
  induction l with
  | nil => cases hy
  | cons z r ih =>
    intro q hq
    rw [DataW.weightsAll]
    rcases List.mem_cons.1 hy with rfl | h
    · exact List.mem_append_left _ hq
    · exact List.mem_append_right _ (ih h q hq)

theorem rows_read {k : IntKind} {t e : TypeId} {R : ByteArray × Int → DataW H → Prop} (hu : Tryd.prog.underlying t = some (.slice e)) (hce : Tryd.prog.cellsOf e = 2)
    (hr : ∀ {fuel : Nat} {cs : List Value} {x : DataW H × List MemPlace}, DataW.trod enc Tryd.prog w base (fun _ => true) held fuel e cs = some x → ∃ d : ByteArray × Int, cs = [.string d.1, .int k d.2] ∧ R d x.1)
    {fuel : Nat} {A : Option Addr} {len cap : Nat} {x : DataW H × List MemPlace} (h : DataW.trod enc Tryd.prog w base (fun _ => true) held fuel t [.slice A len cap] = some x) :
    ∃ ds : List (ByteArray × Int), ds.length = len ∧ len ≤ maxLen ∧ (A = none → cap = 0) ∧ (∀ d ∈ ds, ∃ y, R d y ∧ ∀ q ∈ DataW.weights Tryd.prog e y, q ∈ DataW.weights Tryd.prog t x.1) ∧
      ∀ (i : Nat) (d : ByteArray × Int), ds[i]? = some d → ∃ b off, A = some ⟨b, off, none⟩ ∧ b < w.heap.size ∧ w.cell? ⟨b, off + i * 2, none⟩ = some (.string d.1) ∧ w.cell? ⟨b, off + i * 2 + 1, none⟩ = some (.int k d.2) := by
  rcases open_slice hu h with ⟨hcs, _⟩ | ⟨a, len', cap', m, n, D, Pl, hcs, _, hl, hm, hmm, hx, hi⟩
  · have e : A = none ∧ len = 0 ∧ cap = 0 := by simpa using hcs
    obtain ⟨rfl, rfl, rfl⟩ := e
    exact ⟨[], rfl, Nat.zero_le _, (fun _ => rfl), (fun d hd => by cases hd), fun i t ht => by simp at ht⟩
  · have e : A = some a ∧ len = len' ∧ cap = cap' := by simpa using hcs
    obtain ⟨rfl, rfl, rfl⟩ := e
    have hm2 : m = cap := by simpa using hmm
    subst hm2
    have hT : ∀ i, ∃ d : ByteArray × Int, i < m → (∃ cs', w.cells? base (a.add (i * 2)) 2 = some cs' ∧ cs' = [.string d.1, .int k d.2]) ∧ R d (D i) := by
      intro i
      by_cases him : i < m
      · obtain ⟨cs', hc, ht⟩ := hi i him
        rw [hce] at hc
        obtain ⟨d, e1, e2⟩ := hr ht
        exact ⟨d, fun _ => ⟨⟨cs', hc, e1⟩, e2⟩⟩
      · exact ⟨(ByteArray.empty, 0), fun h => absurd h him⟩
    obtain ⟨f, hch⟩ : ∃ f : Nat → ByteArray × Int, ∀ i, i < m → (∃ cs', w.cells? base (a.add (i * 2)) 2 = some cs' ∧ cs' = [.string (f i).1, .int k (f i).2]) ∧ R (f i) (D i) :=
      ⟨fun i => (hT i).choose, fun i => (hT i).choose_spec⟩
    refine ⟨(List.range len).map f, by simp, by omega, (fun h => by cases h), ?_, ?_⟩
    · intro d hd
      obtain ⟨j, hj, rfl⟩ := List.mem_map.1 hd
      refine ⟨D j, (hch j (by have := List.mem_range.1 hj; omega)).2, fun q hq => ?_⟩
      rw [hx]
      rw [DataW.weights, hu]
      exact List.mem_cons_of_mem _ (List.mem_append_left _ (weights_mem (List.mem_map.2 ⟨j, hj, rfl⟩) q hq))
    · intro i d hd
      rw [List.getElem?_map] at hd
      obtain ⟨j, hj, rfl⟩ := Option.map_eq_some_iff.1 hd
      have hjl : i < len ∧ j = i := by
        obtain ⟨h1, h2⟩ := List.getElem?_eq_some_iff.1 hj
        simp at h1 h2
        exact ⟨h1, h2.symm⟩
      obtain ⟨hil, rfl⟩ := hjl
      obtain ⟨⟨cs', hc, rfl⟩, _⟩ := hch j (by omega)
      obtain ⟨_, _, hat⟩ := World.cells?_some hc
      have c0 := hat 0 (by omega)
      have c1 := hat 1 (by omega)
      rw [Go.Deep.add_add] at c0 c1
      have hspot : a.spot = none := by
        obtain ⟨⟨cs0, hc0, rfl⟩, _⟩ := hch 0 (by omega)
        obtain ⟨_, _, hat0⟩ := World.cells?_some hc0
        have := hat0 0 (by omega)
        simpa [Addr.add] using World.cell?_spot this
      obtain ⟨b, off, spot⟩ := a
      simp only at hspot
      subst hspot
      have hadd : ∀ q, (⟨b, off, none⟩ : Addr).add q = ⟨b, off + q, none⟩ := fun q => by
        by_cases hq : q = 0
        · subst hq; rfl
        · simp [Addr.add, hq]
      rw [hadd] at c0 c1
      exact ⟨b, off, rfl, block_lt c0, c0, c1⟩
theorem dms_open {fuel : Nat} {A : Option Addr} {len cap : Nat} {x : DataW H × List MemPlace} (h : DataW.trod enc Tryd.prog w base (fun _ => true) held fuel 24 [.slice A len cap] = some x) :
    ∃ ds : List (ByteArray × Int), ds.length = len ∧ len ≤ maxLen ∧ Dms w w.heap.size A ds := by
  obtain ⟨ds, h1, h2, _, _, h3⟩ := rows_read (k := .i64) (R := fun _ _ => True) Tryd.underlying24 cells23 (fun h => by
    obtain ⟨s, n, e, _⟩ := dim_read h
    exact ⟨(s, n), e, trivial⟩) h
  exact ⟨ds, h1, h2, h3⟩
theorem nmd_open {fuel : Nat} {A : Option Addr} {len cap : Nat} {x : DataW H × List MemPlace} (h : DataW.trod enc Tryd.prog w base (fun _ => true) held fuel 25 [.slice A len cap] = some x) :
    ∃ ps : Ps, ps.length = len ∧ len ≤ maxLen ∧ (A = none → cap = 0) ∧ ((DataW.weights Tryd.prog 25 x.1).all (· ≤ reachBytes) = true → ∀ p ∈ ps, p.1.size ≤ reachBytes) ∧ Fine ps ∧ Nmd w w.heap.size A ps := by
  obtain ⟨ds, h1, h2, hc, hR, h3⟩ := rows_read (k := .u16) (R := fun d y => (0 ≤ d.2 ∧ d.2 ≤ 65535) ∧ y = .agg [.lit (.string d.1.data.toList), .lit (.int .u16 d.2)]) Tryd.underlying25 cells41 (fun h => by
    obtain ⟨s, n, e, hr, hy⟩ := nmd_read h
    exact ⟨(s, n), e, hr, hy⟩) h
  refine ⟨ds, h1, h2, hc, (fun hw p hp => ?_), (fun p hp => ?_), h3⟩
  · obtain ⟨y, ⟨_, rfl⟩, hq⟩ := hR p hp
    have hm : p.1.data.toList.length ∈ DataW.weights Tryd.prog 41 (.agg [.lit (.string p.1.data.toList), .lit (.int .u16 p.2)] : DataW H) := by
      rw [DataW.weights, Tryd.underlying41]
      simp [DataW.weightsEach, DataW.weights]
    have := List.all_eq_true.1 hw _ (hq _ hm)
    have h2 : p.1.data.toList.length ≤ reachBytes := by simpa using this
    have h3 : p.1.size = p.1.data.toList.length := by rw [Array.length_toList]; rfl
    rw [h3]
    exact h2
  · obtain ⟨y, ⟨hr, _⟩, _⟩ := hR p hp
    exact hr
end
end Go.Proofs.YtkbfediolicfaaaDoor
