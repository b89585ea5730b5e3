/-
  THE LAWS' PAIR OF MODULES, CHANGED.
-/
import Derived.Test.YtjkaeabnjkhllaaScPal
import Derived.Test.YtjkaeabnjkhllaaScPai
import Derived.Test.YtjkaeabnjkhllaaScChe
import Derived.Test.YtjkaeabnjkhllaaScKnd
import Derived.Test.YtjkaeabnjkhllaaScSam
namespace Go.Proofs.Ytjkaeabnjkhllaa
open Go.RowKit

theorem ne_ty {w : World} {g g' : Nat} {c c' : Array Value} {t t' : TypeId} {z z' : Nat × Nat} (h : w.heap[g]? = some (.cells c t z)) (h' : w.heap[g']? = some (.cells c' t' z')) (ht : t ≠ t') : g ≠ g' := fun e => by
  subst e
  rw [h] at h'
  simp only [Option.some.injEq, Obj.cells.injEq] at h'
  exact ht h'.2.1
theorem ne_sz {w : World} {g g' : Nat} {c c' : Array Value} {t t' : TypeId} {z z' : Nat × Nat} (h : w.heap[g]? = some (.cells c t z)) (h' : w.heap[g']? = some (.cells c' t' z')) (ht : c.size ≠ c'.size) : g ≠ g' := fun e => by
  subst e
  rw [h] at h'
  simp only [Option.some.injEq, Obj.cells.injEq] at h'
  exact ht (by rw [h'.1])
theorem put_in {w : World} {g : Nat} {t : TypeId} {z c' : Array Value} {vs : List Value} {o : Nat} (h : w.heap[g]? = some (.cells z t (0, 0))) (hl : o + vs.length ≤ z.size) (hc : c'.toList = z.toList.take o ++ vs ++ z.toList.drop (o + vs.length)) : (w.setCells g o vs).heap[g]? = some (.cells c' t (0, 0)) := by
  obtain ⟨cur', k1, k2, k3⟩ := setCells_block g t (0, 0) vs o w _ h hl
  rw [k1]
  have : cur' = c' := Array.toList_inj.1 (by rw [k3, hc])
  rw [this]
theorem there_in {w : World} {g : Nat} {t : TypeId} {z : Array Value} {o n : Nat} (h : w.heap[g]? = some (.cells z t (0, 0))) (hl : o + n ≤ z.size) : w.there g o n := fun j hj => by
  refine ⟨?_, frozen_at h⟩
  rw [cell_at h]
  have : o + j < z.size := by omega
  simp [this]
theorem PrAt.e2 {w : World} {gM gP gQ gU gA gB gT : Nat} {wn s0 bp n2 s2 : ByteArray} (h : PrAt w gM gP gQ gU gA gB gT wn s0 bp n2 s2) (s : ByteArray) : PrAt (w.setCells gT 93 (exC (hdZ 2 s))) gM gP gQ gU gA gB gT wn s0 bp n2 s := by
  obtain ⟨h1, h2, h3, h4, h5, h6, h7⟩ := h
  exact ⟨(sets_blk (ne_ty h1 h7 (by decide)) _ _ _).trans h1,
    (sets_blk (ne_ty h2 h7 (by decide)) _ _ _).trans h2,
    (sets_blk (ne_ty h3 h7 (by decide)) _ _ _).trans h3,
    (sets_blk (ne_sz h4 h7 (fun e => absurd (show (42 : Nat) = 126 from e) (by decide))) _ _ _).trans h4,
    (sets_blk (ne_ty h5 h7 (by decide)) _ _ _).trans h5,
    (sets_blk (ne_ty h6 h7 (by decide)) _ _ _).trans h6,
    put_in h7 (Nat.le_of_ble_eq_true rfl) rfl⟩
theorem PrAt.e0 {w : World} {gM gP gQ gU gA gB gT : Nat} {wn s0 bp n2 s2 : ByteArray} (h : PrAt w gM gP gQ gU gA gB gT wn s0 bp n2 s2) (s : ByteArray) : PrAt (w.setCells gT 9 (exC (hdZ 2 s))) gM gP gQ gU gA gB gT wn s bp n2 s2 := by
  obtain ⟨h1, h2, h3, h4, h5, h6, h7⟩ := h
  exact ⟨(sets_blk (ne_ty h1 h7 (by decide)) _ _ _).trans h1,
    (sets_blk (ne_ty h2 h7 (by decide)) _ _ _).trans h2,
    (sets_blk (ne_ty h3 h7 (by decide)) _ _ _).trans h3,
    (sets_blk (ne_sz h4 h7 (fun e => absurd (show (42 : Nat) = 126 from e) (by decide))) _ _ _).trans h4,
    (sets_blk (ne_ty h5 h7 (by decide)) _ _ _).trans h5,
    (sets_blk (ne_ty h6 h7 (by decide)) _ _ _).trans h6,
    put_in h7 (Nat.le_of_ble_eq_true rfl) rfl⟩
theorem PrAt.nm {w : World} {gM gP gQ gU gA gB gT : Nat} {wn s0 bp n2 s2 : ByteArray} (h : PrAt w gM gP gQ gU gA gB gT wn s0 bp n2 s2) (s : ByteArray) : PrAt (w.setCells gT 85 [.string s]) gM gP gQ gU gA gB gT wn s0 bp s s2 := by
  obtain ⟨h1, h2, h3, h4, h5, h6, h7⟩ := h
  exact ⟨(sets_blk (ne_ty h1 h7 (by decide)) _ _ _).trans h1,
    (sets_blk (ne_ty h2 h7 (by decide)) _ _ _).trans h2,
    (sets_blk (ne_ty h3 h7 (by decide)) _ _ _).trans h3,
    (sets_blk (ne_sz h4 h7 (fun e => absurd (show (42 : Nat) = 126 from e) (by decide))) _ _ _).trans h4,
    (sets_blk (ne_ty h5 h7 (by decide)) _ _ _).trans h5,
    (sets_blk (ne_ty h6 h7 (by decide)) _ _ _).trans h6,
    put_in h7 (Nat.le_of_ble_eq_true rfl) rfl⟩
theorem PrAt.bd {w : World} {gM gP gQ gU gA gB gT : Nat} {wn s0 bp n2 s2 : ByteArray} (h : PrAt w gM gP gQ gU gA gB gT wn s0 bp n2 s2) (s : ByteArray) : PrAt (w.setCells gB 0 [.string s]) gM gP gQ gU gA gB gT wn s0 s n2 s2 := by
  obtain ⟨h1, h2, h3, h4, h5, h6, h7⟩ := h
  exact ⟨(sets_blk (ne_ty h1 h6 (by decide)) _ _ _).trans h1,
    (sets_blk (ne_ty h2 h6 (by decide)) _ _ _).trans h2,
    (sets_blk (ne_ty h3 h6 (by decide)) _ _ _).trans h3,
    (sets_blk (ne_ty h4 h6 (by decide)) _ _ _).trans h4,
    (sets_blk (ne_ty h5 h6 (by decide)) _ _ _).trans h5,
    put_in h6 (Nat.le_of_ble_eq_true rfl) rfl,
    (sets_blk (ne_ty h7 h6 (by decide)) _ _ _).trans h7⟩
theorem PrAt.qw {w : World} {gM gP gQ gU gA gB gT : Nat} {wn s0 bp n2 s2 : ByteArray} (h : PrAt w gM gP gQ gU gA gB gT wn s0 bp n2 s2) (s : ByteArray) : PrAt (w.setCells gQ 2 [.string s]) gM gP gQ gU gA gB gT s s0 bp n2 s2 := by
  obtain ⟨h1, h2, h3, h4, h5, h6, h7⟩ := h
  exact ⟨(sets_blk (ne_ty h1 h3 (by decide)) _ _ _).trans h1,
    (sets_blk (ne_ty h2 h3 (by decide)) _ _ _).trans h2,
    put_in h3 (Nat.le_of_ble_eq_true rfl) rfl,
    (sets_blk (ne_ty h4 h3 (by decide)) _ _ _).trans h4,
    (sets_blk (ne_ty h5 h3 (by decide)) _ _ _).trans h5,
    (sets_blk (ne_ty h6 h3 (by decide)) _ _ _).trans h6,
    (sets_blk (ne_ty h7 h3 (by decide)) _ _ _).trans h7⟩
/-- Check of a pair, and of nothing -/
def ChRet (w : World) (fs : List Ft) (n : Nat) (e : Ending) (w' : World) : Prop := ∃ A c, e = .returned (.slice A n c) ∧ RowC w' 4 (.slice A n c) (fs.map ftCells) ∧ Gr w w'
theorem chk_pair {w : World} {gM gP gQ gU gA gB gT : Nat} {wn s0 bp n2 s2 : ByteArray} (h : PrAt w gM gP gQ gU gA gB gT wn s0 bp n2 s2) (hml : ∃ z : Int, w.cell? ⟨0, 0, none⟩ = some (.int .i64 z)) (h0 : Few s0) (h2 : Few s2) {fs : List Ft} {n : Nat} (hf : checkOut (pairMs wn s0 bp n2 s2) = fs) (hn : fs.length = n) :
    Calls Try.prog 14 #[.agg #[.slice (some ⟨gM, 0, none⟩) 2 2]] w (ChRet w fs n) := by
  refine (Check_any (pairMs wn s0 bp n2 s2) (some ⟨gM, 0, none⟩) 2 w (Lib.hid (pair_ok h0 h2)) (Lib.hid h.mods) (Lib.hid hml)).mono ?_
  rintro e w' ⟨A, c, fs', rfl, hr, hc, hg⟩
  have h9 := chk_clean hc (pair_cl wn s0 bp n2 s2)
  rw [hf] at h9
  subst h9
  subst hn
  exact ⟨A, c, rfl, hr, hg⟩
theorem chk_none {w : World} (hml : ∃ z : Int, w.cell? ⟨0, 0, none⟩ = some (.int .i64 z)) : Calls Try.prog 14 #[.agg #[.slice none 0 0]] w (ChRet w [(51, 0, -1)] 1) := by
  refine (Check_any [] none 0 w (Lib.hid ⟨by decide, by simp, by simp, by simp⟩) (Lib.hid ⟨[], RowC.nil w 4, rfl, fun j m hj => by simp at hj⟩) (Lib.hid hml)).mono ?_
  rintro e w' ⟨A, c, fs', rfl, hr, hc, hg⟩
  have h9 := chk_clean hc (by simp)
  subst h9
  exact ⟨A, c, rfl, hr, hg⟩
theorem kind_u {w : World} {gM gP gQ gU gA gB gT : Nat} {wn s0 bp n2 s2 : ByteArray} (h : PrAt w gM gP gQ gU gA gB gT wn s0 bp n2 s2) (s : ByteArray) {a b : Nat} (hk : kindOf (uMo wn) s = (a, b)) :
    Calls Try.prog 16 #[.agg #[.string ⟨#[117]⟩, .slice (some ⟨gP, 0, none⟩) 1 1, .slice (some ⟨gQ, 0, none⟩) 2 2, .slice (some ⟨gU, 0, none⟩) 1 1], .string s] w fun e w' => e = .returned (.tuple #[.int .i64 (a : Nat), .int .i64 (b : Nat)]) ∧ Gr w w' := by
  obtain ⟨h1, h2, h3, h4, h5, h6, h7⟩ := h
  have := Kind_any (uMo wn) (some ⟨gP, 0, none⟩) (some ⟨gQ, 0, none⟩) (some ⟨gU, 0, none⟩) 1 2 1 s w (Lib.hid (mo_u h2 h3 h4))
  rw [hk] at this
  exact this
theorem kind_t {w : World} {gM gP gQ gU gA gB gT : Nat} {wn s0 bp n2 s2 : ByteArray} (h : PrAt w gM gP gQ gU gA gB gT wn s0 bp n2 s2) (s : ByteArray) {a b : Nat} (hk : kindOf (tMo s0 bp n2 s2) s = (a, b)) :
    Calls Try.prog 16 #[.agg #[.string ⟨#[116]⟩, .slice none 0 0, .slice none 0 0, .slice (some ⟨gT, 0, none⟩) 3 3], .string s] w fun e w' => e = .returned (.tuple #[.int .i64 (a : Nat), .int .i64 (b : Nat)]) ∧ Gr w w' := by
  obtain ⟨h1, h2, h3, h4, h5, h6, h7⟩ := h
  have := Kind_any (tMo s0 bp n2 s2) none none (some ⟨gT, 0, none⟩) 0 0 3 s w (Lib.hid (mo_t h5 h6 h7))
  rw [hk] at this
  exact this
end Go.Proofs.Ytjkaeabnjkhllaa
