/-
  THE LAWS' PAIR OF MODULES: plain, and in memory, block by block.
-/
import Derived.Test.YtjkaeabnjkhllaaScDms
namespace Go.Proofs.Ytjkaeabnjkhllaa
open Go.RowKit

def z0 : Dm := (ByteArray.empty, 0)
def hdZ (op : Int) (s : ByteArray) : Hd := ⟨op, z0, z0, z0, z0, s, true⟩
def exZ : Ex := .mk (hdZ 0 ByteArray.empty) []
def refX (s : ByteArray) : Ex := .mk (hdZ 2 s) []
def hd1 : Hd := ⟨1, (ByteArray.empty, 1), (ByteArray.empty, 1), z0, z0, ByteArray.empty, true⟩
def oneX : Ex := .mk hd1 []
def itU : It := ⟨4, ⟨#[98]⟩, z0, z0, ByteArray.empty, [], [], refX ⟨#[97]⟩, exZ, exZ⟩
def uMo (wn : ByteArray) : Mo := ⟨⟨#[117]⟩, [⟨#[110]⟩], [(true, ⟨#[97]⟩, (wn, 0)), (false, ⟨#[98]⟩, (ByteArray.empty, 1))], [itU]⟩
def itW (s : ByteArray) : It := ⟨1, ⟨#[119]⟩, (ByteArray.empty, 1), z0, ByteArray.empty, [], [], refX s, exZ, exZ⟩
def itV (bp : ByteArray) : It := ⟨7, ⟨#[118]⟩, z0, z0, ⟨#[117]⟩, [(ByteArray.empty, 1)], [(bp, oneX)], exZ, exZ, exZ⟩
def itP (n s : ByteArray) : It := ⟨8, n, z0, z0, ByteArray.empty, [], [], refX s, exZ, exZ⟩
def tMo (s0 bp n2 s2 : ByteArray) : Mo := ⟨⟨#[116]⟩, [], [], [itW s0, itV bp, itP n2 s2]⟩
def pairMs (wn s0 bp n2 s2 : ByteArray) : List Mo := [uMo wn, tMo s0 bp n2 s2]
def nilS : Value := .slice none 0 0
def exC (h : Hd) : List Value := hdCells h nilS
/-- an item's cells: kind, name, width, module, its rows, its expression -/
def itC (k : Int) (n : ByteArray) (wid : Dm) (mod : ByteArray) (av bv : Value) (h : Hd) : List Value :=
  [.int .i64 k, .string n, .string wid.1, .int .i64 wid.2, .string ByteArray.empty, .int .i64 0, .string mod, av, bv] ++ (exC h ++ (exC (hdZ 0 ByteArray.empty) ++ exC (hdZ 0 ByteArray.empty)))
/-- the seven blocks of a pair: modules, params, ports, u's items, args, binds, t's items -/
def PrAt (w : World) (gM gP gQ gU gA gB gT : Nat) (wn s0 bp n2 s2 : ByteArray) : Prop :=
  w.heap[gM]? = some (.cells #[.string ⟨#[117]⟩, .slice (some ⟨gP, 0, none⟩) 1 1, .slice (some ⟨gQ, 0, none⟩) 2 2, .slice (some ⟨gU, 0, none⟩) 1 1, .string ⟨#[116]⟩, nilS, nilS, .slice (some ⟨gT, 0, none⟩) 3 3] 34 (0, 0)) ∧
  w.heap[gP]? = some (.cells #[.string ⟨#[110]⟩] 9 (0, 0)) ∧
  w.heap[gQ]? = some (.cells #[.bool true, .string ⟨#[97]⟩, .string wn, .int .i64 0, .bool false, .string ⟨#[98]⟩, .string ByteArray.empty, .int .i64 1] 59 (0, 0)) ∧
  w.heap[gU]? = some (.cells (itC 4 ⟨#[98]⟩ z0 ByteArray.empty nilS nilS (hdZ 2 ⟨#[97]⟩)).toArray 49 (0, 0)) ∧
  w.heap[gA]? = some (.cells #[.string ByteArray.empty, .int .i64 1] 42 (0, 0)) ∧
  w.heap[gB]? = some (.cells (Value.string bp :: exC hd1).toArray 64 (0, 0)) ∧
  w.heap[gT]? = some (.cells (itC 1 ⟨#[119]⟩ (ByteArray.empty, 1) ByteArray.empty nilS nilS (hdZ 2 s0) ++ (itC 7 ⟨#[118]⟩ z0 ⟨#[117]⟩ (.slice (some ⟨gA, 0, none⟩) 1 1) (.slice (some ⟨gB, 0, none⟩) 1 1) (hdZ 0 ByteArray.empty) ++ itC 8 n2 z0 ByteArray.empty nilS nilS (hdZ 2 s2))).toArray 49 (0, 0))
theorem PrAt.gr {w w' : World} {gM gP gQ gU gA gB gT : Nat} {wn s0 bp n2 s2 : ByteArray} (h : PrAt w gM gP gQ gU gA gB gT wn s0 bp n2 s2) (hg : Gr w w') : PrAt w' gM gP gQ gU gA gB gT wn s0 bp n2 s2 := by
  obtain ⟨h1, h2, h3, h4, h5, h6, h7⟩ := h
  exact ⟨hg.keep h1, hg.keep h2, hg.keep h3, hg.keep h4, hg.keep h5, hg.keep h6, hg.keep h7⟩
theorem cln_nil (w : World) : Cln w nilS := fun g o n c e hn => by simp [nilS] at e
theorem ex_leaf (w : World) (h : Hd) : ExAt w (.mk h []) (exC h) := .mk h [] nilS [] (RowC.nil w 11) rfl (fun j t c hj => by simp at hj) (fun _ => cln_nil w)
theorem it_plain (w : World) (k : Int) (n : ByteArray) (wid : Dm) (h : Hd) : ItAt w ⟨k, n, wid, z0, ByteArray.empty, [], [], .mk h [], exZ, exZ⟩ (itC k n wid ByteArray.empty nilS nilS h) :=
  ⟨nilS, nilS, exC h, exC (hdZ 0 ByteArray.empty), exC (hdZ 0 ByteArray.empty), rfl, RowC.nil w 2, ⟨[], RowC.nil w 12, rfl, fun j b hb => by simp at hb⟩, ex_leaf w h, ex_leaf w _, ex_leaf w _⟩
theorem it_inst {w : World} {gA gB : Nat} {bp : ByteArray} (ha : w.heap[gA]? = some (.cells #[.string ByteArray.empty, .int .i64 1] 42 (0, 0))) (hb : w.heap[gB]? = some (.cells (Value.string bp :: exC hd1).toArray 64 (0, 0))) :
    ItAt w (itV bp) (itC 7 ⟨#[118]⟩ z0 ⟨#[117]⟩ (.slice (some ⟨gA, 0, none⟩) 1 1) (.slice (some ⟨gB, 0, none⟩) 1 1) (hdZ 0 ByteArray.empty)) :=
  ⟨_, _, exC (hdZ 0 ByteArray.empty), exC (hdZ 0 ByteArray.empty), exC (hdZ 0 ByteArray.empty), rfl, rowc_block ha rfl (fun c hc => by obtain rfl := List.mem_singleton.1 (show c ∈ [dmCells (ByteArray.empty, 1)] from hc); rfl) rfl (by decide),
    ⟨[.string bp :: exC hd1], rowc_block hb (by simp) (by simp [exC, hdCells]) rfl (by decide), rfl, fun j b hj => by
      cases j with
      | zero =>
        have e : b = (bp, oneX) := by simpa [itV] using hj.symm
        subst e
        exact ⟨exC hd1, rfl, ex_leaf w hd1⟩
      | succ j => simp [itV] at hj⟩, ex_leaf w _, ex_leaf w _, ex_leaf w _⟩
theorem itC_len (k : Int) (n : ByteArray) (wid : Dm) (mod : ByteArray) (av bv : Value) (h : Hd) : (itC k n wid mod av bv h).length = 42 := rfl
theorem mo_u {w : World} {gP gQ gU : Nat} {wn : ByteArray} (hp : w.heap[gP]? = some (.cells #[.string ⟨#[110]⟩] 9 (0, 0))) (hq : w.heap[gQ]? = some (.cells #[.bool true, .string ⟨#[97]⟩, .string wn, .int .i64 0, .bool false, .string ⟨#[98]⟩, .string ByteArray.empty, .int .i64 1] 59 (0, 0)))
    (hu : w.heap[gU]? = some (.cells (itC 4 ⟨#[98]⟩ z0 ByteArray.empty nilS nilS (hdZ 2 ⟨#[97]⟩)).toArray 49 (0, 0))) : MoAt w (uMo wn) [.string ⟨#[117]⟩, .slice (some ⟨gP, 0, none⟩) 1 1, .slice (some ⟨gQ, 0, none⟩) 2 2, .slice (some ⟨gU, 0, none⟩) 1 1] :=
  ⟨_, _, _, rfl, rowc_block hp rfl (by simp) rfl (by decide), rowc_block hq rfl (by simp [uMo, portCells]) rfl (by decide),
    ⟨[itC 4 ⟨#[98]⟩ z0 ByteArray.empty nilS nilS (hdZ 2 ⟨#[97]⟩)], rowc_block hu (by simp) (by simp [itC_len]) rfl (by decide), rfl, fun j i hj => by
      cases j with
      | zero =>
        have e : i = itU := by simpa [uMo] using hj.symm
        subst e
        exact ⟨_, rfl, it_plain w 4 _ _ _⟩
      | succ j => simp [uMo] at hj⟩⟩
theorem mo_t {w : World} {gA gB gT : Nat} {s0 bp n2 s2 : ByteArray} (ha : w.heap[gA]? = some (.cells #[.string ByteArray.empty, .int .i64 1] 42 (0, 0))) (hb : w.heap[gB]? = some (.cells (Value.string bp :: exC hd1).toArray 64 (0, 0)))
    (ht : w.heap[gT]? = some (.cells (itC 1 ⟨#[119]⟩ (ByteArray.empty, 1) ByteArray.empty nilS nilS (hdZ 2 s0) ++ (itC 7 ⟨#[118]⟩ z0 ⟨#[117]⟩ (.slice (some ⟨gA, 0, none⟩) 1 1) (.slice (some ⟨gB, 0, none⟩) 1 1) (hdZ 0 ByteArray.empty) ++ itC 8 n2 z0 ByteArray.empty nilS nilS (hdZ 2 s2))).toArray 49 (0, 0))) :
    MoAt w (tMo s0 bp n2 s2) [.string ⟨#[116]⟩, nilS, nilS, .slice (some ⟨gT, 0, none⟩) 3 3] :=
  ⟨_, _, _, rfl, RowC.nil w 1, RowC.nil w 4,
    ⟨[itC 1 ⟨#[119]⟩ (ByteArray.empty, 1) ByteArray.empty nilS nilS (hdZ 2 s0), itC 7 ⟨#[118]⟩ z0 ⟨#[117]⟩ (.slice (some ⟨gA, 0, none⟩) 1 1) (.slice (some ⟨gB, 0, none⟩) 1 1) (hdZ 0 ByteArray.empty), itC 8 n2 z0 ByteArray.empty nilS nilS (hdZ 2 s2)],
      rowc_block ht (by simp) (by simp [itC_len]) rfl (by decide), rfl, fun j i hj => by
      match j with
      | 0 =>
        have e : i = itW s0 := by simpa [tMo] using hj.symm
        subst e
        exact ⟨_, rfl, it_plain w 1 _ _ _⟩
      | 1 =>
        have e : i = itV bp := by simpa [tMo] using hj.symm
        subst e
        exact ⟨_, rfl, it_inst ha hb⟩
      | 2 =>
        have e : i = itP n2 s2 := by simpa [tMo] using hj.symm
        subst e
        exact ⟨_, rfl, it_plain w 8 _ _ _⟩
      | j + 3 => simp [tMo] at hj⟩⟩
theorem PrAt.mods {w : World} {gM gP gQ gU gA gB gT : Nat} {wn s0 bp n2 s2 : ByteArray} (h : PrAt w gM gP gQ gU gA gB gT wn s0 bp n2 s2) : ModsAt w (pairMs wn s0 bp n2 s2) (.slice (some ⟨gM, 0, none⟩) 2 2) := by
  obtain ⟨h1, h2, h3, h4, h5, h6, h7⟩ := h
  refine ⟨[[.string ⟨#[117]⟩, .slice (some ⟨gP, 0, none⟩) 1 1, .slice (some ⟨gQ, 0, none⟩) 2 2, .slice (some ⟨gU, 0, none⟩) 1 1], [.string ⟨#[116]⟩, nilS, nilS, .slice (some ⟨gT, 0, none⟩) 3 3]], rowc_block h1 rfl (by simp) rfl (by decide), rfl, fun j m hj => ?_⟩
  match j with
  | 0 =>
    have e : m = uMo wn := by simpa [pairMs] using hj.symm
    subst e
    exact ⟨_, rfl, mo_u h2 h3 h4⟩
  | 1 =>
    have e : m = tMo s0 bp n2 s2 := by simpa [pairMs] using hj.symm
    subst e
    exact ⟨_, rfl, mo_t h5 h6 h7⟩
  | j + 2 => simp [pairMs] at hj
end Go.Proofs.Ytjkaeabnjkhllaa
