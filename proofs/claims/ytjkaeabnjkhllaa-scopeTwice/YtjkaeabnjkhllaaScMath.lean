/-
  What scope tells, as plain functions of a design. Plain mathematics: no program.
-/
import Derived.Test.YtjkaeabnjkhllaaProg
namespace Go.Proofs.Ytjkaeabnjkhllaa

abbrev Dm := ByteArray × Int
structure Hd where
  op : Int
  val : Dm
  wid : Dm
  hi : Dm
  lo : Dm
  name : ByteArray
  /-- do the kids lie in a block that no string shares? -/
  cl : Bool
inductive Ex where
  | mk (h : Hd) (kids : List Ex)
def Ex.hd : Ex → Hd
  | .mk h _ => h
def Ex.kids : Ex → List Ex
  | .mk _ k => k
structure It where
  kind : Int
  name : ByteArray
  wid : Dm
  val : Dm
  mod : ByteArray
  args : List Dm
  binds : List (ByteArray × Ex)
  e : Ex
  at_ : Ex
  if_ : Ex
structure Mo where
  name : ByteArray
  params : List ByteArray
  ports : List (Bool × ByteArray × Dm)
  items : List It

/-- what an item is, by its kind; 0: nothing that has a name -/
def itemKind (k : Int) : Nat := if k = 1 then 4 else if k = 2 then 5 else if k = 5 then 6 else if k = 7 then 7 else 0
def parPl (l : List ByteArray) (i : Nat) : List (ByteArray × Nat × Nat) := match l with
  | [] => []
  | n :: r => (n, 1, i) :: parPl r (i + 1)
def porPl (l : List (Bool × ByteArray × Dm)) (i : Nat) : List (ByteArray × Nat × Nat) := match l with
  | [] => []
  | p :: r => (p.2.1, (if p.1 then 2 else 3), i) :: porPl r (i + 1)
def itmPl (l : List It) (i : Nat) : List (ByteArray × Nat × Nat) := match l with
  | [] => []
  | x :: r => if itemKind x.kind = 0 then itmPl r (i + 1) else (x.name, itemKind x.kind, i) :: itmPl r (i + 1)
/-- the names of a module, in the order in which they are preferred -/
def placesOf (m : Mo) : List (ByteArray × Nat × Nat) := parPl m.params 0 ++ (porPl m.ports 0 ++ itmPl m.items 0)
/-- the first of a name -/
def look (l : List (ByteArray × Nat × Nat)) (s : ByteArray) : Nat × Nat := match l with
  | [] => (0, 0)
  | p :: r => if p.1 = s then p.2 else look r s
def kindOf (m : Mo) (s : ByteArray) : Nat × Nat := look (placesOf m) s

def lacks (m : Mo) (d : Dm) : Bool := decide (d.1.size ≠ 0) && decide ((kindOf m d.1).1 ≠ 1)
def wanted (k : Nat) (ks : List Nat) : Nat := if k = 0 then 51 else if ks.contains k then 0 else 52
/-- the place of the module of a name -/
def modAt (ms : List Mo) (s : ByteArray) : Option Nat := match ms with
  | [] => none
  | m :: r => if m.name = s then some 0 else (modAt r s).map (· + 1)
def takes (op : Int) : Option Nat :=
  if op = 1 ∨ op = 2 then some 0 else if op = 3 ∨ op = 4 ∨ op = 5 ∨ op = 18 ∨ op = 19 ∨ op = 20 then some 1
  else if op = 16 then some 3 else if 6 ≤ op ∧ op ≤ 17 then some 2 else none
/-- the place of a name's first dot -/
def dotAt (l : List UInt8) : Option Nat := match l with
  | [] => none
  | c :: r => if c = 46 then some 0 else (dotAt r).map (· + 1)
def refErr (ms : List Mo) (m : Mo) (s : ByteArray) : Nat := match dotAt s.data.toList with
  | none => wanted (kindOf m s).1 [2, 4, 5]
  | some k =>
    if (kindOf m (s.extract 0 k)).1 ≠ 7 then 51 else match m.items[(kindOf m (s.extract 0 k)).2]? with
    | none => 51
    | some x => match modAt ms x.mod with
      | none => 51
      | some n => match ms[n]? with
        | none => 51
        | some o => if (kindOf o (s.extract (k + 1) s.size)).1 = 3 then 0 else 51
def itself (ms : List Mo) (m : Mo) (h : Hd) (n : Nat) : Nat :=
  if takes h.op ≠ some n then 1
  else if h.op = 1 then (if lacks m h.wid || lacks m h.val then 40 else 0)
  else if h.op = 18 then (if lacks m h.hi || lacks m h.lo then 40 else 0)
  else if h.op = 19 then wanted (kindOf m h.name).1 [6]
  else if h.op = 2 then refErr ms m h.name
  else 0
mutual
def exErr (ms : List Mo) (m : Mo) : Ex → Nat
  | .mk h ks => if itself ms m h ks.length ≠ 0 then itself ms m h ks.length else exsErr ms m ks
def exsErr (ms : List Mo) (m : Mo) : List Ex → Nat
  | [] => 0
  | e :: r => if exErr ms m e ≠ 0 then exErr ms m e else exsErr ms m r
end
mutual
def exSize : Ex → Nat
  | .mk _ ks => 1 + exsSize ks
def exsSize : List Ex → Nat
  | [] => 0
  | e :: r => exSize e + exsSize r
end
theorem exsErr_app (ms : List Mo) (m : Mo) (b : List Ex) : ∀ a, exsErr ms m (a ++ b) = if exsErr ms m a ≠ 0 then exsErr ms m a else exsErr ms m b
  | [] => by simp [exsErr]
  | e :: r => by
    rw [List.cons_append, exsErr, exsErr, exsErr_app ms m b r]
    by_cases h : exErr ms m e = 0
    · simp [h]
    · simp [h]
theorem exsSize_app (b : List Ex) : ∀ a, exsSize (a ++ b) = exsSize a + exsSize b
  | [] => by simp [exsSize]
  | e :: r => by rw [List.cons_append, exsSize, exsSize, exsSize_app b r]; omega
theorem exSize_mem {t : Ex} : ∀ {ks : List Ex}, t ∈ ks → exSize t ≤ exsSize ks
  | [], h => by cases h
  | e :: r, h => by
    rw [exsSize]
    rcases List.mem_cons.1 h with rfl | h
    · omega
    · have := exSize_mem h; omega
theorem exErr_kids {ms : List Mo} {m : Mo} {e : Ex} (h : itself ms m e.hd e.kids.length = 0) : exErr ms m e = exsErr ms m e.kids := by
  cases e with
  | mk hd ks =>
    simp only [Ex.hd, Ex.kids] at h ⊢
    rw [exErr, h]
    simp
theorem exErr_self {ms : List Mo} {m : Mo} {e : Ex} (h : itself ms m e.hd e.kids.length ≠ 0) : exErr ms m e = itself ms m e.hd e.kids.length := by
  cases e with
  | mk hd ks =>
    simp only [Ex.hd, Ex.kids] at h ⊢
    rw [exErr, if_pos h]
theorem exSize_kids (e : Ex) : exSize e = 1 + exsSize e.kids := by
  cases e with
  | mk hd ks => rw [exSize]; rfl
/-- of kids that were met: they are through, or on top of what is left -/
def Met (ms : List Mo) (m : Mo) (K st : List Ex) : Prop := ∃ pre suf, st = pre ++ suf ∧ exsErr ms m K = exsErr ms m pre ∧ ∀ s ∈ pre, exSize s < 1 + exsSize K
theorem Met.new {ms : List Mo} {m : Mo} (K r : List Ex) : Met ms m K (K ++ r) := ⟨K, r, rfl, rfl, fun s hs => by have := exSize_mem hs; omega⟩
theorem Met.push {ms : List Mo} {m : Mo} {K r : List Ex} {e : Ex} (h : Met ms m K (e :: r)) (h0 : itself ms m e.hd e.kids.length = 0) : Met ms m K (e.kids ++ r) := by
  obtain ⟨pre, suf, h1, h2, h3⟩ := h
  cases pre with
  | nil => exact ⟨[], _, rfl, h2, by simp⟩
  | cons a p =>
    simp at h1
    obtain ⟨rfl, rfl⟩ := h1
    refine ⟨e.kids ++ p, suf, by simp, ?_, fun s hs => ?_⟩
    · rw [h2, exsErr_app, exsErr, exErr_kids h0]
    · rcases List.mem_append.1 hs with hs | hs
      · have := exSize_mem hs
        have h4 := h3 e (by simp)
        rw [exSize_kids] at h4
        omega
      · exact h3 s (by simp [hs])
theorem Met.done {ms : List Mo} {m : Mo} {r : List Ex} {e : Ex} (h : Met ms m e.kids (e :: r)) : exsErr ms m e.kids = 0 := by
  obtain ⟨pre, suf, h1, h2, h3⟩ := h
  cases pre with
  | nil => rw [h2, exsErr]
  | cons a p =>
    simp at h1
    obtain ⟨rfl, rfl⟩ := h1
    have h4 := h3 e (by simp)
    rw [exSize_kids] at h4
    omega
theorem Met.skip {ms : List Mo} {m : Mo} {K r : List Ex} {e : Ex} (h : Met ms m K (e :: r)) (h0 : itself ms m e.hd e.kids.length = 0) (hk : exsErr ms m e.kids = 0) : Met ms m K r := by
  obtain ⟨pre, suf, h1, h2, h3⟩ := h
  cases pre with
  | nil => exact ⟨[], _, rfl, h2, by simp⟩
  | cons a p =>
    simp at h1
    obtain ⟨rfl, rfl⟩ := h1
    refine ⟨p, suf, rfl, ?_, fun s hs => h3 s (by simp [hs])⟩
    rw [h2, exsErr, exErr_kids h0, hk]
    simp

/-- is a name one of an item's own? -/
def named (k : Int) : Bool := decide (k = 8 ∨ k = 9 ∨ k = 10) || decide (itemKind k ≠ 0)
def headNames (m : Mo) : List ByteArray := m.params ++ m.ports.map (·.2.1)
/-- the names that stand ahead of item i -/
def aheadNames (m : Mo) (i : Nat) : List ByteArray := headNames m ++ ((m.items.take i).filter (fun x => named x.kind)).map (·.name)
def insOf (ports : List (Bool × ByteArray × Dm)) : List ByteArray := (ports.filter (·.1)).map (·.2.1)
/-- is there a bind for each port that goes in? -/
def bindsOk (ins : List ByteArray) : List ByteArray → List ByteArray → Bool
  | _, [] => true
  | gone, b :: r => ins.contains b && !gone.contains b && bindsOk ins (b :: gone) r
def boundOk (ports : List (Bool × ByteArray × Dm)) (binds : List (ByteArray × Ex)) : Bool := decide ((insOf ports).length = binds.length) && bindsOk (insOf ports) [] (binds.map (·.1))
def instErr (ms : List Mo) (i : Nat) (x : It) : Nat := match modAt ms x.mod with
  | none => 51
  | some n => if i ≤ n then 54 else match ms[n]? with
    | none => 51
    | some o => if x.args.length ≠ o.params.length then 1 else if boundOk o.ports x.binds then 0 else 53
def targetErr (ms : List Mo) (i : Nat) (m : Mo) (x : It) : Nat :=
  if x.kind = 1 ∨ x.kind = 2 ∨ x.kind = 5 ∨ x.kind = 8 ∨ x.kind = 9 ∨ x.kind = 10 then 0
  else if x.kind = 7 then instErr ms i x
  else if x.kind = 3 then wanted (kindOf m x.name).1 [5]
  else if x.kind = 4 then wanted (kindOf m x.name).1 [3]
  else if x.kind = 6 then wanted (kindOf m x.name).1 [6]
  else 52
def dimsOf (x : It) : List Dm := if x.kind = 1 then [x.wid] else if x.kind = 2 ∨ x.kind = 5 then [x.wid, x.val] else if x.kind = 7 then x.args else []
def exprsOf (x : It) : List Ex := if x.kind = 6 then [x.at_, x.e, x.if_] else if x.kind = 7 then x.binds.map (·.2) else if x.kind = 2 ∨ x.kind = 5 then [] else [x.e]
def itemErr (ms : List Mo) (i : Nat) (m : Mo) (x : It) (twice : Bool) : Nat :=
  if twice then 50 else if targetErr ms i m x ≠ 0 then targetErr ms i m x else if (dimsOf x).any (lacks m) then 40 else exsErr ms m (exprsOf x)
def nodup : List ByteArray → Bool
  | [] => true
  | a :: r => !r.contains a && nodup r
def modErr (ms : List Mo) (i : Nat) (m : Mo) : Nat :=
  if modAt ms m.name ≠ some i ∨ nodup (headNames m) = false then 50
  else if i + 1 = ms.length ∧ 0 < m.params.length then 1
  else if m.ports.any (fun p => lacks m p.2.2) then 40 else 0
/-- is the name of item k one that stands ahead? -/
def twiceAt (m : Mo) (k : Nat) (x : It) : Bool := named x.kind && (aheadNames m k).contains x.name
def itemsOut (ms : List Mo) (i : Nat) (m : Mo) (k : Nat) : List It → List (Nat × Nat × Int)
  | [] => []
  | x :: r => (if itemErr ms i m x (twiceAt m k x) ≠ 0 then [(itemErr ms i m x (twiceAt m k x), i, (k : Int))] else []) ++ itemsOut ms i m (k + 1) r
def modOut (ms : List Mo) (i : Nat) (m : Mo) : List (Nat × Nat × Int) := (if modErr ms i m ≠ 0 then [(modErr ms i m, i, -1)] else []) ++ itemsOut ms i m 0 m.items
def modsOut (ms : List Mo) (i : Nat) : List Mo → List (Nat × Nat × Int)
  | [] => []
  | m :: r => modOut ms i m ++ modsOut ms (i + 1) r
/-- what Check tells -/
def checkOut (ms : List Mo) : List (Nat × Nat × Int) := if ms.length = 0 then [(51, 0, -1)] else modsOut ms 0 ms
end Go.Proofs.Ytjkaeabnjkhllaa
