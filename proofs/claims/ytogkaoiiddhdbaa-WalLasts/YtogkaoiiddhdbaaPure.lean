/- The log, in plain words: sectors, pieces, records, generations. No Go text is spoken of here. -/
import Derived.Test.YtogkaoiiddhdbaaWGet
import Derived.Test.YtogkaoiiddhdbaaLive
namespace Go.Proofs.Ytogkaoiiddhdbaa

namespace Wl
open Wd (putL valB crc)

def need (n : Nat) : Nat := (n - 1) / 491 + 1
def area (n : Nat) : Nat := (n - 2) / 2
theorem need_pos (n : Nat) : 0 < need n := by unfold need; omega
def nul (n : Nat) : List UInt8 := List.replicate n 0
theorem length_nul (n : Nat) : (nul n).length = n := List.length_replicate
/-- Bytes with noughts behind them, 508 in all. -/
def fill (l : List UInt8) : List UInt8 := l ++ nul (508 - l.length)
theorem length_fill {l : List UInt8} (h : l.length ≤ 508) : (fill l).length = 508 := by
  simp [fill, length_nul]; omega
def sealed (l : List UInt8) : List UInt8 := fill l ++ putL (crc (fill l)) 4
theorem length_sealed {l : List UInt8} (h : l.length ≤ 508) : (sealed l).length = 512 := by
  simp [sealed, length_fill h, Wd.length_putL]
def head (g : Nat) : List UInt8 := sealed ([1] ++ putL g 4)
def front (g num i nd len : Nat) : List UInt8 := [2] ++ putL g 4 ++ putL num 4 ++ putL i 2 ++ putL nd 2 ++ putL len 4
theorem length_front (g num i nd len : Nat) : (front g num i nd len).length = 17 := by simp [front, Wd.length_putL]
def body (r : List UInt8) (i : Nat) : List UInt8 := (r.drop (i * 491)).take 491
theorem length_body (r : List UInt8) (i : Nat) : (body r i).length ≤ 491 := by simp [body]; omega
def piece (g num i : Nat) (r : List UInt8) : List UInt8 := sealed (front g num i (need r.length) r.length ++ body r i)
theorem length_piece (g num i : Nat) (r : List UInt8) : (piece g num i r).length = 512 := by
  unfold piece
  refine length_sealed ?_
  have := length_body r i
  rw [List.length_append, length_front]
  omega
theorem length_head (g : Nat) : (head g).length = 512 := length_sealed (by simp [Wd.length_putL])
def pieces (g num : Nat) (r : List UInt8) : List (List UInt8) := (List.range (need r.length)).map fun i => piece g num i r
theorem length_pieces (g num : Nat) (r : List UInt8) : (pieces g num r).length = need r.length := by simp [pieces]
theorem get_pieces (g num : Nat) (r : List UInt8) (i : Nat) (h : i < need r.length) : (pieces g num r)[i]'(by rw [length_pieces]; exact h) = piece g num i r := by simp [pieces]
/-- The generation that a sector tells. -/
def gen (s : List UInt8) : Nat := valB (Wd.part s 1 4)
def tells (s : List UInt8) : Bool := (decide (s.getD 0 0 = 1) || decide (s.getD 0 0 = 2)) && decide (valB (Wd.part s 508 4) = crc (s.take 508))
def isHead (s : List UInt8) (i : Nat) : Bool := decide (gen s % 2 = i) && decide (s = head (gen s))
/-- The current generation, of the first two sectors. -/
def cur (s0 s1 : List UInt8) : Nat × Bool :=
  let a := if isHead s0 0 then (max 0 (gen s0), true) else (0, false)
  if isHead s1 1 then (max a.1 (gen s1), true) else a
def top (now : Nat) (secs : List (List UInt8)) : Nat := secs.foldl (fun t s => if tells s then max t (gen s) else t) now
def next (secs : List (List UInt8)) (now : Nat) : Nat := if (top now secs + 1) % 2 = now % 2 then top now secs + 2 else top now secs + 1
def first (n g : Nat) : Nat := 2 + g % 2 * area n
/-- The bytes of the pieces that sectors have, the first k. -/
def bodies (secs : List (List UInt8)) : List UInt8 := (secs.map fun s => Wd.part s 17 491).flatten
def lenAt (s : List UInt8) : Nat := valB (Wd.part s 13 4)
def firstRec (secs : List (List UInt8)) (g num : Nat) : Option (List UInt8) :=
  match secs with
  | [] => none
  | s :: _ =>
    if 8192 < lenAt s then none
    else if secs.length < need (lenAt s) then none
    else if secs.take (need (lenAt s)) = pieces g num ((bodies (secs.take (need (lenAt s)))).take (lenAt s)) then some ((bodies (secs.take (need (lenAt s)))).take (lenAt s))
    else none
def recsOf : Nat → List (List UInt8) → Nat → Nat → List (List UInt8)
  | 0, _, _, _ => []
  | f + 1, secs, g, num => match firstRec secs g num with
    | none => []
    | some r => r :: recsOf f (secs.drop (need r.length)) g (num + 1)
def recs (secs : List (List UInt8)) (g : Nat) : List (List UInt8) := recsOf secs.length secs g 0

/-- The sectors of a disk, as they are read. -/
def secs (s : Dk.S) : List (List UInt8) := (List.range s.n.toNat).map fun (i : Nat) => s.get (i : Int)
/-- Sectors written one behind the other, up to the first error. -/
def layAll (s : Dk.S) (at_ : Nat) : List (List UInt8) → Dk.S × Int
  | [] => (s, 0)
  | b :: r => if s.wcode (at_ : Int) b.length = 0 then layAll (s.write (at_ : Int) b) (at_ + 1) r else (s.write (at_ : Int) b, s.wcode (at_ : Int) b.length)
def lay (s : Dk.S) (at_ : Nat) (l : List (List UInt8)) : Dk.S × Int :=
  if (layAll s at_ l).2 = 0 then ((layAll s at_ l).1.flush, (layAll s at_ l).1.fcode) else layAll s at_ l
/-- All pieces of records, from a record's number on. -/
def allFrom (g num : Nat) : List (List UInt8) → List (List UInt8)
  | [] => []
  | r :: l => pieces g num r ++ allFrom g (num + 1) l
def all (g : Nat) (l : List (List UInt8)) : List (List UInt8) := allFrom g 0 l
def needs (l : List (List UInt8)) : Nat := l.foldl (fun n r => n + need r.length) 0
/-- A generation is begun: the disk behind it, and the error. -/
def begin_ (s : Dk.S) (g : Nat) (l : List (List UInt8)) : Dk.S × Int :=
  let a := lay s (first s.n.toNat g) (all g l)
  if a.2 = 0 then lay a.1 (g % 2) [head g] else a

structure L where
  d : Dk.S
  g : Nat
  rs : List (List UInt8)
  room : Int
  closed : Bool
def L.begin (t : L) (g : Nat) (l : List (List UInt8)) : L :=
  let a := begin_ t.d g l
  if a.2 = 0 then { d := a.1, g := g, rs := l, room := (area t.d.n.toNat : Int) - (all g l).length, closed := false }
  else { t with d := a.1, closed := true }
def L.acode (t : L) (b : List UInt8) : Int :=
  if t.closed = true then 7 else if 8192 < b.length then 2 else if t.room < (need b.length : Int) then 6
  else (lay t.d (first t.d.n.toNat t.g + area t.d.n.toNat - t.room.toNat) (pieces t.g t.rs.length b)).2
def L.append (t : L) (b : List UInt8) : L :=
  if t.closed = true then t else if 8192 < b.length then t else if t.room < (need b.length : Int) then t
  else
    let a := lay t.d (first t.d.n.toNat t.g + area t.d.n.toNat - t.room.toNat) (pieces t.g t.rs.length b)
    if a.2 = 0 then { t with d := a.1, rs := t.rs ++ [b], room := t.room - need b.length, closed := false } else { t with d := a.1, closed := true }
def L.rcode (t : L) (l : List (List UInt8)) : Int :=
  if t.closed = true then 7 else if l.any (fun b => decide (8192 < b.length)) = true then 2 else if area t.d.n.toNat < needs l then 6 else if t.g = 4294967295 then 11
  else (begin_ t.d (t.g + 1) l).2
def L.renew (t : L) (l : List (List UInt8)) : L :=
  if t.closed = true then t else if l.any (fun b => decide (8192 < b.length)) = true then t else if area t.d.n.toNat < needs l then t else if t.g = 4294967295 then t
  else t.begin (t.g + 1) l
/-- What is found on a disk: the current generation, its records, the next generation. -/
def now (s : Dk.S) : Nat × Bool := cur (s.get 0) (s.get 1)
def found (s : Dk.S) : List (List UInt8) := if (now s).2 = true then recs (((secs s).drop (first s.n.toNat (now s).1)).take (area s.n.toNat)) (now s).1 else []
def nextOf (s : Dk.S) : Nat := next (secs s) (now s).1
def opening (s : Dk.S) : L := { d := s, g := 0, rs := [], room := 0, closed := false }
def ocode (s : Dk.S) : Int := if s.n < 4 then 1 else if s.down = true then 3 else if 4294967295 < nextOf s then 11 else (begin_ s (nextOf s) (found s)).2
def opened (s : Dk.S) : L := (opening s).begin (nextOf s) (found s)
/-- The disk behind an opening. -/
def odisk (s : Dk.S) : Dk.S := if s.n < 4 then s else if s.down = true then s else if 4294967295 < nextOf s then s else (begin_ s (nextOf s) (found s)).1

theorem length_allFrom (g : Nat) : ∀ (l : List (List UInt8)) (num : Nat), (allFrom g num l).length = needs l
  | [], _ => rfl
  | r :: l, num => by
    have h : ∀ (l : List (List UInt8)) (a : Nat), l.foldl (fun n r => n + need r.length) a = a + needs l := by
      intro l
      induction l with
      | nil => intro a; simp [needs]
      | cons x l ih => intro a; simp only [needs, List.foldl_cons]; rw [ih, ih (0 + need x.length)]; omega
    rw [allFrom, List.length_append, length_pieces, length_allFrom g l]
    show _ = List.foldl _ _ _
    rw [List.foldl_cons, h]
    omega
theorem needs_cons (r : List UInt8) (l : List (List UInt8)) : needs (r :: l) = need r.length + needs l := by
  rw [← length_allFrom 0 (r :: l) 0, allFrom, List.length_append, length_pieces, length_allFrom]
theorem allFrom_append (g : Nat) : ∀ (l m : List (List UInt8)) (num : Nat), allFrom g num (l ++ m) = allFrom g num l ++ allFrom g (num + l.length) m
  | [], m, num => by simp [allFrom]
  | r :: l, m, num => by
    rw [List.cons_append, allFrom, allFrom, allFrom_append g l m, List.append_assoc, List.length_cons, show num + 1 + l.length = num + (l.length + 1) by omega]
theorem needs_append (l m : List (List UInt8)) : needs (l ++ m) = needs l + needs m := by
  rw [← length_allFrom 0 _ 0, allFrom_append, List.length_append, length_allFrom, length_allFrom]
theorem needs_nil : needs [] = 0 := rfl
theorem length_le_needs : ∀ (l : List (List UInt8)), l.length ≤ needs l
  | [] => by simp [needs_nil]
  | r :: l => by
    rw [needs_cons, List.length_cons]
    have := length_le_needs l
    have := need_pos r.length
    omega
theorem length_secs (s : Dk.S) : (secs s).length = s.n.toNat := by simp [secs]
theorem get_secs (s : Dk.S) (i : Nat) (h : i < s.n.toNat) : (secs s)[i]'(by rw [length_secs]; exact h) = s.get (i : Int) := by simp [secs]
end Wl
end Go.Proofs.Ytogkaoiiddhdbaa
