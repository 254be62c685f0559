/- Events, plainly: their fields, which of them an event has, what is told of them. -/
import Derived.Test.YtciajjjigigidaaDoorEw
namespace Go.Proofs.YtciajjjigigidaaDoor
open Go.RowKit

/-- An event. -/
structure Ev where
  kind : Int
  tx : Int
  thread : Int
  obj : Int
  op : Int
  key : Int
  val : Int
  ret : Int
  deriving DecidableEq

/-- The number of a field that lies at a place. -/
def Ev.at (e : Ev) : Nat → Int
  | 0 => e.kind | 1 => e.tx | 2 => e.thread | 3 => e.obj | 4 => e.op | 5 => e.key | 6 => e.val | _ => e.ret
/-- An event with another number at a place. -/
def Ev.put (e : Ev) (i : Nat) (n : Int) : Ev := match i with
  | 0 => { e with kind := n } | 1 => { e with tx := n } | 2 => { e with thread := n } | 3 => { e with obj := n } | 4 => { e with op := n } | 5 => { e with key := n } | 6 => { e with val := n } | _ => { e with ret := n }
/-- An event's value. -/
abbrev Ev.agg (e : Ev) : Value := .agg #[.int .i64 e.kind, .int .i64 e.tx, .int .i64 e.thread, .int .i64 e.obj, .int .i64 e.op, .int .i64 e.key, .int .i64 e.val, .int .i64 e.ret]
abbrev Ev.zero : Ev := ⟨0, 0, 0, 0, 0, 0, 0, 0⟩
/-- Numbers that fit. -/
def fits64 (n : Int) : Prop := -9223372036854775808 ≤ n ∧ n ≤ 9223372036854775807
structure Ev.Fits (e : Ev) : Prop where
  all : ∀ i, i < 8 → fits64 (e.at i)

/-- Where a field lies. -/
def fcell : Nat → Nat
  | 0 => 1 | 1 => 2 | 2 => 3 | 3 => 4 | 4 => 5 | 5 => 7 | _ => 6
/-- The table by which a field is told. -/
def ftable : Nat → Nat
  | 3 => 3 | 5 => 4 | _ => 0
/-- Of a field: whether a number is no code. -/
def fnone (f : Nat) (n : Int) : Bool := ftable f != 0 && wordL (ftable f) n == []
/-- Of a field: whether a number is within its bounds. -/
def finside (f : Nat) (n : Int) : Bool := decide (bndL.getD (2 * f) 0 ≤ n) && decide (n ≤ bndL.getD (2 * f + 1) 0)

/-- Whether an event has a part, by the function that tells it. -/
def whenB (g : Nat) (e : Ev) : Bool := match g with
  | 0 => true
  | 1 => keyedZ e.op
  | 2 => valuedZ e.op
  | _ => e.ret == 3

/-- The parts of the events of a kind: the field, and who tells whether there is one. -/
def partsL (kind : Int) : List (Nat × Nat) :=
  if kind = 1 then [(0, 0), (1, 0)] else if kind = 2 then [(0, 0), (2, 0), (3, 0), (4, 1), (6, 2)] else if kind = 3 then [(0, 0), (5, 0), (6, 3)] else if 4 ≤ kind ∧ kind ≤ 7 then [(0, 0)] else []
def isKind (kind : Int) : Bool := decide (1 ≤ kind) && decide (kind ≤ 7)

/-- A part's code is none. -/
def codeBad (e : Ev) (p : Nat × Nat) : Bool := whenB p.2 e && fnone p.1 (e.at (fcell p.1))
/-- A part is judged: none where it is out of its bounds; else what is left without it. -/
def vstep (e : Ev) (r : Option Ev) (p : Nat × Nat) : Option Ev := r.bind fun r => if whenB p.2 e then (if finside p.1 (r.at (fcell p.1)) then some (r.put (fcell p.1) 0) else none) else some r
/-- Valid: 0 nil, 3 code, 6 event. -/
def validN (e : Ev) : Nat :=
  if isKind e.kind then
    if (partsL e.kind).any (codeBad e) then 3
    else match (partsL e.kind).foldl (vstep e) (some e) with
      | none => 6
      | some r => if r = ⟨e.kind, 0, 0, 0, 0, 0, 0, 0⟩ then 0 else 6
  else 3
end Go.Proofs.YtciajjjigigidaaDoor
