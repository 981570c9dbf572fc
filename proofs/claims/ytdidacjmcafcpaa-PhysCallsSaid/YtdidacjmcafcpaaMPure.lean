/- Stage 7: machine code as plain lists and numbers: what its instructions and ends take, make and do. -/
import Derived.Test.YtdidacjmcafcpaaKPure
import Derived.Test.YtdidacjmcafcpaaPlain
namespace Go.Proofs.Ytdidacjmcafcpaa.Mc
open Go.RowKit Go.Proofs.Ytdidacjmcafcpaa.Kc Go.Proofs.Ytdidacjmcafcpaa.Pl
set_option linter.unusedVariables false
structure PMach where
  op : Int
  d : Int
  e : Int
  a : Int
  b : Int
  c : Int
  imm : Int
  args : List Int
structure PEnd where
  op : Int
  a : Int
  b : Int
  to : List Int
  imm : Int
structure PMB where
  phis : List PPhi
  ins : List PMach
  fin : PEnd
/-- How many registers an instruction takes, those of a call apart. -/
def takesN (op : Int) : Nat :=
  if op = 1 then 1 else if op = 2 then 2 else if op = 3 then 0 else if op = 4 then 0 else if 5 ≤ op ∧ op ≤ 17 then 2 else if 18 ≤ op ∧ op ≤ 22 then 1 else if op = 23 then 3
  else if op = 24 then 1 else if op = 25 then 2 else if op = 26 then 2 else if op = 27 then 3 else if op = 29 then 2 else if op = 31 then 1 else 0
/-- How many it makes. -/
def makesN (op : Int) : Nat :=
  if op = 2 then 2 else if op = 29 then 2 else if op = 26 then 0 else if op = 27 then 0 else if op = 31 then 0 else if 1 ≤ op ∧ op ≤ 30 then 1 else 0
def takesL (i : PMach) : List Int := if i.op = 28 then i.args else [i.a, i.b, i.c].take (takesN i.op)
def makesL (i : PMach) : List Int := (if i.op = 2 then [i.a, i.b] else [i.d, i.e]).take (makesN i.op)
def needsL (e : PEnd) : List Int :=
  if e.op = 2 then [e.a] else if e.op = 6 then [e.a] else if e.op = 3 then [e.a, e.b] else if e.op = 4 then [e.a, e.b] else if e.op = 5 then [e.a, e.b] else if e.op = 7 then (if 0 ≤ e.a then [e.a] else []) else []
/-- A register of a row: 0, where there is none. -/
def getP (l : List Int) (r : Int) : Int := if 0 ≤ r ∧ r < l.length then l.getD r.toNat 0 else 0
def setP (l : List Int) (r v : Int) : List Int := if 0 ≤ r ∧ r < l.length then l.set r.toNat v else l
theorem setP_len (l : List Int) (r v : Int) : (setP l r v).length = l.length := by
  unfold setP
  split
  · rw [List.length_set]
  · rfl
/-- Where an end goes, by what its registers are. -/
def goesF (op : Int) (a b : Int) (n : Nat) : Int :=
  if op = 1 then 0 else if op = 2 then (if (a != 0) = true then 0 else 1) else if op = 3 then (if (a == b) = true then 0 else 1) else if op = 4 then (if decide (a < b) = true then 0 else 1)
  else if op = 5 then (if decide (a % 4294967296 < b % 4294967296) = true then 0 else 1) else if op = 6 then min (a % 4294967296) ((n : Int) - 1) else -1
/-- By which operation of words one of the machine reckons. -/
def byB (op : Int) : Int := if op = 18 then 2 else if op = 19 then 5 else if 20 ≤ op ∧ op ≤ 22 then op - 12 else op - 3
end Go.Proofs.Ytdidacjmcafcpaa.Mc
