/- What package graph computes, as plain functions on lists of numbers. -/
import Derived.Below
namespace Go.Proofs.YtonheiaohgbbcaaGreat.Gn

/-- A graph: of each block those that edges go to from it. -/
abbrev G := List (List Nat)
def li (l : List Nat) : List Int := l.map Int.ofNat
def lii (T : G) : List (List Int) := T.map li

def rowEdges (T : G) (a : Nat) : List (Nat × Nat) := (T.getD a []).map fun b => (a, b)
def edgesTo (T : G) (k : Nat) : List (Nat × Nat) := ((List.range k).map (rowEdges T)).flatten
def edgesN (T : G) : List (Nat × Nat) := edgesTo T T.length
def turnStep (R : G) (e : Nat × Nat) : G := R.set e.2 (R.getD e.2 [] ++ [e.1])
def turnAll (n : Nat) (es : List (Nat × Nat)) : G := es.foldl turnStep (List.replicate n [])
def turnN (T : G) : G := turnAll T.length (edgesN T)

/-- A walk so far. -/
structure St where
  came : List Nat
  left : List Nat
  number : List Int
  parent : List Int

def St.enter (s : St) (b : Nat) (p : Int) : St := { came := s.came ++ [b], left := s.left, number := s.number.set b s.came.length, parent := s.parent ++ [p] }
def St.leave (s : St) (b : Nat) : St := { s with left := s.left ++ [b] }
def visit (T : G) : Nat → Nat → Int → St → St
  | 0, _, _, s => s
  | f + 1, b, p, s => ((T.getD b []).foldl (fun s' to => if s'.number.getD to 0 = -1 then visit T f to s.came.length s' else s') (s.enter b p)).leave b
def visits (T : G) (f n : Nat) (l : List Nat) (s : St) : St := l.foldl (fun s' to => if s'.number.getD to 0 = -1 then visit T f to n s' else s') s
theorem visit_succ (T : G) (f b : Nat) (p : Int) (s : St) : visit T (f + 1) b p s = (visits T f s.came.length (T.getD b []) (s.enter b p)).leave b := rfl
theorem visits_cons (T : G) (f n b : Nat) (l : List Nat) (s : St) : visits T f n (b :: l) s = visits T f n l (if s.number.getD b 0 = -1 then visit T f b n s else s) := rfl
def St.none (n : Nat) : St := { came := [], left := [], number := List.replicate n (-1), parent := [] }
def walkN (T : G) : St := if 0 < T.length then visit T T.length 0 (-1) (St.none T.length) else St.none 0
def orderN (T : G) : List Nat := (walkN T).left.reverse

/-- What climbs. -/
structure Cl where
  up : List Int
  half : List Nat
  best : List Nat
def climb (up : List Int) (n : Nat) : Nat → Nat → List Nat × Nat
  | 0, m => ([], m)
  | f + 1, m => if (n : Int) < up.getD m (-1) then (m :: (climb up n f (up.getD m (-1)).toNat).1, (climb up n f (up.getD m (-1)).toNat).2) else ([], m)
def squash (c : Cl) (m b : Nat) : Cl :=
  { up := c.up.set b (c.up.getD m (-1)), half := c.half, best := if c.half.getD (c.best.getD m 0) 0 < c.half.getD (c.best.getD b 0) 0 then c.best.set b (c.best.getD m 0) else c.best }
def squashes : List Nat → Cl → Nat → Cl × Nat
  | [], c, m => (c, m)
  | b :: l, c, m => squashes l (squash c m b) b
def leastC (c : Cl) (m n : Nat) : Cl := (squashes (climb c.up n m m).1.reverse c (climb c.up n m m).2).1
def leastM (c : Cl) (m n : Nat) : Nat := (squashes (climb c.up n m m).1.reverse c (climb c.up n m m).2).2
def leastV (c : Cl) (m n : Nat) : Nat := (leastC c m n).best.getD (leastM c m n) 0
def halfOne (num : List Int) (n : Nat) (c : Cl) (a : Nat) : Cl :=
  if num.getD a (-1) = -1 then c
  else { leastC c (num.getD a (-1)).toNat n with half := c.half.set n (min (c.half.getD n 0) (c.half.getD (leastV c (num.getD a (-1)).toNat n) 0)) }
def halfRow (num : List Int) (n : Nat) (l : List Nat) (c : Cl) : Cl := l.foldl (halfOne num n) c
/-- n: how many are still to be done, but for number 0. -/
def halfDown (w : St) (P : G) : Nat → Cl → Cl
  | 0, c => c
  | n + 1, c => halfDown w P n (halfRow w.number (n + 1) (P.getD (w.came.getD (n + 1) 0) []) c)
def halfInit (w : St) : Cl := { up := w.parent, half := List.range w.came.length, best := List.range w.came.length }
def halvesC (w : St) (P : G) : Cl := halfDown w P (w.came.length - 1) (halfInit w)
def halvesN (w : St) (P : G) : List Nat := (halvesC w P).half
def commonN (above : List Nat) : Nat → Nat → Nat → Nat
  | 0, a, _ => a
  | f + 1, a, b => if b < a then commonN above f (above.getD a 0) b else if a < b then commonN above f a (above.getD b 0) else a
def domStep (w : St) (half : List Nat) (s : List Nat × List Int) (n : Nat) : List Nat × List Int :=
  let c := commonN s.1 ((w.parent.getD n 0).toNat + half.getD n 0) (w.parent.getD n 0).toNat (half.getD n 0)
  (s.1.set n c, s.2.set (w.came.getD n 0) (w.came.getD c 0 : Nat))
def domTo (w : St) (half : List Nat) (k : Nat) : List Nat × List Int := (List.range k).foldl (fun s i => domStep w half s (i + 1)) (List.replicate w.came.length 0, List.replicate w.number.length (-1))
def dominatorsN (w : St) (P : G) : List Int := (domTo w (halvesN w P) (w.came.length - 1)).2
def idomN (T : G) : List Int := dominatorsN (walkN T) (turnN T)

def known (l : List Int) (n : Int) : Bool := decide (0 ≤ n) && decide (n < l.length)
def chainTo (l : List Int) (a : Int) : Nat → Int → Int
  | 0, b => b
  | f + 1, b => if !known l b || a == b then b else chainTo l a f (l.getD b.toNat 0)
def dominatesN (l : List Int) (a b : Int) : Bool := known l (chainTo l a l.length b) && a == chainTo l a l.length b

def countStep (idom : List Int) (c : List Nat) (b : Nat) : List Nat :=
  let c1 := c.set b (c.getD b 0 + 1)
  if b = 0 then c1 else c1.set (idom.getD b 0).toNat (c1.getD (idom.getD b 0).toNat 0 + c1.getD b 0)
def countN (came : List Nat) (idom : List Int) : List Nat := came.reverse.foldl (countStep idom) (List.replicate idom.length 0)
def spanStep (idom : List Int) (count : List Nat) (s : List Nat × List (Int × Int)) (b : Nat) : List Nat × List (Int × Int) :=
  let from_ := if b = 0 then 0 else s.1.getD (idom.getD b 0).toNat 0
  let next := if b = 0 then s.1 else s.1.set (idom.getD b 0).toNat (s.1.getD (idom.getD b 0).toNat 0 + count.getD b 0)
  (next.set b (from_ + 1), s.2.set b ((from_ : Int), (from_ + count.getD b 0 : Nat)))
def spanTo (came : List Nat) (idom : List Int) (k : Nat) : List Nat × List (Int × Int) :=
  (came.take k).foldl (spanStep idom (countN came idom)) (List.replicate idom.length 0, List.replicate idom.length (-1, -1))
def spansN (came : List Nat) (idom : List Int) : List (Int × Int) := (spanTo came idom came.length).2
def spansOf (T : G) : List (Int × Int) := spansN (walkN T).came (idomN T)
def backS (s : List (Int × Int)) (a b : Nat) : Bool := decide ((s.getD b (0, 0)).1 ≤ (s.getD a (0, 0)).1) && decide ((s.getD a (0, 0)).1 < (s.getD b (0, 0)).2)
def backN (T : G) (a b : Nat) : Bool := backS (spansOf T) a b

def thoseN (m : List Bool) : List Nat := (List.range m.length).filter fun i => m.getD i false
def headStep (T : G) (m : List Bool) (e : Nat × Nat) : List Bool := if backN T e.1 e.2 then m.set e.2 true else m
def headersN (T : G) : List Nat := thoseN ((edgesN T).foldl (headStep T) (List.replicate T.length false))
def markB (P : G) (num : List Int) : Nat → Nat → List Bool → List Bool
  | 0, _, m => m
  | f + 1, b, m => if m.getD b true || num.getD b (-1) == -1 then m else (P.getD b []).foldl (fun m a => markB P num f a m) (m.set b true)
def bodyStep (T : G) (h : Nat) (m : List Bool) (a : Nat) : List Bool := if backN T a h then markB (turnN T) (walkN T).number (T.length + 1) a (m.set h true) else m
def bodyN (T : G) (h : Int) : List Nat := if h < 0 ∨ (T.length : Int) ≤ h then [] else thoseN (((turnN T).getD h.toNat []).foldl (bodyStep T h.toNat) (List.replicate T.length false))

def rankN (left : List Nat) (n : Nat) : List Nat := (List.range left.length).foldl (fun r i => r.set (left.getD i 0) (left.length - i)) (List.replicate n 0)
def badEdge (T : G) (e : Nat × Nat) : Bool := ((walkN T).number.getD e.1 (-1) != -1 && decide ((rankN (walkN T).left T.length).getD e.2 0 ≤ (rankN (walkN T).left T.length).getD e.1 0)) && !backN T e.1 e.2
def reducibleN (T : G) : Bool := (edgesN T).all fun e => !badEdge T e
def criticalN (T : G) : List (Nat × Nat) := (edgesN T).filter fun e => decide (1 < (T.getD e.1 []).length) && decide (1 < ((turnN T).getD e.2 []).length)
end Go.Proofs.YtonheiaohgbbcaaGreat.Gn
