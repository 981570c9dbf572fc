/- Stage 3: a function, and what is wrong with it first, as plain lists and numbers. -/
import Derived.WalkKit
namespace Go.Proofs.Ytdidacjmcafcpaa.Kc
set_option linter.unusedVariables false
structure PIns where
  op : Int
  dst : Int
  two : Int
  args : List Int
  imm : Int
structure PPhi where
  dst : Int
  ins : List (Int × Int)
structure PTerm where
  kind : Int
  args : List Int
  to : List Int
  imm : Int
structure PBlock where
  phis : List PPhi
  ins : List PIns
  term : PTerm
/-- Numbers that an int can be. -/
def InI (x : Int) : Prop := -9223372036854775808 ≤ x ∧ x ≤ 9223372036854775807
def InW (x : Int) : Prop := -2147483648 ≤ x ∧ x ≤ 2147483647
/-- What is wrong, in which block, at which place. -/
abbrev Fault := Int × Int × Int
/-- Where values are made. -/
abbrev Spots := Int → Option (Int × Int)
/-- Is there such an operation, with so many operands? -/
def mayB (op : Int) (n : Nat) : Bool :=
  if op = 1 then (n : Int) == 0 else if op = 15 then (n : Int) == 1 else if op = 17 then decide ((n : Int) ≤ 4) else if 1 < op ∧ op ≤ 18 then (n : Int) == 2 else false
/-- Is there such a kind of terms, with so many operands, and To's? -/
def endB (kind : Int) (n to : Nat) : Bool :=
  if kind = 1 then (n : Int) == 0 && (to : Int) == 1
  else if kind = 2 then (n : Int) == 1 && (to : Int) == 2
  else if kind = 3 then (n : Int) == 1 && (decide ((2 : Int) ≤ to) && decide ((to : Int) ≤ 65))
  else if kind = 4 then decide ((n : Int) ≤ 1) && (to : Int) == 0
  else if kind = 5 then (n : Int) == 0 && (to : Int) == 0 else false
def foldB (op : Int) : Bool := op == 1 || op == 2 || op == 4 || op == 11 || op == 12 || op == 13
def prodL (op dst two : Int) : List Int := if op = 16 then [] else if op = 18 then [dst, two] else [dst]
def noted (f : Spots) (x : Int) (s : Int × Int) : Spots := fun y => if y = x then some s else f y
/-- Does a span hold the number of another one? -/
def holds (o i : Int × Int) : Bool := decide (o.1 ≤ i.1) && decide (i.1 < o.2)
def knownB (params : Int) (f : Spots) (sp : Nat → Int × Int) (v : Int) (a : Nat) (p : Int) : Bool :=
  if 0 ≤ v ∧ v < params then true
  else match f v with
    | none => false
    | some s => if s.1 = (a : Int) then decide (s.2 < p) else holds (sp s.1.toNat) (sp a)
section
variable {σ α : Type}
/-- One behind the other, each with its place, until something is wrong. -/
def seqE (h : Nat → α → σ → Except Fault σ) : Nat → List α → σ → Except Fault σ
  | _, [], s => .ok s
  | k, x :: l, s => match h k x s with
    | .error e => .error e
    | .ok s' => seqE h (k + 1) l s'
theorem seqE_drop {h : Nat → α → σ → Except Fault σ} {l : List α} {k : Nat} (hk : k < l.length) (s : σ) :
    seqE h k (l.drop k) s = match h k l[k] s with
      | .error e => .error e
      | .ok s' => seqE h (k + 1) (l.drop (k + 1)) s' := by
  rw [List.drop_eq_getElem_cons hk]; rfl
theorem seqE_end {h : Nat → α → σ → Except Fault σ} {l : List α} (s : σ) : seqE h l.length (l.drop l.length) s = .ok s := by
  rw [List.drop_length]; rfl
/-- What is asked of phis, instructions and terms. -/
structure Looks (σ : Type) where
  phi : Int → Int → PPhi → σ → Except Fault σ
  ins : Int → Int → PIns → σ → Except Fault σ
  term : Int → Int → PTerm → σ → Except Fault σ
def blockE (L : Looks σ) (b : Nat) (x : PBlock) (s : σ) : Except Fault σ :=
  match seqE (fun n p => L.phi b (-1 - (n : Int)) p) 0 x.phis s with
  | .error e => .error e
  | .ok s1 => match seqE (fun n i => L.ins b n i) 0 x.ins s1 with
    | .error e => .error e
    | .ok s2 => L.term b x.ins.length x.term s2
def overE (L : Looks σ) (bs : List PBlock) (s : σ) : Except Fault σ := seqE (blockE L) 0 bs s
end
/-- How many phis, instructions and terms a block has, and the blocks ahead of one. -/
def sizeP (x : PBlock) : Nat := x.phis.length + x.ins.length + 1
def uptoP (bs : List PBlock) (k : Nat) : Nat := ((bs.take k).map sizeP).sum
theorem uptoP_succ {bs : List PBlock} {k : Nat} (h : k < bs.length) : uptoP bs (k + 1) = uptoP bs k + sizeP bs[k] := by
  unfold uptoP
  rw [List.take_succ_eq_append_getElem h, List.map_append, List.sum_append]; simp
theorem uptoP_zero (bs : List PBlock) : uptoP bs 0 = 0 := by simp [uptoP]
theorem uptoP_le (bs : List PBlock) : ∀ (k j : Nat), j ≤ k → k ≤ bs.length → uptoP bs j ≤ uptoP bs k := by
  intro k
  induction k with
  | zero => intro j hj _; have : j = 0 := by omega
            subst this; exact Nat.le_refl _
  | succ k ih =>
    intro j hj hk
    rcases Nat.lt_or_ge j (k + 1) with h | h
    · have := ih j (by omega) (by omega)
      rw [uptoP_succ (by omega)]; omega
    · have : j = k + 1 := by omega
      subst this; exact Nat.le_refl _
def putE (b p : Int) : List Int → Spots → Except Fault Spots
  | [], f => .ok f
  | v :: vs, f => if (f v).isSome then .error (12, b, p) else putE b p vs (noted f v (b, p))
def outB (params v : Int) : Bool := decide (v < params) || decide (8192 ≤ v)
def noteE (params b p : Int) (vs : List Int) (f : Spots) : Except Fault Spots :=
  if vs.any (outB params) then .error (11, b, p) else putE b p vs f
def toB (n : Nat) (to : Int) : Bool := decide (to < 1) || decide ((n : Int) ≤ to)
def insE (params b p op dst two : Int) (n : Nat) (f : Spots) : Except Fault Spots := if mayB op n = true then noteE params b p (prodL op dst two) f else .error (10, b, p)
def termE (n : Nat) (b p kind : Int) (k : Nat) (to : List Int) (f : Spots) : Except Fault Spots := if endB kind k to.length = true then (if to.any (toB n) then .error (14, b, p) else .ok f) else .error (10, b, p)
/-- What is asked first. -/
def look1 (params : Int) (n : Nat) : Looks Spots where
  phi b p x f := noteE params b p [x.dst] f
  ins b p i f := insE params b p i.op i.dst i.two i.args.length f
  term b p t f := termE n b p t.kind t.args.length t.to f
def takeE (K : Int → Nat → Int → Bool) (b p : Int) (vs : List Int) : Except Fault Unit := if vs.all fun v => K v b.toNat p then .ok () else .error (13, b, p)
def insOf (bs : List PBlock) (b : Int) : Int := ((bs[b.toNat]?).map fun x => (x.ins.length : Int)).getD 0
/-- What is asked then: K: whether a value is known. -/
def look2 (bs : List PBlock) (preds : List (List Int)) (K : Int → Nat → Int → Bool) : Looks Unit where
  phi b p x _ := if b = 0 ∨ x.ins.map (·.1) ≠ preds.getD b.toNat [] then .error (16, b, p) else if x.ins.all fun i => K i.2 i.1.toNat (insOf bs i.1) then .ok () else .error (13, b, p)
  ins b p i _ := takeE K b p i.args
  term b p t _ := takeE K b p t.args
def limitsF (params : Int) (bs : List PBlock) : Option Fault :=
  if params < 0 ∨ 4 < params then some (1, 0, 0) else if bs.length = 0 then some (14, 0, 0) else if 512 < bs.length then some (2, 0, 0) else if 4096 < uptoP bs bs.length then some (2, 0, 0) else none
def rowsP (bs : List PBlock) : List (List Int) := bs.map fun x => x.term.to
def reachF (idom : List Int) : Option Fault := ((List.range idom.length).find? fun b => decide (0 < b) && decide (idom.getD b 0 < 0)).map fun b => (15, (b : Int), 0)
/-- What is wrong first. -/
def funcE (params : Int) (bs : List PBlock) (idom : List Int) (preds : List (List Int)) (sp : Nat → Int × Int) : Except Fault Unit :=
  match limitsF params bs with
  | some e => .error e
  | none => match overE (look1 params bs.length) bs fun _ => none with
    | .error e => .error e
    | .ok f => match reachF idom with
      | some e => .error e
      | none => overE (look2 bs preds (knownB params f sp)) bs ()
def toldE : Except Fault Unit → Fault
  | .error e => e
  | .ok _ => (0, 0, 0)
end Go.Proofs.Ytdidacjmcafcpaa.Kc
