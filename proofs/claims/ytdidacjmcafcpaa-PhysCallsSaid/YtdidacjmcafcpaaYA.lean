/- Stage 12: a run's state in memory; slots and calls, as a run does them. -/
import Derived.Test.YtdidacjmcafcpaaQQ
import Derived.Test.YtdidacjmcafcpaaAppend
import Derived.Test.YtdidacjmcafcpaaHeld
/- Stage 12: the state of a run, plainly and in memory, with its slots and its calls. -/
namespace Go.Proofs.Ytdidacjmcafcpaa.Ph
open Go.ChangeShapes Go.WideShapes Go.ChangeAt Go.RowKit Go.Maps Go.Proofs.Ytdidacjmcafcpaa.Mem Go.Proofs.Ytdidacjmcafcpaa.Kc Go.Proofs.Ytdidacjmcafcpaa.Br Go.Proofs.Ytdidacjmcafcpaa.Pl Go.Proofs.Ytdidacjmcafcpaa.Mw Go.Proofs.Ytdidacjmcafcpaa.Mc Go.Proofs.Ytdidacjmcafcpaa.Gr
set_option linter.unusedVariables false
set_option linter.unusedSimpArgs false
/-- The slice cs holds the events l, apart from the blocks X. -/
def EventsAt (B : Nat) (w : World) (cs : Value) (l : List (Int × List Int)) (X : Nat → Prop) : Prop :=
  ∃ es : List Value, w.ownsRow B 56 2 cs l.length es ∧ (∀ g, cs.ownBlock = some g → ¬ X g) ∧
    ∀ k (h : k < l.length), es[2 * k]? = some (.int .i32 l[k].1) ∧ ∃ v, es[2 * k + 1]? = some v ∧ OwnWords B w v l[k].2 ∧ ∀ g, v.ownBlock = some g → ¬ X g
theorem EventsAt.nil (B : Nat) (w : World) (X : Nat → Prop) : EventsAt B w (.slice none 0 0) [] X := ⟨[], World.ownsRow_nil _ _ _ _, (fun g h => by cases h), fun k h => absurd h (by simp)⟩
theorem own_ne {v : Value} {g : Nat} {X : Nat → Prop} (h : ∀ g, v.ownBlock = some g → ¬ X g) (hx : X g) : v.ownBlock = none ∨ v.ownBlock ≠ some g := by
  cases hv : v.ownBlock with
  | none => exact Or.inl rfl
  | some k => exact Or.inr (fun e => h k hv (by injection e with e; rw [e]; exact hx))
theorem EventsAt.kept {B : Nat} {w w' : World} {cs : Value} {l : List (Int × List Int)} {X : Nat → Prop} {g : Nat} (h : EventsAt B w cs l X) (hg : w.grownBy w' (some g)) (hx : X g) : EventsAt B w' cs l X := by
  obtain ⟨es, h1, h2, h3⟩ := h
  refine ⟨es, h1.kept hg (own_ne h2 hx), h2, fun k hk => ?_⟩
  obtain ⟨e1, v, e2, e3, e4⟩ := h3 k hk
  exact ⟨e1, v, e2, World.ownsRow.kept e3 hg (own_ne e4 hx), e4⟩
theorem EventsAt.below {B : Nat} {w w' : World} {cs : Value} {l : List (Int × List Int)} {X : Nat → Prop} (h : EventsAt B w cs l X) (hb : Below w.heap.size w w') : EventsAt B w' cs l X := by
  obtain ⟨es, h1, h2, h3⟩ := h
  refine ⟨es, own_below h1 hb, h2, fun k hk => ?_⟩
  obtain ⟨e1, v, e2, e3, e4⟩ := h3 k hk
  exact ⟨e1, v, e2, OwnWords.below e3 hb, e4⟩
theorem EventsAt.weak {B : Nat} {w : World} {cs : Value} {l : List (Int × List Int)} {X X' : Nat → Prop} (h : EventsAt B w cs l X) (hx : ∀ g, g < w.heap.size → X' g → X g) : EventsAt B w cs l X' := by
  obtain ⟨es, h1, h2, h3⟩ := h
  refine ⟨es, h1, fun g hg hX => h2 g hg (hx g (h1.lt g hg).2 hX), fun k hk => ?_⟩
  obtain ⟨e1, v, e2, e3, e4⟩ := h3 k hk
  exact ⟨e1, v, e2, e3, fun g hg hX => e4 g hg (hx g (OwnWords.where_ e3 hg).2 hX)⟩
/-- One event more. -/
theorem EventsAt.push {B : Nat} {w w1 : World} {cs cs' v : Value} {l : List (Int × List Int)} {X : Nat → Prop} {c : Int} {a : List Int} {es : List Value} (h1 : w.ownsRow B 56 2 cs l.length es) (h2 : ∀ g, cs.ownBlock = some g → ¬ X g)
    (h3 : ∀ k (h : k < l.length), es[2 * k]? = some (.int .i32 l[k].1) ∧ ∃ v, es[2 * k + 1]? = some v ∧ OwnWords B w v l[k].2 ∧ ∀ g, v.ownBlock = some g → ¬ X g) (hX : ∀ g, X g → g < w.heap.size)
    (hv : OwnWords B w v a) (hvx : ∀ g, v.ownBlock = some g → ¬ X g) (hr : w1.ownsRow B 56 2 cs' (l.length + 1) (es ++ [.int .i32 c, v])) (hg : w.grownBy w1 cs.ownBlock) (hm : Moved w cs cs') : EventsAt B w1 cs' (l ++ [(c, a)]) X := by
  have hlen : es.length = 2 * l.length := by have := h1.1; omega
  refine ⟨es ++ [.int .i32 c, v], by rw [List.length_append]; exact hr, ?_, fun k hk => ?_⟩
  · intro g hg' hXg
    rcases hm with ⟨_, e⟩ | ⟨g', e, hge⟩
    · exact h2 g (by rw [← e]; exact hg') hXg
    · rw [e] at hg'
      injection hg' with hg'
      have := hX g hXg
      omega
  · by_cases hlt : k < l.length
    · obtain ⟨e1, u, e2, e3, e4⟩ := h3 k hlt
      rw [List.getElem_append_left hlt]
      refine ⟨by rw [List.getElem?_append_left (by omega)]; exact e1, u, by rw [List.getElem?_append_left (by omega)]; exact e2, World.ownsRow.kept e3 hg (own_apart e3 h1 (by decide)), e4⟩
    · have hkl : k = l.length := by rw [List.length_append, List.length_singleton] at hk; omega
      subst hkl
      rw [List.getElem_append_right (Nat.le_refl _)]
      simp only [Nat.sub_self, List.getElem_cons_zero]
      refine ⟨by rw [List.getElem?_append_right (by omega), show 2 * l.length - es.length = 0 by omega]; rfl, v, by rw [List.getElem?_append_right (by omega), show 2 * l.length + 1 - es.length = 1 by omega]; rfl, World.ownsRow.kept hv hg (own_apart hv h1 (by decide)), hvx⟩
/-- Words that are read, in blocks below B. -/
def AnsAt (B : Nat) (w : World) (v : Value) (l : List Int) : Prop :=
  ∃ (A : Option Addr) (c : Nat), v = .slice A l.length c ∧ l.length ≤ c ∧ c ≤ maxLen ∧ ∀ k (h : k < l.length), ∃ ad, A = some ad ∧ (ad.add k).block < B ∧ w.cell? (ad.add k) = some (.int .i32 l[k])
theorem AnsAt.of_words {B : Nat} {w : World} {v : Value} {l : List Int} (h : WordsAt w v l) (hB : w.heap.size ≤ B) : AnsAt B w v l := by
  obtain ⟨A, c, e, h1, h2, h3⟩ := h
  refine ⟨A, c, e, h1, h2, fun k hk => ?_⟩
  obtain ⟨ad, e, hc⟩ := h3 k hk
  exact ⟨ad, e, Nat.lt_of_lt_of_le (lt_of_cell hc) hB, hc⟩
theorem AnsAt.words {B : Nat} {w : World} {v : Value} {l : List Int} (h : AnsAt B w v l) : WordsAt w v l := by
  obtain ⟨A, c, e, h1, h2, h3⟩ := h
  refine ⟨A, c, e, h1, h2, fun k hk => ?_⟩
  obtain ⟨ad, e, _, hc⟩ := h3 k hk
  exact ⟨ad, e, hc⟩
theorem AnsAt.kept {B : Nat} {w w' : World} {v : Value} {l : List Int} {row : Option Nat} (h : AnsAt B w v l) (hg : w.grownBy w' row) (hr : ∀ g, row = some g → B ≤ g) : AnsAt B w' v l := by
  obtain ⟨A, c, e, h1, h2, h3⟩ := h
  refine ⟨A, c, e, h1, h2, fun k hk => ?_⟩
  obtain ⟨ad, e, hb, hc⟩ := h3 k hk
  exact ⟨ad, e, hb, hg.cell hc (fun e => by have := hr _ e.symm; omega)⟩
theorem AnsAt.below {B : Nat} {w w' : World} {v : Value} {l : List Int} (h : AnsAt B w v l) (hb : Below w.heap.size w w') : AnsAt B w' v l := h.kept (grown_of_below hb) (fun g e => by cases e)
/-- All but the blocks X is as it was. -/
structure Chg (X : Nat → Prop) (w w' : World) : Prop where
  os : w'.os = w.os
  tape : w'.tape = w.tape
  output : w'.output = w.output
  size : w.heap.size ≤ w'.heap.size
  block : ∀ k, k < w.heap.size → ¬ X k → w'.heap[k]? = w.heap[k]?
theorem Chg.of_below {X : Nat → Prop} {w w' : World} (h : Below w.heap.size w w') : Chg X w w' := ⟨h.os, h.tape, h.output, h.size, fun k hk _ => h.block k hk⟩
theorem Chg.of_but {X : Nat → Prop} {g : Nat} {w w' : World} (h : But g w w') (hx : X g) : Chg X w w' := ⟨h.os, h.tape, h.output, h.size, fun k hk hn => h.block k hk (fun e => hn (by rw [e]; exact hx))⟩
theorem Chg.of_two {X : Nat → Prop} {g : Nat} {r : Option Nat} {w w' : World} (h : Two (some g) r w w') (hx : X g) (hr : ∀ k, r = some k → X k) : Chg X w w' :=
  ⟨h.os, h.tape, h.output, h.size, fun k hk hn => h.block k hk (fun e => hn (by injection e with e; rw [e]; exact hx)) (fun e => hn (hr k e.symm))⟩
theorem Chg.of_grown {X : Nat → Prop} {r : Option Nat} {w w' : World} (h : w.grownBy w' r) (hr : ∀ k, r = some k → X k) : Chg X w w' := ⟨h.os, h.tape, h.output, h.size, fun k hk hn => h.block k hk (fun e => hn (hr k e.symm))⟩
theorem Chg.trans {X : Nat → Prop} {a b c : World} (h : Chg X a b) (k : Chg X b c) : Chg X a c :=
  ⟨k.os.trans h.os, k.tape.trans h.tape, k.output.trans h.output, Nat.le_trans h.size k.size, fun i hi hn => (k.block i (Nat.lt_of_lt_of_le hi h.size) hn).trans (h.block i hi hn)⟩
theorem Chg.mono {X Y : Nat → Prop} {a b : World} (h : Chg X a b) (hx : ∀ k, k < a.heap.size → X k → Y k) : Chg Y a b := ⟨h.os, h.tape, h.output, h.size, fun k hk hn => h.block k hk (fun e => hn (hx k hk e))⟩
theorem Chg.below {B : Nat} {X : Nat → Prop} {a b : World} (h : Chg X a b) (hx : ∀ k, X k → B ≤ k) (hB : B ≤ a.heap.size) : Below B a b := ⟨h.os, h.tape, h.output, h.size, fun k hk => h.block k (Nat.lt_of_lt_of_le hk hB) (fun e => by have := hx k e; omega)⟩
theorem Chg.str {X : Nat → Prop} {a b : World} (h : Chg X a b) {x : Nat} {t : TypeId} {vs : List Value} (hs : Str a x t vs) (hx : ¬ X x) : Str b x t vs := (h.block x hs.lt hx).trans hs
theorem own_chg {B : Nat} {X : Nat → Prop} {w w' : World} {e : TypeId} {s : Nat} {v : Value} {n : Nat} {xs : List Value} (h : w.ownsRow B e s v n xs) (hc : Chg X w w') (hx : ∀ g, v.ownBlock = some g → ¬ X g) : w'.ownsRow B e s v n xs := by
  obtain ⟨h1, h2⟩ := h
  refine ⟨h1, ?_⟩
  rcases h2 with h2 | ⟨g, cap, cur, rfl, h3, h4, h5⟩
  · exact Or.inl h2
  · have hl : g < w.heap.size := by rcases Nat.lt_or_ge g w.heap.size with hl | hl; exact hl; rw [Array.getElem?_eq_none hl] at h4; cases h4
    exact Or.inr ⟨g, cap, cur, rfl, h3, (hc.block g hl (hx g rfl)).trans h4, h5⟩
theorem EventsAt.chg {B : Nat} {w w' : World} {cs : Value} {l : List (Int × List Int)} {X Y : Nat → Prop} (h : EventsAt B w cs l X) (hc : Chg Y w w') (hx : ∀ k, Y k → X k) : EventsAt B w' cs l X := by
  obtain ⟨es, h1, h2, h3⟩ := h
  refine ⟨es, own_chg h1 hc (fun g hg e => h2 g hg (hx g e)), h2, fun k hk => ?_⟩
  obtain ⟨e1, v, e2, e3, e4⟩ := h3 k hk
  exact ⟨e1, v, e2, own_chg e3 hc (fun g hg e => e4 g hg (hx g e)), e4⟩
theorem AnsAt.chg {B : Nat} {X : Nat → Prop} {w w' : World} {v : Value} {l : List Int} (h : AnsAt B w v l) (hc : Chg X w w') (hr : ∀ g, X g → B ≤ g) : AnsAt B w' v l := by
  obtain ⟨A, c, e, h1, h2, h3⟩ := h
  refine ⟨A, c, e, h1, h2, fun k hk => ?_⟩
  obtain ⟨ad, e, hb, hc2⟩ := h3 k hk
  refine ⟨ad, e, hb, ?_⟩
  rw [World.cell?_of_block (hc.block _ (lt_of_cell hc2) (fun e => by have := hr _ e; omega))]
  exact hc2
/-- A run's registers, slots, memory, calls and steps. -/
structure QSt where
  regs : List Int
  slots : List Int
  mem : List Int
  calls : List (Int × List Int)
  steps : Int
/-- What of a run stays as it was. -/
structure QFix where
  av : Value
  mv : Value
  nv : Value
  max : Int
  sv : Value
  me : Value
def QFix.run (f : QFix) (q : QSt) (ca : Value) (how val : Int) : PRun := { av := f.av, mv := f.mv, nv := f.nv, max := f.max, regs := q.regs, sv := f.sv, how := how, val := val, me := f.me, ca := ca, steps := q.steps }
/-- The blocks of a run that are no row of calls. -/
def QFix.has (f : QFix) (g k : Nat) : Prop := k = g ∨ f.me.ownBlock = some k ∨ f.sv.ownBlock = some k
/-- A run in memory. -/
structure QRun (B g : Nat) (f : QFix) (nl : List Int) (how val : Int) (ca : Value) (w : World) (q : QSt) : Prop where
  run : (f.run q ca how val).At B g w
  me : OwnWords B w f.me q.mem
  sv : OwnWords B w f.sv q.slots
  ev : EventsAt B w ca q.calls (f.has g)
  ap : f.me.ownBlock = none ∨ f.me.ownBlock ≠ f.sv.ownBlock
  ans : AnsAt B w f.nv nl
  base : B ≤ w.heap.size
section
variable {B g : Nat} {f : QFix} {nl : List Int} {how val : Int} {ca : Value} {w w' : World} {q : QSt}
theorem QRun.below (h : QRun B g f nl how val ca w q) (hb : Below w.heap.size w w') : QRun B g f nl how val ca w' q :=
  ⟨h.run.below hb, h.me.below hb, h.sv.below hb, h.ev.below hb, h.ap, h.ans.below hb, Nat.le_trans h.base hb.size⟩
theorem QRun.me_ne (h : QRun B g f nl how val ca w q) : f.me.ownBlock ≠ some g := run_apart h.run h.me
theorem QRun.sv_ne (h : QRun B g f nl how val ca w q) : f.sv.ownBlock ≠ some g := run_apart h.run h.sv
theorem QRun.has_ge (h : QRun B g f nl how val ca w q) (k : Nat) (hk : f.has g k) : B ≤ k := by
  rcases hk with e | e | e
  · rw [e]; exact h.run.1
  · exact (OwnWords.where_ h.me e).1
  · exact (OwnWords.where_ h.sv e).1
theorem QRun.ca_ge (h : QRun B g f nl how val ca w q) (k : Nat) (hk : ca.ownBlock = some k) : B ≤ k := by
  obtain ⟨es, h1, _⟩ := h.ev
  exact (h1.lt k hk).1
/-- A box that is no part of a run. -/
theorem QRun.not_has (h : QRun B g f nl how val ca w q) {x : Nat} {t : TypeId} {vs : List Value} (hs : Str w x t vs) (hg : x ≠ g) (h1 : t ≠ 21) (h2 : t ≠ 56) : ¬ (f.has g x ∨ ca.ownBlock = some x) := by
  rintro ((e | e | e) | e)
  · exact hg e
  · exact Str.not_row hs h1 h.me e.symm
  · exact Str.not_row hs h1 h.sv e.symm
  · obtain ⟨es, h3, _⟩ := h.ev
    exact Str.not_row hs h2 h3 e.symm
/-- The run's own struct was written. -/
theorem QRun.put (h : QRun B g f nl how val ca w q) {how' val' : Int} {r : List Int} {st : Int} (hb : But g w w') (hr : (f.run { q with regs := r, steps := st } ca how' val').At B g w') : QRun B g f nl how' val' ca w' { q with regs := r, steps := st } :=
  have hc : Chg (fun k => k = g) w w' := Chg.of_but hb rfl
  ⟨hr, own_chg h.me hc (fun k e1 e2 => h.me_ne (by rw [e1, e2])), own_chg h.sv hc (fun k e1 e2 => h.sv_ne (by rw [e1, e2])), h.ev.chg hc (fun k e => Or.inl e), h.ap, h.ans.chg hc (fun k e => by rw [e]; exact h.run.1), Nat.le_trans h.base hb.size⟩
end
theorem PRun.At.reg {B g : Nat} {s : PRun} {w : World} (h : s.At B g w) (k : Nat) (x : Int) (hk : k < 16) : ({ s with regs := s.regs.set k x } : PRun).At B g (w.setCell ⟨g, 4 + k, none⟩ (.int .i32 x)) := by
  obtain ⟨h1, h2, hl, hs⟩ := h
  have hlt : k < s.regs.length := by omega
  have e := hs.set (4 + k) (.int .i32 x)
  rw [rg_set h2 hlt x] at e
  exact ⟨h1, h2, by show (s.regs.set k x).length = 16; rw [List.length_set]; exact hl, e⟩
theorem PRun.At.reg_cell {B g : Nat} {s : PRun} {w : World} (h : s.At B g w) (k : Nat) (hk : k < 16) : w.cell? ⟨g, 4 + k, none⟩ = some (.int .i32 (getP s.regs k)) := by
  have hlt : k < s.regs.length := by rw [h.2.2.1]; exact hk
  rw [h.2.2.2.cell (4 + k)]
  have e : getP s.regs (k : Int) = s.regs[k] := by unfold getP; rw [if_pos ⟨by omega, by omega⟩, Int.toNat_natCast, List.getD_eq_getElem?_getD, List.getElem?_eq_getElem hlt]; rfl
  rw [e]
  exact rg_at h.2.1 hlt
end Go.Proofs.Ytdidacjmcafcpaa.Ph
/- Stage 12: slots are loaded and stored, as a run does it. -/
namespace Go.Proofs.Ytdidacjmcafcpaa.Ph
open Go.ChangeShapes Go.WideShapes Go.ChangeAt Go.RowKit Go.Proofs.Ytdidacjmcafcpaa.Mem Go.Proofs.Ytdidacjmcafcpaa.Kc Go.Proofs.Ytdidacjmcafcpaa.Br Go.Proofs.Ytdidacjmcafcpaa.Pl Go.Proofs.Ytdidacjmcafcpaa.Mw Go.Proofs.Ytdidacjmcafcpaa.Mc Go.Proofs.Ytdidacjmcafcpaa.Gr
set_option linter.unusedVariables false
set_option linter.unusedSimpArgs false
set_option maxRecDepth 100000 in
set_option maxHeartbeats 4000000 in
theorem sload_any (w : World) (B g : Nat) (f : QFix) (nl : List Int) (how val : Int) (ca : Value) (q : QSt) (h : QRun B g f nl how val ca w q) (i : PMach) (A : Option Addr) (n k : Nat) (hd : 0 ≤ i.d ∧ i.d < 16) (hs : 0 ≤ i.imm ∧ i.imm < q.slots.length) :
    Calls Try.prog 112 #[.agg #[], .agg #[.int .i64 i.op, .int .i64 i.d, .int .i64 i.e, .int .i64 i.a, .int .i64 i.b, .int .i64 i.c, .int .i32 i.imm, .slice A n k], .pointer (some ⟨g, 0, none⟩)] w fun e w' => e = .returned (.tuple #[.int .i32 0, .bool true]) ∧ QRun B g f nl how val ca w' { q with regs := setP q.regs i.d (getP q.slots i.imm) } ∧ But g w w' := by
  obtain ⟨op, d, e, a, b, c, imm, args⟩ := i
  obtain ⟨av, mv, nv, lim, sv, me⟩ := f
  obtain ⟨j, hj0⟩ : ∃ j : Nat, d = j := ⟨d.toNat, by have : 0 ≤ d := hd.1; omega⟩
  obtain ⟨m, hm0⟩ : ∃ m : Nat, imm = m := ⟨imm.toNat, by have : 0 ≤ imm := hs.1; omega⟩
  subst hj0 hm0
  have hj : j < 16 := by have : (j : Int) < 16 := hd.2; omega
  have hm : m < q.slots.length := by have : (m : Int) < q.slots.length := hs.2; omega
  have hrl : q.regs.length = 16 := h.run.2.2.1
  have hsv : OwnWords B w sv q.slots := h.sv
  have H := Lib.hid h
  have e1 : getP q.slots (m : Int) = q.slots[m] := by unfold getP; rw [if_pos ⟨by omega, by omega⟩, Int.toNat_natCast, List.getD_eq_getElem?_getD, List.getElem?_eq_getElem hm]; rfl
  have HW := Lib.hid (show setP q.regs (j : Int) (getP q.slots (m : Int)) = q.regs.set j q.slots[m] by rw [e1]; unfold setP; rw [if_pos ⟨by omega, by omega⟩, Int.toNat_natCast])
  rcases hsv.2 with ⟨rfl, h0⟩ | ⟨sb, sc, cur, rfl, h1, h2, h3, h4, h5⟩
  · omega
  unfold maxLen at h4
  have hc : w.cell? ⟨sb, m, none⟩ = some (.int .i32 q.slots[m]) := by rw [World.ownsRow.cellAt hsv m (by omega), List.getElem?_map, List.getElem?_eq_getElem hm]; rfl
  clear h hsv h2 h5 hd hs e1 h1
  go_enter Try.func112, Try.ntmps112
  go_upto_region 1 with (fail)
  obtain ⟨W1, hW1⟩ : ∃ W1, (w.alloc (.cells #[] 87)).alloc (.cells #[.int .i64 op, .int .i64 (j : Int), .int .i64 e, .int .i64 a, .int .i64 b, .int .i64 c, .int .i32 (m : Int), .slice A n k] 24) = W1 := ⟨_, rfl⟩
  have hbW1 : Below w.heap.size w W1 := by rw [← hW1]; exact ((Below.refl _ _).alloc (Nat.le_refl _) _).alloc (by simp) _
  have hsW1 : Str W1 (w.heap.size + 1) 24 [.int .i64 op, .int .i64 (j : Int), .int .i64 e, .int .i64 a, .int .i64 b, .int .i64 c, .int .i32 (m : Int), .slice A n k] := by
    have h9 := World.alloc_heap_new (w.alloc (.cells #[] 87)) (.cells #[.int .i64 op, .int .i64 (j : Int), .int .i64 e, .int .i64 a, .int .i64 b, .int .i64 c, .int .i32 (m : Int), .slice A n k] 24)
    rw [hW1] at h9
    simp only [World.size_alloc] at h9
    exact h9
  rw [hW1]
  clear hW1
  have HR := Lib.hid (QRun.below H.out hbW1)
  have m1 : W1.cell? ⟨w.heap.size + 1, 1, none⟩ = some (.int .i64 (j : Int)) := hsW1.cell 1
  have m6 : W1.cell? ⟨w.heap.size + 1, 6, none⟩ = some (.int .i32 (m : Int)) := hsW1.cell 6
  have m20 : W1.cell? ⟨g, 20, none⟩ = some (.slice (some ⟨sb, 0, none⟩) q.slots.length sc) := HR.out.run.cells.2.1
  have mc := cell_keep hbW1 (Nat.le_refl _) hc
  have mf : W1.frozen? ⟨g, 4 + j, none⟩ = false := HR.out.run.frozen (4 + j)
  have md : W1.cell? ⟨g, 4 + j, none⟩ = some (.int .i32 (getP q.regs j)) := HR.out.run.reg_cell j hj
  have HB := Lib.hid hbW1
  clear hbW1 hsW1 hc
  generalize q.slots[m] = z at *
  go_region
  obtain ⟨W2, hW2⟩ : ∃ V, (W1.setCell ⟨g, 4 + j, none⟩ (.int .i32 z)).drew = V := ⟨_, rfl⟩
  have hbt : But g W1 W2 := by rw [← hW2]; exact (but_set _ _ _ _).drew
  have hrn := (PRun.At.reg HR.out.run j z hj).below (Below.refl _ _).drew
  have HQ := Lib.hid (QRun.put (w' := W2) (how' := how) (val' := val) (r := q.regs.set j z) (st := q.steps) HR.out hbt (by rw [← hW2]; exact hrn))
  have HBT := Lib.hid ((But.of_below HB.out).trans hbt)
  rw [hW2]
  clear hW2 hbt hrn m1 m6 m20 mc mf md
  go_wp2_with fail
  go_ret2
  exact ⟨rfl, by rw [HW.out]; exact HQ.out, HBT.out⟩
set_option maxRecDepth 100000 in
set_option maxHeartbeats 4000000 in
theorem sstore_any (w : World) (B g : Nat) (f : QFix) (nl : List Int) (how val : Int) (ca : Value) (q : QSt) (h : QRun B g f nl how val ca w q) (i : PMach) (A : Option Addr) (n k : Nat) (hd : 0 ≤ i.a ∧ i.a < 16) (hs : 0 ≤ i.imm ∧ i.imm < q.slots.length) :
    Calls Try.prog 115 #[.agg #[], .agg #[.int .i64 i.op, .int .i64 i.d, .int .i64 i.e, .int .i64 i.a, .int .i64 i.b, .int .i64 i.c, .int .i32 i.imm, .slice A n k], .pointer (some ⟨g, 0, none⟩)] w fun e w' => e = .returned (.tuple #[.int .i32 0, .bool true]) ∧ QRun B g f nl how val ca w' { q with slots := setP q.slots i.imm (getP q.regs i.a) } ∧ (∃ sb, f.sv.ownBlock = some sb ∧ But sb w w') := by
  obtain ⟨op, d, e, a, b, c, imm, args⟩ := i
  obtain ⟨av, mv, nv, lim, sv, me⟩ := f
  obtain ⟨j, hj0⟩ : ∃ j : Nat, a = j := ⟨a.toNat, by have : 0 ≤ a := hd.1; omega⟩
  obtain ⟨m, hm0⟩ : ∃ m : Nat, imm = m := ⟨imm.toNat, by have : 0 ≤ imm := hs.1; omega⟩
  subst hj0 hm0
  have hj : j < 16 := by have : (j : Int) < 16 := hd.2; omega
  have hm : m < q.slots.length := by have : (m : Int) < q.slots.length := hs.2; omega
  have hrl : q.regs.length = 16 := h.run.2.2.1
  have hsv : OwnWords B w sv q.slots := h.sv
  have H := Lib.hid h
  have HW := Lib.hid (show setP q.slots (m : Int) (getP q.regs (j : Int)) = q.slots.set m (getP q.regs (j : Int)) by unfold setP; rw [if_pos ⟨by omega, by omega⟩, Int.toNat_natCast])
  rcases hsv.2 with ⟨rfl, h0⟩ | ⟨sb, sc, cur, rfl, h1, h2, h3, h4, h5⟩
  · omega
  unfold maxLen at h4
  have HS := Lib.hid (World.ownsRow.stored (w := w) hsv m)
  have hap : me.ownBlock = none ∨ me.ownBlock ≠ some sb := h.ap
  have hsg : sb ≠ g := fun e => h.sv_ne (by show some sb = some g; rw [e])
  have hsB : B ≤ sb := (OwnWords.where_ hsv rfl).1
  have hc : w.cell? ⟨sb, m, none⟩ = some (.int .i32 q.slots[m]) := by rw [World.ownsRow.cellAt hsv m (by omega), List.getElem?_map, List.getElem?_eq_getElem hm]; rfl
  clear h hsv h2 h5 hd hs h1
  go_enter Try.func115, Try.ntmps115
  go_upto_region 1 with (fail)
  obtain ⟨W1, hW1⟩ : ∃ W1, (w.alloc (.cells #[] 88)).alloc (.cells #[.int .i64 op, .int .i64 d, .int .i64 e, .int .i64 (j : Int), .int .i64 b, .int .i64 c, .int .i32 (m : Int), .slice A n k] 24) = W1 := ⟨_, rfl⟩
  have hbW1 : Below w.heap.size w W1 := by rw [← hW1]; exact ((Below.refl _ _).alloc (Nat.le_refl _) _).alloc (by simp) _
  have hsW1 : Str W1 (w.heap.size + 1) 24 [.int .i64 op, .int .i64 d, .int .i64 e, .int .i64 (j : Int), .int .i64 b, .int .i64 c, .int .i32 (m : Int), .slice A n k] := by
    have h9 := World.alloc_heap_new (w.alloc (.cells #[] 88)) (.cells #[.int .i64 op, .int .i64 d, .int .i64 e, .int .i64 (j : Int), .int .i64 b, .int .i64 c, .int .i32 (m : Int), .slice A n k] 24)
    rw [hW1] at h9
    simp only [World.size_alloc] at h9
    exact h9
  rw [hW1]
  clear hW1
  have HR := Lib.hid (QRun.below H.out hbW1)
  have m3 : W1.cell? ⟨w.heap.size + 1, 3, none⟩ = some (.int .i64 (j : Int)) := hsW1.cell 3
  have m6 : W1.cell? ⟨w.heap.size + 1, 6, none⟩ = some (.int .i32 (m : Int)) := hsW1.cell 6
  have m20 : W1.cell? ⟨g, 20, none⟩ = some (.slice (some ⟨sb, 0, none⟩) q.slots.length sc) := HR.out.run.cells.2.1
  have mc := cell_keep hbW1 (Nat.le_refl _) hc
  have mf : W1.frozen? ⟨sb, m, none⟩ = false := World.ownsRow.frozenAt HR.out.sv m
  have md : W1.cell? ⟨g, 4 + j, none⟩ = some (.int .i32 (getP q.regs j)) := HR.out.run.reg_cell j hj
  have HB := Lib.hid hbW1
  clear hbW1 hsW1 hc
  obtain ⟨z, hz⟩ : ∃ z, getP q.regs (j : Int) = z := ⟨_, rfl⟩
  rw [hz] at md HW
  have HZ := Lib.hid hz
  generalize q.slots[m] = zo at *
  clear hz
  go_region
  obtain ⟨W2, hW2⟩ : ∃ V, (W1.setCell ⟨sb, m, none⟩ (.int .i32 z)).drew = V := ⟨_, rfl⟩
  have hbt : But sb W1 W2 := by rw [← hW2]; exact (but_set _ _ _ _).drew
  have hst : OwnWords B W2 (.slice (some ⟨sb, 0, none⟩) q.slots.length sc) (q.slots.set m z) := by
    obtain ⟨s1, s2⟩ := World.ownsRow.stored (w := W1) HR.out.sv m (.int .i32 z)
    rw [← hW2]
    refine OwnWords.below ?_ (Below.refl _ _).drew
    unfold OwnWords
    rw [List.length_set, List.map_set]
    exact s1
  have hcg : Chg (fun k => k = sb) W1 W2 := Chg.of_but hbt rfl
  have HQ := Lib.hid (show QRun B g ⟨av, mv, nv, lim, .slice (some ⟨sb, 0, none⟩) q.slots.length sc, me⟩ nl how val ca W2 { q with slots := q.slots.set m z } from
    ⟨⟨HR.out.run.1, HR.out.run.2.1, HR.out.run.2.2.1, hcg.str HR.out.run.2.2.2 (fun e => hsg e.symm)⟩, own_chg HR.out.me hcg (fun k e1 e2 => by
      rcases hap with e | e
      · rw [show me.ownBlock = some k from e1] at e; cases e
      · exact e (by rw [← e2]; exact e1)), hst, HR.out.ev.chg hcg (fun k e => Or.inr (Or.inr (by rw [e]; rfl))), HR.out.ap, HR.out.ans.chg hcg (fun k e => by rw [e]; exact hsB), Nat.le_trans HR.out.base hbt.size⟩)
  have HBT := Lib.hid ((But.of_below HB.out).trans hbt)
  rw [hW2]
  clear hW2 hbt hst hcg m3 m6 m20 mc mf md
  go_wp2_with fail
  go_ret2
  exact ⟨rfl, by rw [show _ = z from HZ.out, HW.out]; exact HQ.out, sb, rfl, HBT.out⟩
end Go.Proofs.Ytdidacjmcafcpaa.Ph
/- Stage 12: a call is noted down and answered, as a run does it. -/
namespace Go.Proofs.Ytdidacjmcafcpaa.Ph
open Go.ChangeShapes Go.WideShapes Go.ChangeAt Go.RowKit Go.Proofs.Ytdidacjmcafcpaa.Mem Go.Proofs.Ytdidacjmcafcpaa.Kc Go.Proofs.Ytdidacjmcafcpaa.Br Go.Proofs.Ytdidacjmcafcpaa.Pl Go.Proofs.Ytdidacjmcafcpaa.Mw Go.Proofs.Ytdidacjmcafcpaa.Mc Go.Proofs.Ytdidacjmcafcpaa.Gr
set_option linter.unusedVariables false
set_option linter.unusedSimpArgs false
theorem info_event : (Try.prog.info? 56).map (fun i => (i.zero, i.size, i.bytes)) = some (some (.agg #[.int .i32 0, .slice none 0 0]), 2, 32) := by kernel_rfl
def CallQ (B g : Nat) (f : QFix) (nl : List Int) (how val : Int) (ca : Value) (q : QSt) (imm : Int) (args : List Int) (w : World) (e : Ending) (w' : World) : Prop :=
  ∃ ca', e = .returned (.int .i32 (nl.getD q.calls.length 0)) ∧ QRun B g f nl how val ca' w' { q with calls := q.calls ++ [(imm, args.map (getP q.regs))] } ∧ Chg (fun k => f.has g k ∨ ca.ownBlock = some k) w w' ∧ (∀ k, ca'.ownBlock = some k → ca.ownBlock = some k ∨ w.heap.size ≤ k)
/-- The run, when its row of calls has one more. -/
theorem QRun.pushed {B g : Nat} {f : QFix} {nl : List Int} {how val : Int} {ca ca' v : Value} {w w2 w3 : World} {q : QSt} {es : List Value} {c : Int} {a : List Int} (h : QRun B g f nl how val ca w q)
    (h1 : w.ownsRow B 56 2 ca q.calls.length es) (h2 : ∀ g', ca.ownBlock = some g' → ¬ f.has g g')
    (h3 : ∀ k (h : k < q.calls.length), es[2 * k]? = some (.int .i32 q.calls[k].1) ∧ ∃ v, es[2 * k + 1]? = some v ∧ OwnWords B w v q.calls[k].2 ∧ ∀ g', v.ownBlock = some g' → ¬ f.has g g')
    (hb : Below w.heap.size w w2) (hv : OwnWords w.heap.size w2 v a) (hr : w3.ownsRow B 56 2 ca' (q.calls.length + 1) (es ++ [.int .i32 c, v])) (hg : w2.grownBy w3 ca.ownBlock) (hm : Moved w2 ca ca') :
    QRun B g f nl how val ca' (w3.setCell ⟨g, 24, none⟩ ca') { q with calls := q.calls ++ [(c, a)] } ∧ Chg (fun k => f.has g k ∨ ca.ownBlock = some k) w (w3.setCell ⟨g, 24, none⟩ ca') := by
  have hX : ∀ k, f.has g k → k < w.heap.size := by
    rintro k (e | e | e)
    · rw [e]; exact h.run.2.2.2.lt
    · exact (OwnWords.where_ h.me e).2
    · exact (OwnWords.where_ h.sv e).2
  have hsz := hb.size
  have h2b : QRun B g f nl how val ca w2 q := h.below hb
  have hcg : Chg (fun k => ca.ownBlock = some k) w2 w3 := Chg.of_grown hg (fun k e => e)
  have hcs : Chg (fun k => k = g) w3 (w3.setCell ⟨g, 24, none⟩ ca') := Chg.of_but (but_set _ _ _ _) rfl
  have hrun3 : (f.run q ca how val).At B g w3 := ⟨h2b.run.1, h2b.run.2.1, h2b.run.2.2.1, hcg.str h2b.run.2.2.2 (fun e => h2 g e (Or.inl rfl))⟩
  have hrun4 : (f.run { q with calls := q.calls ++ [(c, a)] } ca' how val).At B g (w3.setCell ⟨g, 20 + 4, none⟩ ca') := PRun.At.put (t := f.run { q with calls := q.calls ++ [(c, a)] } ca' how val) hrun3 4 ca' rfl rfl rfl
  have hev := (EventsAt.push (own_below h1 hb) h2 (fun k hk => by
        obtain ⟨e1, u, e2, e3, e4⟩ := h3 k hk
        exact ⟨e1, u, e2, e3.below hb, e4⟩) (fun k hk => Nat.lt_of_lt_of_le (hX k hk) hsz) (OwnWords.mono hv h.base) (fun k e1 e2 => by have := (OwnWords.where_ hv e1).1; have := hX k e2; omega) hr hg hm)
  refine ⟨⟨hrun4, ?_, ?_, hev.chg hcs (fun k e => Or.inl e), h.ap, ?_, Nat.le_trans h2b.base (Nat.le_trans hcg.size hcs.size)⟩, ?_⟩
  · exact own_chg (own_chg h2b.me hcg (fun k e1 e2 => h2 k e2 (Or.inr (Or.inl e1)))) hcs (fun k e1 e2 => h.me_ne (by rw [e1, e2]))
  · exact own_chg (own_chg h2b.sv hcg (fun k e1 e2 => h2 k e2 (Or.inr (Or.inr e1)))) hcs (fun k e1 e2 => h.sv_ne (by rw [e1, e2]))
  · exact (h2b.ans.chg hcg (fun k e => h2b.ca_ge k e)).chg hcs (fun k e => by rw [e]; exact h.run.1)
  · exact (Chg.of_below hb).trans ((hcg.mono (fun k _ e => Or.inr e)).trans (hcs.mono (fun k _ e => Or.inl (Or.inl e))))
set_option maxRecDepth 100000 in
set_option maxHeartbeats 4000000 in
theorem rcall_any (w : World) (B g : Nat) (f : QFix) (nl : List Int) (how val : Int) (ca : Value) (q : QSt) (h : QRun B g f nl how val ca w q) (i : PMach) (A : Option Addr) (k : Nat) (hv : Ints w (.slice A i.args.length k) i.args) (hl : i.args.length ≤ 4) (hin : ∀ z ∈ i.args, 0 ≤ z ∧ z < 16) (hcl : q.calls.length ≤ 1000000) (hnl : nl.length ≤ 1000000) :
    Calls Try.prog 111 #[.pointer (some ⟨g, 0, none⟩), .agg #[.int .i64 i.op, .int .i64 i.d, .int .i64 i.e, .int .i64 i.a, .int .i64 i.b, .int .i64 i.c, .int .i32 i.imm, .slice A i.args.length k]] w (CallQ B g f nl how val ca q i.imm i.args w) := by
  have H := Lib.hid h
  have HV := Lib.hid hv
  have HIN := Lib.hid hin
  obtain ⟨es, h1, h2, h3⟩ := h.ev
  obtain ⟨cA, ck, rfl⟩ := own_form h1
  obtain ⟨av, mv, nv, lim, sv, me⟩ := f
  have hans : AnsAt B w nv nl := h.ans
  obtain ⟨nA, nc, rfl, n1, n2, n3⟩ := hans
  have H1 := Lib.hid h1
  have H2 := Lib.hid h2
  have H3 := Lib.hid h3
  have hbs := h.base
  have hgl := h.run.2.2.2.lt
  have hlx : i.args.length ≤ 9223372036854775807 := by omega
  unfold maxLen at n2
  obtain ⟨i0, hi, hz0, hz1, hz2⟩ := info_parts info_event
  have HI0 := Lib.hid hi
  have HZ0 := Lib.hid hz0
  have HZ1 := Lib.hid hz1
  have HZ2 := Lib.hid hz2
  obtain ⟨i1, hi, hz0, hz1, hz2⟩ := info_parts info_word
  have HJ0 := Lib.hid hi
  have HY0 := Lib.hid hz0
  have HY1 := Lib.hid hz1
  have HY2 := Lib.hid hz2
  clear h h1 h2 h3 n3 hi hz0 hz1 hz2 hv hin
  go_enter Try.func111, Try.ntmps111
  go_upto_region 1 with (fail)
  obtain ⟨W1, hW1⟩ : ∃ W1, w.alloc (.cells #[.int .i64 i.op, .int .i64 i.d, .int .i64 i.e, .int .i64 i.a, .int .i64 i.b, .int .i64 i.c, .int .i32 i.imm, .slice A i.args.length k] 24) = W1 := ⟨_, rfl⟩
  have hbW1 : Below w.heap.size w W1 := by rw [← hW1]; exact (Below.refl _ _).alloc (Nat.le_refl _) _
  have hsW1 : Str W1 w.heap.size 24 [.int .i64 i.op, .int .i64 i.d, .int .i64 i.e, .int .i64 i.a, .int .i64 i.b, .int .i64 i.c, .int .i32 i.imm, .slice A i.args.length k] := by rw [← hW1]; exact World.alloc_heap_new w _
  have hzW1 : W1.heap.size = w.heap.size + 1 := by rw [← hW1, World.size_alloc]
  rw [hW1]
  clear hW1
  have HS1 := Lib.hid hsW1
  have HB1 := Lib.hid hbW1
  have m6 : W1.cell? ⟨w.heap.size, 6, none⟩ = some (.int .i32 i.imm) := hsW1.cell 6
  clear hbW1 hsW1
  go_upto_region 2 with (fail)
  obtain ⟨W2, hW2⟩ : ∃ V, W1.alloc (.cells #[.int .i32 i.imm, .slice none 0 0] 56) = V := ⟨_, rfl⟩
  have hbW2 : Below W1.heap.size W1 W2 := by rw [← hW2]; exact (Below.refl _ _).alloc (Nat.le_refl _) _
  have hsW2 : Str W2 W1.heap.size 56 [.int .i32 i.imm, .slice none 0 0] := by rw [← hW2]; exact World.alloc_heap_new W1 _
  rw [hW2]
  clear hW2
  rw [hzW1] at hsW2
  have m7 : W2.cell? ⟨w.heap.size, 7, none⟩ = some (.slice A i.args.length k) := (HS1.out.below hbW2).cell 7
  have HS2 := Lib.hid hsW2
  have HB2 := Lib.hid (HB1.out.trans (hbW2.mono HB1.out.size))
  clear hbW2 hsW2 m6 hzW1
  go_wp2_with fail
  go_loopw [7, 16] (fun _ j wr => ∃ p : Nat, p ≤ i.args.length ∧ j = .int .i64 p ∧ ∃ vA vc, OwnWords w.heap.size wr (.slice vA p vc) ((i.args.take p).map (getP q.regs)) ∧ Str wr (w.heap.size + 1) 56 [.int .i32 i.imm, .slice vA p vc] ∧ Below w.heap.size w wr) (fun _ j _ => i.args.length - (intOf j).toNat)
  case atStart => exact ⟨0, Nat.zero_le _, rfl, none, 0, World.ownsRow_nil _ _ _ _, HS2.out, HB2.out⟩
  case round =>
    obtain ⟨p, hp, rfl, vA, vc, ho, hs, hb⟩ := hrel
    by_cases hlt : p < i.args.length
    · have HO := Lib.hid ho
      have HS := Lib.hid hs
      have HB := Lib.hid hb
      obtain ⟨A', c', e, _, _, hall⟩ := HV.out.keep hb
      injection e with e1 _ e3
      subst e1 e3
      obtain ⟨ad, rfl, hai⟩ := hall p hlt
      clear hall
      have hz := HIN.out i.args[p] (List.getElem_mem _)
      obtain ⟨r, hr⟩ : ∃ r : Nat, i.args[p] = (r : Int) := ⟨i.args[p].toNat, by omega⟩
      have HTK := Lib.hid (show (i.args.take (p + 1)).map (getP q.regs) = (i.args.take p).map (getP q.regs) ++ [getP q.regs (r : Int)] by
        rw [List.take_succ_eq_append_getElem hlt, List.map_append, hr]; rfl)
      have hr16 : r < 16 := by omega
      have HR := Lib.hid (QRun.below H.out hb)
      have mr : wr.cell? ⟨g, 4 + r, none⟩ = some (.int .i32 (getP q.regs (r : Int))) := HR.out.run.reg_cell r hr16
      have me1 : wr.cell? ⟨w.heap.size + 1, 1, none⟩ = some (.slice vA p vc) := hs.cell 1
      obtain ⟨z, hzz⟩ : ∃ z, getP q.regs (r : Int) = z := ⟨_, rfl⟩
      rw [hzz] at mr HTK
      clear ho hs hb hz hzz
      rw [hr] at hai
      clear hr
      go_upto_region 5 with (fail)
      refine region_heldT_wp (fun w' => w'.cell? ⟨w.heap.size + 1, 1, none⟩ = some (.slice vA p vc) ∧ w'.cell? ⟨g, 4 + r, none⟩ = some (.int .i32 z)) [0, 1, 2, 3, 4, 5, 6, 7, 10] [0, 1, 2, 3, 4, 5, 6, 7, 8, 9, 10, 11] 11 (by kernel_rfl) (by kernel_rfl) (by kernel_rfl) (by kernel_rfl) rfl (by intro c a d v w h; cases d <;> exact h) ⟨me1, mr⟩ ?_
      refine walkH_still _ ?s0 rfl rfl rfl ?sy0 ?_
      case sy0 => intro w hS; obtain ⟨me1, mr⟩ := hS; go_simp; first | done | with_reducible rfl | (rw [if_pos (show (r : Int) < 16 by omega)])
      simp only [Act.put]
      try simp only [List.setIfInBounds_toArray, List.set_cons_zero, List.set_cons_succ]
      refine walkH_still _ ?s1 rfl rfl rfl ?sy1 ?_
      case sy1 => intro w hS; obtain ⟨me1, mr⟩ := hS; go_simp; first | done | with_reducible rfl | (rw [if_pos (show (r : Int) < 16 by omega)])
      simp only [Act.put]
      try simp only [List.setIfInBounds_toArray, List.set_cons_zero, List.set_cons_succ]
      refine walkH_still _ ?s2 rfl rfl rfl ?sy2 ?_
      case sy2 => intro w hS; obtain ⟨me1, mr⟩ := hS; go_simp; first | done | with_reducible rfl | (rw [if_pos (show (r : Int) < 16 by omega)])
      simp only [Act.put]
      try simp only [List.setIfInBounds_toArray, List.set_cons_zero, List.set_cons_succ]
      refine walkH_still _ ?s3 rfl rfl rfl ?sy3 ?_
      case sy3 => intro w hS; obtain ⟨me1, mr⟩ := hS; go_simp; first | done | with_reducible rfl | (rw [if_pos (show (r : Int) < 16 by omega)])
      simp only [Act.put]
      try simp only [List.setIfInBounds_toArray, List.set_cons_zero, List.set_cons_succ]
      refine walkH_still _ ?s4 rfl rfl rfl ?sy4 ?_
      case sy4 => intro w hS; obtain ⟨me1, mr⟩ := hS; go_simp; first | done | with_reducible rfl | (rw [if_pos (show (r : Int) < 16 by omega)])
      simp only [Act.put]
      try simp only [List.setIfInBounds_toArray, List.set_cons_zero, List.set_cons_succ]
      refine walkH_still _ ?s5 rfl rfl rfl ?sy5 ?_
      case sy5 => intro w hS; obtain ⟨me1, mr⟩ := hS; go_simp; first | done | with_reducible rfl | (rw [if_pos (show (r : Int) < 16 by omega)])
      simp only [Act.put]
      try simp only [List.setIfInBounds_toArray, List.set_cons_zero, List.set_cons_succ]
      refine walkH_still _ ?s6 rfl rfl rfl ?sy6 ?_
      case sy6 => intro w hS; obtain ⟨me1, mr⟩ := hS; go_simp; first | done | with_reducible rfl | (rw [if_pos (show (r : Int) < 16 by omega)])
      simp only [Act.put]
      try simp only [List.setIfInBounds_toArray, List.set_cons_zero, List.set_cons_succ]
      refine walkH_still _ ?s7 rfl rfl rfl ?sy7 ?_
      case sy7 => intro w hS; obtain ⟨me1, mr⟩ := hS; go_simp; first | done | with_reducible rfl | (rw [if_pos (show (r : Int) < 16 by omega)])
      simp only [Act.put]
      try simp only [List.setIfInBounds_toArray, List.set_cons_zero, List.set_cons_succ]
      refine walkHd _ rfl rfl ?_
      go_wp2
      obtain ⟨W3, hW3⟩ : ∃ V, (wr.alloc (.cells #[.int .i32 z] 21)).drew = V := ⟨_, rfl⟩
      have hb3 : Below wr.heap.size wr W3 := by rw [← hW3]; exact ((Below.refl _ _).alloc (Nat.le_refl _) _).drew
      have hs3 : Str W3 wr.heap.size 21 [.int .i32 z] := by rw [← hW3]; exact World.alloc_heap_new wr _
      rw [hW3]
      clear hW3
      have HS3 := Lib.hid hs3
      have HO3 := Lib.hid (HO.out.below hb3)
      have HE3 := Lib.hid (HS.out.below hb3)
      have HB3 := Lib.hid (HB.out.trans (hb3.mono HB.out.size))
      have hgl3 : g < wr.heap.size := HR.out.run.2.2.2.lt
      have HR3 := Lib.hid (QRun.below HR.out hb3)
      refine behindH (Or.inl ⟨cell_keep hb3 (Nat.le_refl _) me1, cell_keep hb3 (Nat.le_refl _) mr⟩) ?_
      try simp only [List.setIfInBounds_toArray, List.set_cons_zero, List.set_cons_succ]
      refine walkHd _ rfl rfl ?_
      refine wpList_append1 rfl _ _ _ rfl w.heap.size 21 i1 (.int .i32 0) 4 Try.underlying36 HJ0.out HY0.out HY1.out HY2.out rfl (.slice vA p vc) p (((i.args.take p).map (getP q.regs)).map (Value.int .i32)) rfl (by have h9 := HO3.out; unfold OwnWords at h9; rw [List.length_map, List.length_take, Nat.min_eq_left hp] at h9; exact h9) ⟨wr.heap.size, 0, none⟩ (.int .i32 z) rfl (HS3.out.cell 0) rfl (by omega) (by omega) HB3.out.size ?_
      intro v4 w4 hr4 hg4 _
      have ho4 : OwnWords w.heap.size w4 v4 ((i.args.take (p + 1)).map (getP q.regs)) := by
        unfold OwnWords
        rw [HTK.out, List.map_append, List.length_append, List.length_map, List.length_take, Nat.min_eq_left hp]
        exact hr4
      obtain ⟨zA, zc, hv4⟩ := own_form hr4
      subst hv4
      have HO4 := Lib.hid ho4
      have hne : some (w.heap.size + 1) ≠ (Value.slice vA p vc).ownBlock := Str.not_row HE3.out (by decide) HO3.out
      have HE4 := Lib.hid (HE3.out.kept hg4 hne)
      have hb4 : Below w.heap.size W3 w4 := ⟨hg4.os, hg4.tape, hg4.output, hg4.size, fun k hk => hg4.block k (Nat.lt_of_lt_of_le hk HB3.out.size) (fun e => by have := (OwnWords.where_ HO3.out e.symm).1; omega)⟩
      have HB4 := Lib.hid (HB3.out.trans hb4)
      have me4 : w4.cell? ⟨w.heap.size + 1, 1, none⟩ = some (.slice vA p vc) := HE4.out.cell 1
      have mf4 := HE4.out.frozen 1
      have mr4 : w4.cell? ⟨g, 4 + r, none⟩ = some (.int .i32 z) := by
        have hgb := hb4.block g hgl
        rw [World.cell?_of_block hgb]
        exact cell_keep hb3 (Nat.le_refl _) mr
      clear hr4 hg4 ho4 hs3
      refine wpList_nil (behindH (Or.inl ⟨me4, mr4⟩) ?_)
      refine walkH_still _ ?s10 rfl rfl rfl ?sy10 ?_
      case sy10 => intro w hS; go_simp; first | done | with_reducible rfl
      simp only [Act.put]
      try simp only [List.setIfInBounds_toArray, List.set_cons_zero, List.set_cons_succ]
      refine walkHd _ rfl rfl ?_
      go_wp2
      refine behindH (Or.inr rfl) (walkH_nil ?_)
      have hbt := but_set (w.heap.size + 1) 1 (.slice zA (p + 1) zc) w4
      have HE5 := Lib.hid (show Str _ (w.heap.size + 1) 56 [.int .i32 i.imm, .slice zA (p + 1) zc] from HE4.out.set 1 (.slice zA (p + 1) zc))
      have HO5 := Lib.hid (show OwnWords w.heap.size _ (.slice zA (p + 1) zc) _ from OwnWords.but HO4.out hbt (fun e => Str.not_row HE4.out (by decide) HO4.out e.symm))
      have HB5 := Lib.hid (HB4.out.trans (below_of_but hbt (by omega) HB4.out.size))
      clear hbt me4 mf4 mr4
      go_wp2_with fail
      exact ⟨⟨p + 1, by omega, by go_num, zA, zc, HO5.out, HE5.out, HB5.out⟩, by simp [intOf]; omega⟩
    · obtain rfl : p = i.args.length := by omega
      rw [List.take_length] at ho
      obtain ⟨al, hal⟩ : ∃ al, i.args.map (getP q.regs) = al := ⟨_, rfl⟩
      have HAL := Lib.hid hal
      rw [hal] at ho
      have HO := Lib.hid ho
      have HS := Lib.hid hs
      have HB := Lib.hid hb
      have HR := Lib.hid (QRun.below H.out hb)
      clear ho hs hb hal
      obtain ⟨wo, hwo⟩ : ∃ wo : World, wo = wr := ⟨_, rfl⟩
      rw [← hwo] at HO HS HB HR
      rw [← hwo]
      clear hwo
      clear wr
      have k24 : wo.cell? ⟨g, 24, none⟩ = some (.slice cA q.calls.length ck) := HR.out.run.cells.2.2.2.2.2.1
      have k2 : wo.cell? ⟨g, 2, none⟩ = some (.slice nA nl.length nc) := by rw [HR.out.run.2.2.2.cell 2]; rfl
      have e0 : wo.cell? ⟨w.heap.size + 1, 0, none⟩ = some (.int .i32 i.imm) := HS.out.cell 0
      have e1 : wo.cell? ⟨w.heap.size + 1, 1, none⟩ = some (.slice vA i.args.length vc) := HS.out.cell 1
      have hz2 : (Value.slice vA i.args.length vc).ownBlock ≠ some (w.heap.size + 1) := fun e => Str.not_row HS.out (by decide) HO.out e.symm
      have hJ : ∀ W : World, W = wo → True := fun _ _ => trivial
      have HVAL := Lib.hid (show ∃ z, nl.getD q.calls.length 0 = z from ⟨_, rfl⟩)
      by_cases hlt : q.calls.length < nl.length
      · obtain ⟨nA', nc', e, _, _, n4⟩ := HR.out.ans
        injection e with e1' _ e3'
        subst e1' e3'
        obtain ⟨ad2, hnA, hbk, hc4⟩ := n4 _ hlt
        have HV4 := Lib.hid (show nl.getD q.calls.length 0 = nl[q.calls.length] by rw [List.getD_eq_getElem?_getD, List.getElem?_eq_getElem hlt]; rfl)
        generalize nl[q.calls.length] = z at *
        subst hnA
        clear n4 hbk
        go_wp2_with fail
        refine region_heldT_wp (fun w' => w'.cell? ⟨g, 24, none⟩ = some (.slice cA q.calls.length ck) ∧ w'.cell? ⟨w.heap.size + 1, 0, none⟩ = some (.int .i32 i.imm) ∧ w'.cell? ⟨w.heap.size + 1, 1, none⟩ = some (.slice vA i.args.length vc)) [0, 1, 2, 3, 4, 5, 6, 9, 10, 11] [0, 1, 2, 3, 4, 5, 6, 7, 8, 9, 10, 11, 12] 12 (by kernel_rfl) (by kernel_rfl) (by kernel_rfl) (by kernel_rfl) rfl (by intro c a d v w h; cases d <;> exact h) ⟨k24, e0, e1⟩ ?_
        refine walkH_still _ ?ta0 rfl rfl rfl ?tay0 ?_
        case tay0 => intro w hS; obtain ⟨k24, e0, e1⟩ := hS; go_simp; first | done | with_reducible rfl
        simp only [Act.put]
        try simp only [List.setIfInBounds_toArray, List.set_cons_zero, List.set_cons_succ]
        refine walkH_still _ ?ta1 rfl rfl rfl ?tay1 ?_
        case tay1 => intro w hS; obtain ⟨k24, e0, e1⟩ := hS; go_simp; first | done | with_reducible rfl
        simp only [Act.put]
        try simp only [List.setIfInBounds_toArray, List.set_cons_zero, List.set_cons_succ]
        refine walkH_still _ ?ta2 rfl rfl rfl ?tay2 ?_
        case tay2 => intro w hS; obtain ⟨k24, e0, e1⟩ := hS; go_simp; first | done | with_reducible rfl
        simp only [Act.put]
        try simp only [List.setIfInBounds_toArray, List.set_cons_zero, List.set_cons_succ]
        refine walkH_still _ ?ta3 rfl rfl rfl ?tay3 ?_
        case tay3 => intro w hS; obtain ⟨k24, e0, e1⟩ := hS; go_simp; first | done | with_reducible rfl
        simp only [Act.put]
        try simp only [List.setIfInBounds_toArray, List.set_cons_zero, List.set_cons_succ]
        refine walkH_still _ ?ta4 rfl rfl rfl ?tay4 ?_
        case tay4 => intro w hS; obtain ⟨k24, e0, e1⟩ := hS; go_simp; first | done | with_reducible rfl
        simp only [Act.put]
        try simp only [List.setIfInBounds_toArray, List.set_cons_zero, List.set_cons_succ]
        refine walkH_still _ ?ta5 rfl rfl rfl ?tay5 ?_
        case tay5 => intro w hS; obtain ⟨k24, e0, e1⟩ := hS; go_simp; first | done | with_reducible rfl
        simp only [Act.put]
        try simp only [List.setIfInBounds_toArray, List.set_cons_zero, List.set_cons_succ]
        refine walkH_still _ ?ta6 rfl rfl rfl ?tay6 ?_
        case tay6 => intro w hS; obtain ⟨k24, e0, e1⟩ := hS; go_simp; first | done | with_reducible rfl
        simp only [Act.put]
        try simp only [List.setIfInBounds_toArray, List.set_cons_zero, List.set_cons_succ]
        refine walkHd _ rfl rfl ?_
        go_wp2
        obtain ⟨W3, hW3⟩ : ∃ V, (wo.alloc (.cells #[.int .i32 i.imm, .slice vA i.args.length vc] 56)).drew = V := ⟨_, rfl⟩
        have hb3 : Below wo.heap.size wo W3 := by rw [← hW3]; exact ((Below.refl _ _).alloc (Nat.le_refl _) _).drew
        have hs3 : Str W3 wo.heap.size 56 [.int .i32 i.imm, .slice vA i.args.length vc] := by rw [← hW3]; exact World.alloc_heap_new wo _
        rw [hW3]
        clear hW3
        have HS3 := Lib.hid hs3
        have HO3 := Lib.hid (HO.out.below hb3)
        have HB3 := Lib.hid (HB.out.trans (hb3.mono HB.out.size))
        have HR3 := Lib.hid (QRun.below HR.out hb3)
        refine behindH (Or.inl ⟨cell_keep hb3 (Nat.le_refl _) k24, cell_keep hb3 (Nat.le_refl _) e0, cell_keep hb3 (Nat.le_refl _) e1⟩) ?_
        try simp only [List.setIfInBounds_toArray, List.set_cons_zero, List.set_cons_succ]
        refine walkHd _ rfl rfl ?_
        refine wpList_appendM rfl _ _ _ rfl B 56 i0 (.agg #[.int .i32 0, .slice none 0 0]) 2 32 Try.underlying37 HI0.out HZ0.out HZ1.out HZ2.out rfl (by decide) (.slice cA q.calls.length ck) q.calls.length es rfl (own_below H1.out HB3.out) ⟨wo.heap.size, 0, none⟩ [.int .i32 i.imm, .slice vA i.args.length vc] rfl rfl ?tanews ?taone hcl (by omega) (Nat.le_trans hbs HB3.out.size) ?_
        case tanews => intro j u hj; rw [at_add0, HS3.out.cell j]; exact hj
        case taone => intro u hu; simp only [List.mem_cons, List.not_mem_nil, or_false] at hu; rcases hu with rfl | rfl <;> rfl
        intro v4 w4 hr4 hg4 hm4
        obtain ⟨rA, rc, rfl⟩ := own_form hr4
        have hn6 : some g ≠ (Value.slice cA q.calls.length ck).ownBlock := fun e => H2.out g e.symm (Or.inl rfl)
        have hst4 := HR3.out.run.2.2.2.kept hg4 hn6
        have hra : (QFix.run ⟨av, mv, .slice (some ad2) nl.length nc, lim, sv, me⟩ q (.slice cA q.calls.length ck) how val).At B g w4 := ⟨HR3.out.run.1, HR3.out.run.2.1, HR3.out.run.2.2.1, hst4⟩
        have m24 : w4.cell? ⟨g, 24, none⟩ = some (.slice cA q.calls.length ck) := hra.cells.2.2.2.2.2.1
        have f24 := hra.frozen 24
        have hev : Str w4 (w.heap.size + 1) 56 [.int .i32 i.imm, .slice vA i.args.length vc] := (HS.out.below hb3).kept hg4 (fun e => by have h9 := (H1.out.lt _ e.symm).2; omega)
        have HP := Lib.hid (QRun.pushed H.out H1.out H2.out H3.out HB3.out HO3.out hr4 hg4 hm4)
        have HMV := Lib.hid hm4
        clear hr4 hg4 hst4 hra
        refine wpList_nil (behindH (Or.inl ⟨m24, hev.cell 0, hev.cell 1⟩) ?_)
        refine walkH_still _ ?ta9 rfl rfl rfl ?tay9 ?_
        case tay9 => intro w hS; go_simp; first | done | with_reducible rfl
        simp only [Act.put]
        try simp only [List.setIfInBounds_toArray, List.set_cons_zero, List.set_cons_succ]
        refine walkH_still _ ?ta10 rfl rfl rfl ?tay10 ?_
        case tay10 => intro w hS; go_simp; first | done | with_reducible rfl
        simp only [Act.put]
        try simp only [List.setIfInBounds_toArray, List.set_cons_zero, List.set_cons_succ]
        refine walkH_still _ ?ta11 rfl rfl rfl ?tay11 ?_
        case tay11 => intro w hS; go_simp; first | done | with_reducible rfl
        simp only [Act.put]
        try simp only [List.setIfInBounds_toArray, List.set_cons_zero, List.set_cons_succ]
        refine walkHd _ rfl rfl ?_
        go_wp2
        refine behindH (Or.inr rfl) (walkH_nil ?_)
        obtain ⟨W5, hW5⟩ : ∃ V, w4.setCell ⟨g, 24, none⟩ (.slice rA (q.calls.length + 1) rc) = V := ⟨_, rfl⟩
        have hP := HP.out
        rw [hW5] at hP ⊢
        have HP5 := Lib.hid hP
        clear hP hW5 HP m24 f24 hm4
        go_wp2_with fail
        go_ret
        refine ⟨_, by rw [HV4.out]; rfl, by rw [HAL.out]; exact HP5.out.1, HP5.out.2, fun k hk => ?_⟩
        rcases HMV.out with ⟨_, e⟩ | ⟨g9, e, hge⟩
        · exact Or.inl (by rw [← e]; exact hk)
        · rw [e] at hk
          injection hk with hk
          exact Or.inr (by have h9 := HB3.out.size; omega)
      · have hle : nl.length ≤ q.calls.length := by omega
        have HV4 := Lib.hid (show nl.getD q.calls.length 0 = 0 by rw [List.getD_eq_getElem?_getD, List.getElem?_eq_none hle]; rfl)
        go_wp2_with fail
        refine region_heldT_wp (fun w' => w'.cell? ⟨g, 24, none⟩ = some (.slice cA q.calls.length ck) ∧ w'.cell? ⟨w.heap.size + 1, 0, none⟩ = some (.int .i32 i.imm) ∧ w'.cell? ⟨w.heap.size + 1, 1, none⟩ = some (.slice vA i.args.length vc)) [0, 1, 2, 3, 4, 5, 6, 9, 10, 11] [0, 1, 2, 3, 4, 5, 6, 7, 8, 9, 10, 11, 12] 12 (by kernel_rfl) (by kernel_rfl) (by kernel_rfl) (by kernel_rfl) rfl (by intro c a d v w h; cases d <;> exact h) ⟨k24, e0, e1⟩ ?_
        refine walkH_still _ ?tb0 rfl rfl rfl ?tby0 ?_
        case tby0 => intro w hS; obtain ⟨k24, e0, e1⟩ := hS; go_simp; first | done | with_reducible rfl
        simp only [Act.put]
        try simp only [List.setIfInBounds_toArray, List.set_cons_zero, List.set_cons_succ]
        refine walkH_still _ ?tb1 rfl rfl rfl ?tby1 ?_
        case tby1 => intro w hS; obtain ⟨k24, e0, e1⟩ := hS; go_simp; first | done | with_reducible rfl
        simp only [Act.put]
        try simp only [List.setIfInBounds_toArray, List.set_cons_zero, List.set_cons_succ]
        refine walkH_still _ ?tb2 rfl rfl rfl ?tby2 ?_
        case tby2 => intro w hS; obtain ⟨k24, e0, e1⟩ := hS; go_simp; first | done | with_reducible rfl
        simp only [Act.put]
        try simp only [List.setIfInBounds_toArray, List.set_cons_zero, List.set_cons_succ]
        refine walkH_still _ ?tb3 rfl rfl rfl ?tby3 ?_
        case tby3 => intro w hS; obtain ⟨k24, e0, e1⟩ := hS; go_simp; first | done | with_reducible rfl
        simp only [Act.put]
        try simp only [List.setIfInBounds_toArray, List.set_cons_zero, List.set_cons_succ]
        refine walkH_still _ ?tb4 rfl rfl rfl ?tby4 ?_
        case tby4 => intro w hS; obtain ⟨k24, e0, e1⟩ := hS; go_simp; first | done | with_reducible rfl
        simp only [Act.put]
        try simp only [List.setIfInBounds_toArray, List.set_cons_zero, List.set_cons_succ]
        refine walkH_still _ ?tb5 rfl rfl rfl ?tby5 ?_
        case tby5 => intro w hS; obtain ⟨k24, e0, e1⟩ := hS; go_simp; first | done | with_reducible rfl
        simp only [Act.put]
        try simp only [List.setIfInBounds_toArray, List.set_cons_zero, List.set_cons_succ]
        refine walkH_still _ ?tb6 rfl rfl rfl ?tby6 ?_
        case tby6 => intro w hS; obtain ⟨k24, e0, e1⟩ := hS; go_simp; first | done | with_reducible rfl
        simp only [Act.put]
        try simp only [List.setIfInBounds_toArray, List.set_cons_zero, List.set_cons_succ]
        refine walkHd _ rfl rfl ?_
        go_wp2
        obtain ⟨W3, hW3⟩ : ∃ V, (wo.alloc (.cells #[.int .i32 i.imm, .slice vA i.args.length vc] 56)).drew = V := ⟨_, rfl⟩
        have hb3 : Below wo.heap.size wo W3 := by rw [← hW3]; exact ((Below.refl _ _).alloc (Nat.le_refl _) _).drew
        have hs3 : Str W3 wo.heap.size 56 [.int .i32 i.imm, .slice vA i.args.length vc] := by rw [← hW3]; exact World.alloc_heap_new wo _
        rw [hW3]
        clear hW3
        have HS3 := Lib.hid hs3
        have HO3 := Lib.hid (HO.out.below hb3)
        have HB3 := Lib.hid (HB.out.trans (hb3.mono HB.out.size))
        have HR3 := Lib.hid (QRun.below HR.out hb3)
        refine behindH (Or.inl ⟨cell_keep hb3 (Nat.le_refl _) k24, cell_keep hb3 (Nat.le_refl _) e0, cell_keep hb3 (Nat.le_refl _) e1⟩) ?_
        try simp only [List.setIfInBounds_toArray, List.set_cons_zero, List.set_cons_succ]
        refine walkHd _ rfl rfl ?_
        refine wpList_appendM rfl _ _ _ rfl B 56 i0 (.agg #[.int .i32 0, .slice none 0 0]) 2 32 Try.underlying37 HI0.out HZ0.out HZ1.out HZ2.out rfl (by decide) (.slice cA q.calls.length ck) q.calls.length es rfl (own_below H1.out HB3.out) ⟨wo.heap.size, 0, none⟩ [.int .i32 i.imm, .slice vA i.args.length vc] rfl rfl ?tbnews ?tbone hcl (by omega) (Nat.le_trans hbs HB3.out.size) ?_
        case tbnews => intro j u hj; rw [at_add0, HS3.out.cell j]; exact hj
        case tbone => intro u hu; simp only [List.mem_cons, List.not_mem_nil, or_false] at hu; rcases hu with rfl | rfl <;> rfl
        intro v4 w4 hr4 hg4 hm4
        obtain ⟨rA, rc, rfl⟩ := own_form hr4
        have hn6 : some g ≠ (Value.slice cA q.calls.length ck).ownBlock := fun e => H2.out g e.symm (Or.inl rfl)
        have hst4 := HR3.out.run.2.2.2.kept hg4 hn6
        have hra : (QFix.run ⟨av, mv, .slice nA nl.length nc, lim, sv, me⟩ q (.slice cA q.calls.length ck) how val).At B g w4 := ⟨HR3.out.run.1, HR3.out.run.2.1, HR3.out.run.2.2.1, hst4⟩
        have m24 : w4.cell? ⟨g, 24, none⟩ = some (.slice cA q.calls.length ck) := hra.cells.2.2.2.2.2.1
        have f24 := hra.frozen 24
        have hev : Str w4 (w.heap.size + 1) 56 [.int .i32 i.imm, .slice vA i.args.length vc] := (HS.out.below hb3).kept hg4 (fun e => by have h9 := (H1.out.lt _ e.symm).2; omega)
        have HP := Lib.hid (QRun.pushed H.out H1.out H2.out H3.out HB3.out HO3.out hr4 hg4 hm4)
        have HMV := Lib.hid hm4
        clear hr4 hg4 hst4 hra
        refine wpList_nil (behindH (Or.inl ⟨m24, hev.cell 0, hev.cell 1⟩) ?_)
        refine walkH_still _ ?tb9 rfl rfl rfl ?tby9 ?_
        case tby9 => intro w hS; go_simp; first | done | with_reducible rfl
        simp only [Act.put]
        try simp only [List.setIfInBounds_toArray, List.set_cons_zero, List.set_cons_succ]
        refine walkH_still _ ?tb10 rfl rfl rfl ?tby10 ?_
        case tby10 => intro w hS; go_simp; first | done | with_reducible rfl
        simp only [Act.put]
        try simp only [List.setIfInBounds_toArray, List.set_cons_zero, List.set_cons_succ]
        refine walkH_still _ ?tb11 rfl rfl rfl ?tby11 ?_
        case tby11 => intro w hS; go_simp; first | done | with_reducible rfl
        simp only [Act.put]
        try simp only [List.setIfInBounds_toArray, List.set_cons_zero, List.set_cons_succ]
        refine walkHd _ rfl rfl ?_
        go_wp2
        refine behindH (Or.inr rfl) (walkH_nil ?_)
        obtain ⟨W5, hW5⟩ : ∃ V, w4.setCell ⟨g, 24, none⟩ (.slice rA (q.calls.length + 1) rc) = V := ⟨_, rfl⟩
        have hP := HP.out
        rw [hW5] at hP ⊢
        have HP5 := Lib.hid hP
        clear hP hW5 HP m24 f24 hm4
        go_wp2_with fail
        go_ret
        refine ⟨_, by rw [HV4.out]; rfl, by rw [HAL.out]; exact HP5.out.1, HP5.out.2, fun k hk => ?_⟩
        rcases HMV.out with ⟨_, e⟩ | ⟨g9, e, hge⟩
        · exact Or.inl (by rw [← e]; exact hk)
        · rw [e] at hk
          injection hk with hk
          exact Or.inr (by have h9 := HB3.out.size; omega)
end Go.Proofs.Ytdidacjmcafcpaa.Ph
